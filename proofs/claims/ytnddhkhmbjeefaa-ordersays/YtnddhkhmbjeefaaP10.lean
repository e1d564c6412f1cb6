/-
  What turn keeps while it goes on, in pure words and in memory. No condition.
-/
import Derived.Test.YtnddhkhmbjeefaaP09
namespace Go.Proofs.Ytnddhkhmbjeefaa
open Go.RowKit Go.Lib Go.Maps

theorem rlN_len (f : Nat → Int) : ∀ n, (rlN f n).length ≤ n
  | 0 => Nat.le_refl _
  | n + 1 => by
    have ih := rlN_len f n
    unfold rlN
    rcases List.eq_nil_or_concat (rlN f n) with h | ⟨l, x, h⟩
    · rw [h]; simp [joinR]
    · rw [h, List.concat_eq_append, joinR_snoc]
      rw [h, List.concat_eq_append, List.length_append, List.length_singleton] at ih
      split
      · simp only [List.length_append, List.length_singleton]; omega
      · simp only [List.length_append, List.length_cons, List.length_nil]; omega
theorem rlN_pos (f : Nat → Int) {n : Nat} (h : 0 < n) : 0 < (rlN f n).length := by
  obtain ⟨k, rfl⟩ : ∃ k, n = k + 1 := ⟨n - 1, by omega⟩
  unfold rlN
  exact List.length_pos_iff.2 (joinR_ne _ _ _)
theorem rlN_fit {f : Nat → Int} {n : Nat} (h0 : 0 < n) (h1 : n ≤ 256) (hf : ∀ a, a < n → 0 ≤ f a ∧ f a < 2147483648) : RFit (rlN f n) := by
  refine ⟨fun y hy => ?_, rlN_pos f h0, Nat.le_trans (rlN_len f n) h1⟩
  obtain ⟨i, hi, rfl⟩ := List.getElem_of_mem hy
  obtain ⟨g0, g1, g2, g3⟩ := (runs_ok f n).each i hi
  have e := g3 (loR (rlN f n) i).toNat (by omega) (by omega)
  have := hf (loR (rlN f n) i).toNat (by omega)
  rw [e] at this
  exact ⟨by omega, by omega, this.1, this.2⟩
/-- A column: by the classes of the row's own level, with the other's class c. -/
def colF (hf : Nat → Nat → Int) (rw : List Rn) (sA c : Nat) : List Rn := rlN (fun a => hf (runIx rw (a : Int)) c) sA
/-- Where a row is read on from, ahead of class e; with class e within it. -/
def PosS (r : List Rn) (j e : Nat) : Prop := ∃ h : j < r.length, loR r j ≤ (e : Int) ∧ (e : Int) ≤ (r[j]).1
def PosT (r : List Rn) (j e : Nat) : Prop := ∃ h : j < r.length, loR r j ≤ (e : Int) ∧ (e : Int) < (r[j]).1
/-- Where a row's run ends. -/
def endR (r : List Rn) (j : Nat) : Int := (r.getD j (0, 0)).1
def toR (r : List Rn) (j : Nat) : Int := (r.getD j (0, 0)).2
theorem endR_at {r : List Rn} {j : Nat} (h : j < r.length) : endR r j = (r[j]).1 ∧ toR r j = (r[j]).2 := by
  unfold endR toR
  rw [List.getD_eq_getElem?_getD, List.getElem?_eq_getElem h]
  exact ⟨rfl, rfl⟩
section
variable {f : Nat → Int} {n : Nat} {r : List Rn} {j e : Nat}
theorem PosS.go (hr : r = rlN f n) (h : PosS r j e) (he : e < n) (hne : endR r j = (e : Int)) : PosT r (j + 1) e := by
  obtain ⟨hj, h1, h2⟩ := h
  have ok := runs_ok f n
  rw [← hr] at ok
  rw [(endR_at hj).1] at hne
  have hj1 : j + 1 < r.length := by
    rcases Nat.lt_or_ge (j + 1) r.length with h3 | h3
    · exact h3
    · have : r.length = j + 1 := by omega
      have hl := ok.last
      rw [this, loR_succ hj] at hl
      omega
  refine ⟨hj1, by rw [loR_succ hj]; omega, ?_⟩
  have := (ok.each (j + 1) hj1).2.1
  rw [loR_succ hj] at this
  omega
theorem PosS.stay (h : PosS r j e) (hne : endR r j ≠ (e : Int)) : PosT r j e := by
  obtain ⟨hj, h1, h2⟩ := h
  rw [(endR_at hj).1] at hne
  exact ⟨hj, h1, by omega⟩
theorem PosT.back (h : PosT r j e) {e1 : Nat} (h1 : e ≤ e1) (h2 : (e1 : Int) ≤ endR r j) : PosS r j e1 := by
  obtain ⟨hj, h3, h4⟩ := h
  rw [(endR_at hj).1] at h2
  exact ⟨hj, by omega, h2⟩
theorem PosT.val (hr : r = rlN f n) (h : PosT r j e) {c : Nat} (h1 : e ≤ c) (h2 : (c : Int) < endR r j) : f c = toR r j := by
  obtain ⟨hj, h3, h4⟩ := h
  have ok := runs_ok f n
  rw [← hr] at ok
  rw [(endR_at hj).1] at h2
  rw [(endR_at hj).2]
  exact (ok.each j hj).2.2.2 c (by omega) h2
theorem PosT.rng (hr : r = rlN f n) (h : PosT r j e) : (e : Int) < endR r j ∧ endR r j ≤ (n : Int) ∧ j < r.length := by
  obtain ⟨hj, h3, h4⟩ := h
  have ok := runs_ok f n
  rw [← hr] at ok
  rw [(endR_at hj).1]
  exact ⟨h4, (ok.each j hj).2.2.1, hj⟩
end
/-- What is left of a row. -/
def rsV (x : RD) (j : Nat) : Value := .slice (some ⟨x.b, j * 2, none⟩) (x.r.length - j) (x.c - j)
def TnB (w : World) (bb : Nat) (BL : List RD) (js : Nat → Nat) : Prop := ∃ cs, w.heap[bb]? = some (.cells cs 102 (0, 0)) ∧ ∀ k (h : k < BL.length), cs[k]? = some (rsV BL[k] (js k))
def setJ (js : Nat → Nat) (k j : Nat) : Nat → Nat := fun i => if i = k then j else js i
section
variable {w w' : World} {bb : Nat} {BL : List RD} {js : Nat → Nat} {F : Nat → Prop}
theorem TnB.lt (h : TnB w bb BL js) : bb < w.heap.size := by
  obtain ⟨cs, h1, _⟩ := h
  exact lt_of_block h1
theorem TnB.kept (h : TnB w bb BL js) (hk : Kept F w w') (hF : ¬ F bb) : TnB w' bb BL js := by
  have hl := h.lt
  obtain ⟨cs, h1, h2⟩ := h
  exact ⟨cs, (hk.block bb hl hF).trans h1, h2⟩
theorem TnB.below (h : TnB w bb BL js) (x : Below w.heap.size w w') : TnB w' bb BL js := h.kept (F := fun _ => False) (Kept.of_below x) (fun h => h)
theorem TnB.cell (h : TnB w bb BL js) {k : Nat} (hk : k < BL.length) : w.cell? ⟨bb, k, none⟩ = some (rsV BL[k] (js k)) ∧ w.frozen? ⟨bb, k, none⟩ = false := by
  obtain ⟨cs, h1, h2⟩ := h
  rw [cell_of_row w bb _ _ _ _ h1]
  exact ⟨h2 k hk, frozen_of_row w bb k _ _ h1⟩
theorem TnB.set (h : TnB w bb BL js) {k j : Nat} (hk : k < BL.length) : TnB (w.setCell ⟨bb, k, none⟩ (rsV BL[k] j)) bb BL (setJ js k j) := by
  obtain ⟨cs, h1, h2⟩ := h
  refine ⟨_, block_setCell h1 k _, fun i hi => ?_⟩
  by_cases e : i = k
  · subst e
    have hlt : i < cs.size := by
      rcases Nat.lt_or_ge i cs.size with h3 | h3
      · exact h3
      · have := h2 i hi
        rw [Array.getElem?_eq_none h3] at this; cases this
    simp [setJ, Array.set!, Array.setIfInBounds, hlt]
  · simp only [setJ, if_neg e]
    rw [← h2 i hi]
    simp [Array.set!, Array.setIfInBounds]
    split
    · rw [Array.getElem?_set_ne]
      exact fun h => e h.symm
    · rfl
theorem TnB.same (h : TnB w bb BL js) {js' : Nat → Nat} (e : ∀ k, k < BL.length → js' k = js k) : TnB w bb BL js' := by
  obtain ⟨cs, h1, h2⟩ := h
  exact ⟨cs, h1, fun k hk => by rw [e k hk]; exact h2 k hk⟩
end
end Go.Proofs.Ytnddhkhmbjeefaa
