/-
  A side of the script and the world beside it: lists that came out. Of the program its types alone: no condition.
-/
import Derived.Test.YtkklphmhbbjmcaaMks
namespace Go.Proofs.Ytkklphmhbbjmcaa
open Go.RowKit Go.Lib Go.Maps

/-- The statements' world: its sides, the lists that came out. -/
structure Wd (w : World) (base wb : Nat) (sv lv : Value) (D : List LD) (X : Nat → List Value) : Prop where
  blk : w.heap[wb]? = some (.cells #[sv, lv] 38 (0, 0))
  bas : base ≤ wb
  ls : LsAt 22 3 1 w base lv D X
  few : ∀ d ∈ D, d.n ≤ 256
structure St (w : World) (base wb : Nat) (sv lv : Value) (D : List LD) (X : Nat → List Value) (a x : Nat) (S : List Int) (M : Int) (N : List Nd) (m : Nat) (P Q : Nat → Prop) : Prop where
  sd : Sd w base a x S M N m P Q
  wd : Wd w base wb sv lv D X
  dis : ∀ k, P k ∨ Q k → k ≠ wb ∧ ¬ lv.ownBlock = some k ∧ ¬ FutL D 0 k
/-- What a step leaves. -/
def StK (w : World) (base wb : Nat) (sv lv : Value) (D : List LD) (a x : Nat) (S : List Int) (M : Int) (m : Nat) (P Q : Nat → Prop) (N' : List Nd) (w' : World) : Prop :=
  ∃ lv' D' X' P' Q', St w' base wb sv lv' D' X' a x S M N' m P' Q' ∧ (∀ k, P' k → P k ∨ w.heap.size ≤ k) ∧ (∀ k, Q' k → Q k ∨ w.heap.size ≤ k) ∧ (∀ k, lv'.ownBlock = some k → lv.ownBlock = some k ∨ w.heap.size ≤ k) ∧ (∀ k, FutL D' 0 k → FutL D 0 k ∨ w.heap.size ≤ k) ∧ D'.length ≤ D.length + 1 ∧ Kept (fun k => P k ∨ Q k ∨ k = wb ∨ lv.ownBlock = some k) w w'
def StL (w : World) (base wb : Nat) (sv lv : Value) (D : List LD) (a x : Nat) (S : List Int) (M : Int) (m : Nat) (P Q : Nat → Prop) (w' : World) : Prop := ∃ N', StK w base wb sv lv D a x S M m P Q N' w'
section
variable {w w' : World} {base wb : Nat} {sv lv : Value} {D : List LD} {X : Nat → List Value} {a x : Nat} {S : List Int} {M : Int} {N : List Nd} {m : Nat} {P Q F : Nat → Prop}
theorem LsAt.keptF {l : Value} (h : LsAt 22 3 1 w base l D X) (hk : Kept F w w') (h1 : ∀ k, l.ownBlock = some k → ¬ F k) (h2 : ∀ k, FutL D 0 k → ¬ F k) : LsAt 22 3 1 w' base l D X :=
  ⟨own_kept h.row hk h1, fun i hi => own_kept (h.each i hi) hk (fun k hb => h2 k ⟨i, hi, Nat.zero_le _, hb⟩), h.apart⟩
theorem Wd.kept (h : Wd w base wb sv lv D X) (hk : Kept F w w') (h0 : ¬ F wb) (h1 : ∀ k, lv.ownBlock = some k → ¬ F k) (h2 : ∀ k, FutL D 0 k → ¬ F k) : Wd w' base wb sv lv D X :=
  ⟨(hk.block wb (lt_of_block h.blk) h0).trans h.blk, h.bas, h.ls.keptF hk h1 h2, h.few⟩
theorem Wd.below (h : Wd w base wb sv lv D X) (y : Below w.heap.size w w') : Wd w' base wb sv lv D X := h.kept (F := fun _ => False) (Kept.of_below y) (fun h => h) (fun _ _ h => h) (fun _ _ h => h)
theorem St.below (h : St w base wb sv lv D X a x S M N m P Q) (y : Below w.heap.size w w') : St w' base wb sv lv D X a x S M N m P Q := ⟨h.sd.below y, h.wd.below y, h.dis⟩
theorem Wd.lt (h : Wd w base wb sv lv D X) : wb < w.heap.size ∧ (∀ k, lv.ownBlock = some k → base ≤ k ∧ k < w.heap.size) ∧ (∀ k, FutL D 0 k → base ≤ k ∧ k < w.heap.size) :=
  ⟨lt_of_block h.blk, fun k hk => World.ownsRow.lt h.ls.row k hk, fun k ⟨i, hi, _, hk⟩ => World.ownsRow.lt (h.ls.each i hi) k hk⟩
theorem futL_app {D : List LD} {d : LD} {k : Nat} (h : FutL (D ++ [d]) 0 k) : FutL D 0 k ∨ d.v.ownBlock = some k := by
  obtain ⟨i, hi, _, hk⟩ := h
  by_cases hi2 : i < D.length
  · rw [List.getElem_append_left hi2] at hk
    exact .inl ⟨i, hi2, Nat.zero_le _, hk⟩
  · have : i = D.length := by rw [List.length_append, List.length_singleton] at hi; omega
    subst this
    rw [List.getElem_append_right (Nat.le_refl _)] at hk
    simp only [Nat.sub_self, List.getElem_cons_zero] at hk
    exact .inr hk
/-- A list more. -/
theorem Wd.push (h : Wd w base wb sv lv D X) {lv' : Value} {d : LD} {xs : List Value} {n0 : Nat} (hd : w.ownsRow base 3 1 d.v d.n xs) (hdn : d.n ≤ 256) (hnew : ∀ k, d.v.ownBlock = some k → n0 ≤ k) (hold : ∀ k, FutL D 0 k → k < n0) (k1 : Kept (fun k => lv.ownBlock = some k) w w') (o1 : w'.ownsRow base 22 1 lv' (D.length + 1) (D.map LD.v ++ [d.v])) (hn : ∀ k, lv'.ownBlock = some k → lv.ownBlock = some k ∨ w.heap.size ≤ k) :
    ∃ X', Wd (w'.setCell ⟨wb, 1, none⟩ lv') base wb sv lv' (D ++ [d]) X' ∧ w'.heap[wb]? = some (.cells #[sv, lv] 38 (0, 0)) := by
  have hlw : ¬ lv.ownBlock = some wb := fun hF => by
    obtain ⟨cs, h5⟩ := own_ty h.ls.row _ hF
    exact blocks_ne h.blk h5 (by decide) rfl
  have hb1 := (k1.block wb (lt_of_block h.blk) hlw).trans h.blk
  have k3 : Kept (fun k => k = wb) w' (w'.setCell ⟨wb, 1, none⟩ lv') := Kept.setCell (F := fun k => k = wb) (p := ⟨wb, 1, none⟩) (Kept.refl _ _) rfl _
  have hlw' : ¬ lv'.ownBlock = some wb := fun hF => by
    rcases hn wb hF with h5 | h5
    · exact hlw h5
    · have := lt_of_block h.blk; omega
  have hl3 : ∀ {v : Value} {n : Nat} {ys : List Value}, w.ownsRow base 3 1 v n ys → (w'.setCell ⟨wb, 1, none⟩ lv').ownsRow base 3 1 v n ys := fun ho => by
    refine own_kept (own_kept ho k1 (fun k h1 h2 => own_ne ho h.ls.row (by decide) k h1 h2)) k3 (fun k h1 e => ?_)
    subst e
    obtain ⟨cs, h5⟩ := own_ty ho _ h1
    exact blocks_ne h.blk h5 (by decide) rfl
  refine ⟨fun j => if j = D.length then xs else X j, ⟨?_, h.bas, ⟨?_, fun i hi => ?_, ?_⟩, fun e he => ?_⟩, hb1⟩
  · have := block_setCell hb1 1 lv'
    simpa using this
  · rw [List.map_append, List.length_append]
    exact own_kept o1 k3 (fun k h1 e => hlw' (by rw [← e]; exact h1))
  · by_cases hi2 : i < D.length
    · rw [List.getElem_append_left hi2]
      simp only [show ¬ i = D.length by omega, if_false]
      exact hl3 (h.ls.each i hi2)
    · have hie : i = D.length := by rw [List.length_append, List.length_singleton] at hi; omega
      subst hie
      rw [List.getElem_append_right (Nat.le_refl _)]
      simp only [Nat.sub_self, List.getElem_cons_zero, if_true]
      exact hl3 hd
  · unfold ApartL
    rw [List.pairwise_append]
    refine ⟨h.ls.apart, List.pairwise_singleton _ _, fun y hy z hz k hk1 hk2 => ?_⟩
    obtain rfl := List.mem_singleton.1 hz
    obtain ⟨i, hi, rfl⟩ := List.getElem_of_mem hy
    have := hold k ⟨i, hi, Nat.zero_le _, hk1⟩
    have := hnew k hk2
    omega
  · rcases List.mem_append.1 he with he | he
    · exact h.few e he
    · rw [List.mem_singleton.1 he]; exact hdn
end
/-- What Node tells, as one value. -/
def ndX (N : List Nd) (f : Int) : Nd := if 2 ≤ f ∧ f < (N.length : Int) + 2 then N.getD (f - 2).toNat (0, []) else (0, [])
def ndE (N : List Nd) (f : Int) : Int := if 2 ≤ f ∧ f < (N.length : Int) + 2 then 0 else 1
theorem NdL.form {N : List Nd} {f : Int} {w w' : World} {e : Ending} (h : NdL N f w e w') (hk : ∀ y ∈ N, y.2.length ≤ 256) : (∃ ao c, e = .returned (.tuple #[.agg #[.int .i64 (ndX N f).1, .slice ao (ndX N f).2.length c], .int .i64 (ndE N f)]) ∧ w'.ownsRow w.heap.size 3 1 (.slice ao (ndX N f).2.length c) (ndX N f).2.length (zC (ndX N f).2) ∧ ZAt w' ao (ndX N f).2) ∧ (ndX N f).2.length ≤ 256 ∧ Below w.heap.size w w' := by
  obtain ⟨h1, h2⟩ := h
  rcases h1 with ⟨i, lv, ks, g, c, hi, rfl, rfl, ho, hz, _⟩ | ⟨hc, rfl⟩
  · have hlt := at_lt hi
    have hc : 2 ≤ (i : Int) + 2 ∧ (i : Int) + 2 < (N.length : Int) + 2 := by omega
    have e1 : ndX N ((i : Int) + 2) = (lv, ks) := by
      unfold ndX
      rw [if_pos hc, show ((i : Int) + 2 - 2).toNat = i by omega, List.getD_eq_getElem?_getD, hi]
      rfl
    have e2 : ndE N ((i : Int) + 2) = 0 := by unfold ndE; rw [if_pos hc]
    rw [e1, e2]
    exact ⟨⟨_, c, rfl, ho, hz.at⟩, hk _ (mem_of_at hi), h2⟩
  · have e1 : ndX N f = (0, []) := by unfold ndX; rw [if_neg hc]
    have e2 : ndE N f = 1 := by unfold ndE; rw [if_neg hc]
    rw [e1, e2]
    exact ⟨⟨none, 0, rfl, World.ownsRow_nil _ _ _ _, .inl rfl⟩, by simp, h2⟩
theorem Ok.kids256 {S : List Int} {M : Int} {N : List Nd} (h : Ok S M N) : ∀ y ∈ N, y.2.length ≤ 256 := fun y hy => by
  obtain ⟨i, hi, rfl⟩ := List.getElem_of_mem hy
  have h1 := h.few
  have h2 := h.m1
  exact ((h.may hi).rng h (by omega)).2.2.1
end Go.Proofs.Ytkklphmhbbjmcaa
