/-
  makes of a step whose numbers are there; nodes that are made again. No condition.
-/
import Derived.Test.YtaafeflbanoncaaP51
import Derived.Test.YtaafeflbanoncaaP38
import Derived.Test.YtaafeflbanoncaaP42
import Derived.Test.YtaafeflbanoncaaRows
import Derived.Test.YtaafeflbanoncaaP36
import Derived.Deep.Slices
import Derived.SizedLaws
namespace Go.Proofs.Ytaafeflbanoncaa
open Go.RowKit Go.Lib Go.Maps

theorem ansG_err (S : List Int) (M : Int) (N : List Nd) (φ : Phi) : (ansG S M N φ).2.1 = 0 ∨ (ansG S M N φ).2.1 = 2 := by
  unfold ansG
  by_cases h : (ins S M N φ).2.1 = 0
  · rw [if_pos h]; exact .inl h
  · rw [if_neg h]; exact .inr rfl
section
variable {w : World} {a x wb : Nat} {S : List Int} {M : Int} {N : List Nd} {P Q : Nat → Prop} {lv : Value}
theorem makes_near {z z2 : OpZ} {IN : List Bool} {CS : List Int} {l c : Nat} (h : SD w a x S M N N P Q) (hb : WBk w wb a x lv) (np : ¬ P wb) (nq : ¬ Q wb) (nr : OpNr w S N z z2 IN CS l c) (hw : z2.what < 7) (hfr : ∀ b off, z2.ia = some ⟨b, off, none⟩ → IN ≠ [] → ¬ P b ∧ ¬ Q b) :
    ∃ G : Int × Int × List Nd, (G.2.1 = 0 ∨ G.2.1 = 2) ∧ Calls Try.prog 12 #[.pointer (some ⟨wb, 0, none⟩), .agg (opA z2)] w fun e w' => MzL a x S M N P Q G w e w' := by
  obtain ⟨zn, zw, zf, zg, zh, zl, zc, ia, il, ic, ca, cl, cc⟩ := z2
  obtain ⟨_, _, hf, hg, _, hl, hlt, hc, hclt, hinl, hil, hia, _, _, _⟩ := nr
  simp only at hf hg hl hc hil hia hw
  subst hl hc hil
  have h256 := h.ca.ok.sz.each _ (getD_mem hlt)
  by_cases e2 : zw = 2
  · subst e2
    exact ⟨gNot S M N zf, ansG_err _ _ _ _, makes_2 h hb np nq (fun _ hW => not_c hW hf) (fun _ hW => not_d hW hf)⟩
  by_cases e3 : zw = 3
  · subst e3
    exact ⟨gAnd S M N zf zg, ansG_err _ _ _ _, makes_3 h hb np nq (fun _ hW => and_c hW hf hg) (fun _ hW => and_d hW hf hg)⟩
  by_cases e4 : zw = 4
  · subst e4
    exact ⟨gOr S M N zf zg, ansG_err _ _ _ _, makes_4 h hb np nq (fun _ hW => or_c hW hf hg) (fun _ hW => or_d hW hf hg)⟩
  by_cases e5 : zw = 5
  · subst e5
    exact ⟨gXor S M N zf zg, ansG_err _ _ _ _, makes_5 h hb np nq (fun _ hW => xor_c hW hf hg) (fun _ hW => xor_d hW hf hg)⟩
  by_cases e6 : zw = 6
  · subst e6
    exact ⟨gCut S M N zf l c, ansG_err _ _ _ _, makes_6 h hb np nq (fun _ hW => cut_c hW hf hlt hclt) (fun _ hW => cut_d hW hf hlt hclt)⟩
  have hwt : zw < 2 ∨ 6 < zw := by omega
  exact ⟨gSet S M N l IN, ansG_err _ _ _ _, makes_set h hb np nq hwt hia (by omega) hfr (fun _ _ _ hW hB => set_c hW hlt hinl hB) (fun _ _ _ hW hB => set_d hW hlt hinl hB)⟩
theorem remake {j : Nat} {lv f e : Int} {ks : List Int} {N2 : List Nd} (h : Ok S M N) (hj : N[j]? = some (lv, ks)) (k : MkP S M (N.take j) lv ks f e N2) : N2 = N.take (j + 1) := by
  have hlt : j < N.length := by
    rcases Nat.lt_or_ge j N.length with h1 | h1
    · exact h1
    · rw [List.getElem?_eq_none h1] at hj; cases hj
  have e1 : N[j] = (lv, ks) := by rw [List.getElem?_eq_getElem hlt] at hj; exact Option.some.inj hj
  have h2 := h.each j hlt
  rw [e1] at h2
  have hnd := h.nod
  have hsp : N = N.take j ++ (lv, ks) :: N.drop (j + 1) := by
    have := (List.take_append_drop j N).symm
    rw [List.drop_eq_getElem_cons hlt, e1] at this
    exact this
  rw [hsp, List.nodup_append] at hnd
  have hnot : (lv, ks) ∉ N.take j := fun hm => hnd.2.2 _ hm _ (by simp) rfl
  have hlen : (N.take j).length = j := by rw [List.length_take]; omega
  have m : MkP S M (N.take j) lv ks (((N.take j).length : Int) + 2) 0 (N.take j ++ [(lv, ks)]) := .inr (.inr (.inr (.inr ⟨h2.1, h2.2, hnot, by have := h.few; rw [hlen]; omega, rfl, rfl, rfl⟩)))
  obtain ⟨_, _, c⟩ := MkP.one hnd.1 k m
  rw [c, List.take_succ_eq_append_getElem hlt, e1]
end
end Go.Proofs.Ytaafeflbanoncaa
/-
  makes of any step: whatever its numbers. Condition: what the step brings lies in a process's memory.
-/
namespace Go.Proofs.Ytaafeflbanoncaa
open Go.RowKit Go.Lib Go.Maps

theorem szL_pos {S : List Int} {lv : Int} (h : szL S lv ≠ 0) : ∃ l : Nat, lv = (l : Int) ∧ l < S.length ∧ szL S lv = S.getD l 0 := by
  unfold szL at h ⊢
  by_cases e : 0 ≤ lv ∧ lv < (S.length : Int)
  · refine ⟨lv.toNat, by omega, by omega, ?_⟩
    rw [if_pos e]
  · rw [if_neg e] at h
    exact absurd rfl h
section
variable {w : World} {a x wb : Nat} {S : List Int} {M : Int} {N : List Nd} {P Q : Nat → Prop} {lv : Value}
theorem cbad {e : Ending} {w w' : World} (h : CA w a S M N 8192 P) (k : e = badE ∧ Below w.heap.size w w') : CQ a S M N P (0, 1, N) w e w' := by
  rw [k.1]; exact CQ.bad h k.2
theorem dbad {e : Ending} {w w' : World} (h : RA w x S M N Q) (k : e = badE ∧ w' = w) : DQ x S M Q (0, 1, N) w e w' := by
  rw [k.1, k.2]; exact DQ.bad h (Below.refl _ _)
theorem makes_gen {z : OpZ} {IN : List Bool} (h : SD w a x S M N N P Q) (hb : WBk w wb a x lv) (np : ¬ P wb) (nq : ¬ Q wb) (hil : z.il = IN.length) (hia : BAt w z.ia IN) (hile : IN.length ≤ 140737488351232) (hfr : ∀ b off, z.ia = some ⟨b, off, none⟩ → IN ≠ [] → ¬ P b ∧ ¬ Q b) :
    ∃ G : Int × Int × List Nd, Calls Try.prog 12 #[.pointer (some ⟨wb, 0, none⟩), .agg (opA z)] w fun e w' => MzL a x S M N P Q G w e w' := by
  obtain ⟨zn, zw, zf, zg, zh, zl, zc, ia, il, ic, ca, cl, cc⟩ := z
  simp only at hil hia hfr
  subst hil
  by_cases e2 : zw = 2
  · subst e2
    by_cases hf : hasR N zf
    · exact ⟨gNot S M N zf, makes_2 h hb np nq (fun _ hW => not_c hW hf) (fun _ hW => not_d hW hf)⟩
    · exact ⟨(0, 1, N), makes_2 h hb np nq (fun _ hW => (not_bad hW hf).mono fun _ _ k => cbad hW k) (fun _ hW => (notD_bad hW hf).mono fun _ _ k => dbad hW k)⟩
  by_cases e3 : zw = 3
  · subst e3
    by_cases hf : hasR N zf ∧ hasR N zg
    · exact ⟨gAnd S M N zf zg, makes_3 h hb np nq (fun _ hW => and_c hW hf.1 hf.2) (fun _ hW => and_d hW hf.1 hf.2)⟩
    · exact ⟨(0, 1, N), makes_3 h hb np nq (fun _ hW => (and_bad hW hf).mono fun _ _ k => cbad hW k) (fun _ hW => (andD_bad hW hf).mono fun _ _ k => dbad hW k)⟩
  by_cases e4 : zw = 4
  · subst e4
    by_cases hf : hasR N zf ∧ hasR N zg
    · exact ⟨gOr S M N zf zg, makes_4 h hb np nq (fun _ hW => or_c hW hf.1 hf.2) (fun _ hW => or_d hW hf.1 hf.2)⟩
    · exact ⟨(0, 1, N), makes_4 h hb np nq (fun _ hW => (or_bad hW hf).mono fun _ _ k => cbad hW k) (fun _ hW => (orD_bad hW hf).mono fun _ _ k => dbad hW k)⟩
  by_cases e5 : zw = 5
  · subst e5
    by_cases hf : hasR N zf ∧ hasR N zg
    · exact ⟨gXor S M N zf zg, makes_5 h hb np nq (fun _ hW => xor_c hW hf.1 hf.2) (fun _ hW => xor_d hW hf.1 hf.2)⟩
    · exact ⟨(0, 1, N), makes_5 h hb np nq (fun _ hW => (xor_bad hW hf).mono fun _ _ k => cbad hW k) (fun _ hW => (xorD_bad hW hf).mono fun _ _ k => dbad hW k)⟩
  by_cases e6 : zw = 6
  · subst e6
    by_cases hf : hasR N zf ∧ 0 ≤ zc ∧ zc < szL S zl
    · obtain ⟨hf, h0, h1⟩ := hf
      obtain ⟨l, rfl, hl, e⟩ := szL_pos (S := S) (lv := zl) (by omega)
      obtain ⟨c, rfl⟩ : ∃ c : Nat, zc = (c : Int) := ⟨zc.toNat, by omega⟩
      have hc : (c : Int) < S.getD l 0 := by rw [← e]; exact h1
      exact ⟨gCut S M N zf l c, makes_6 h hb np nq (fun _ hW => cut_c hW hf hl hc) (fun _ hW => cut_d hW hf hl hc)⟩
    · exact ⟨(0, 1, N), makes_6 h hb np nq (fun _ hW => (cut_bad hW hf).mono fun _ _ k => cbad hW k) (fun _ hW => (cutD_bad hW hf).mono fun _ _ k => dbad hW k)⟩
  have hwt : zw < 2 ∨ 6 < zw := by omega
  by_cases hs : szL S zl = 0 ∨ (IN.length : Int) ≠ szL S zl
  · exact ⟨(0, 1, N), makes_set h hb np nq hwt hia hile hfr (fun _ _ _ hW _ => (set_bad hW hs).mono fun _ _ k => cbad hW k) (fun _ _ _ hW _ => (setD_bad hW hs).mono fun _ _ k => dbad hW k)⟩
  · have hs0 : szL S zl ≠ 0 := fun e => hs (.inl e)
    have hs1 : (IN.length : Int) = szL S zl := Classical.byContradiction fun e => hs (.inr e)
    obtain ⟨l, rfl, hl, e⟩ := szL_pos hs0
    rw [e] at hs1
    exact ⟨gSet S M N l IN, makes_set h hb np nq hwt hia hile hfr (fun _ _ _ hW hB => set_c hW hl hs1 hB) (fun _ _ _ hW hB => set_d hW hl hs1 hB)⟩
end
end Go.Proofs.Ytaafeflbanoncaa
/-
  What came in as an argument lies in memory as the walks ask it. Condition: the form's own reach.
-/
namespace Go.Proofs.Ytaafeflbanoncaa
open Go.RowKit Go.Deep

theorem weightsAll_mem {H : Type} {P : Program} {e : TypeId} {l : List (DataW H)} {d : DataW H} (hd : d ∈ l) : ∀ n ∈ d.weights P e, n ∈ DataW.weightsAll P e l := by
  induction l with
  | nil => cases hd
  | cons x l ih =>
    intro n hn
    rw [DataW.weightsAll, List.mem_append]
    rcases List.mem_cons.1 hd with rfl | h
    · exact .inl hn
    · exact .inr (ih h n hn)
theorem Try.cells3 : Try.prog.cellsOf 3 = 1 := by kernel_rfl
theorem Try.cells4' : Try.prog.cellsOf 4 = 1 := by kernel_rfl
theorem Try.cells22 : Try.prog.cellsOf 22 = 1 := by kernel_rfl
theorem Try.bytes3' : Try.prog.bytesOf 3 = 8 := by kernel_rfl
theorem one_of {α : Type} (l : List α) (h : l.length = 1) : ∃ a, l = [a] := by
  match l, h with
  | [a], _ => exact ⟨a, rfl⟩
theorem fit_wf {n : Int} (h : (Lit.int .i64 n).wf = true) : Fit n := by
  simp only [Lit.wf, IntKind.min, IntKind.max, IntKind.signed, IntKind.bits, Bool.and_eq_true, decide_eq_true_eq, if_true] at h
  unfold Fit
  omega
theorem choose_int {p : Nat → Int → Prop} : ∀ n, (∀ i, i < n → ∃ s, p i s) → ∃ L : List Int, L.length = n ∧ ∀ i, i < n → p i (L.getD i 0)
  | 0, _ => ⟨[], rfl, fun i hi => absurd hi (Nat.not_lt_zero i)⟩
  | n + 1, h => by
    obtain ⟨L, h1, h2⟩ := choose_int n (fun i hi => h i (by omega))
    obtain ⟨s, hs⟩ := h n (by omega)
    refine ⟨L ++ [s], by simp [h1], fun i hi => ?_⟩
    by_cases hn : i < n
    · have := h2 i hn
      simpa [List.getD_eq_getElem?_getD, List.getElem?_append, h1, hn] using this
    · have : i = n := by omega
      subst this
      subst h1
      simpa [List.getD_eq_getElem?_getD] using hs
theorem all_getD {L : List Int} {q : Int → Prop} (h : ∀ i, i < L.length → q (L.getD i 0)) : ∀ k ∈ L, q k := fun k hk => by
  obtain ⟨i, hi, rfl⟩ := List.getElem_of_mem hk
  have := h i hi
  simpa [List.getD_eq_getElem?_getD, hi] using this
/-- What bounds a list: the form's bulk, or its weights. -/
def Bnd {H : Type} (up : Bool) (t : TypeId) (d : DataW H) : Prop := if up then False else ∀ k ∈ d.weights Try.prog t, k ≤ reachBytes
/-- Numbers that came in. -/
theorem ints_open {H : Type} {enc : TypeId × Value → H} {W : World} {fuel : Nat} {a0 : Option Addr} {len cap : Nat} {d : DataW H} {p : List MemPlace} {up : Bool}
    (hf : DataW.trod enc Try.prog W 0 (fun _ => true) true fuel 22 [.slice a0 len cap] = some (d, p)) (hw : Bnd up 22 d) : ∃ L : List Int, L.length = len ∧ ZAt W a0 L ∧ (∀ k ∈ L, Fit k) ∧ len ≤ 17592186043904 := by
  rcases open_slice Try.underlying22 hf with ⟨hcs, _⟩ | ⟨a, l, c, m, n, V, Pl, hcs, _, hl, hm, hmm, hx, hat⟩
  · injection hcs with hv
    injection hv with e1 e2 e3
    subst e2 e3
    exact ⟨[], rfl, .inl rfl, fun k hk => by simp at hk, by omega⟩
  · injection hcs with hv
    injection hv with e1 e2 e3
    subst e1 e2 e3
    simp only [if_true] at hmm
    subst hmm
    simp only [Prod.mk.injEq] at hx
    obtain ⟨hd, hp⟩ := hx
    have hlen : len ≤ 17592186043904 := by
      unfold Bnd at hw
      cases up with
      | true =>
        simp only [if_true] at hw
      | false =>
        simp only [Bool.false_eq_true, if_false] at hw
        have hcap : (len + (m - len)) * 8 ≤ reachBytes := by
          refine hw _ ?_
          rw [hd]
          simp [DataW.weights, Try.underlying22, Try.bytes3']
        simp only [reachBytes] at hcap
        omega
    by_cases h0 : len = 0
    · subst h0
      exact ⟨[], rfl, .inl rfl, fun k hk => by simp at hk, by omega⟩
    have each : ∀ i, i < len → ∃ z : Int, W.cell? (a.add (i * 1)) = some (.int .i64 z) ∧ Fit z := by
      intro i hi
      obtain ⟨cs', g1, g2⟩ := hat i (by omega)
      rw [Try.cells3] at g1
      obtain ⟨_, hlen, hcell⟩ := World.cells?_some g1
      obtain ⟨v, rfl⟩ := one_of cs' hlen
      obtain ⟨z, e, _, hwf⟩ := DataW.trod_int Try.underlying3 g2
      simp only [List.cons.injEq, and_true] at e
      subst e
      have c0 := hcell 0 (by decide)
      rw [add_add] at c0
      exact ⟨z, by simpa using c0, fit_wf hwf⟩
    obtain ⟨L, hL, hp'⟩ := choose_int len each
    obtain ⟨b, off, spot⟩ := a
    have hz := (hp' 0 (by omega)).1
    have hspot : spot = none := by simpa [Addr.add] using World.cell?_spot hz
    subst hspot
    refine ⟨L, hL, .inr ⟨b, off, rfl, World.block_lt_of_cell? W _ (by simpa [Addr.add] using hz), fun i hi => ?_⟩, all_getD (fun i hi => (hp' i (by omega)).2), hlen⟩
    have q0 := (hp' i (by omega)).1
    rw [addr_add, Nat.mul_one] at q0
    exact q0
theorem slice_of {H : Type} {enc : TypeId × Value → H} {W : World} {fuel : Nat} {t e : TypeId} {v : Value} {x : DataW H × List MemPlace} (hu : Try.prog.underlying t = some (.slice e)) (hf : DataW.trod enc Try.prog W 0 (fun _ => true) true fuel t [v] = some x) : ∃ ai li ci, v = .slice ai li ci := by
  rcases open_slice hu hf with ⟨hcs, _⟩ | ⟨a', l', c', _, _, _, _, hcs, _⟩
  · injection hcs with hv; exact ⟨none, 0, 0, hv⟩
  · injection hcs with hv; exact ⟨_, l', c', hv⟩
theorem nine_of {α : Type} (l : List α) (h : l.length = 9) : ∃ a b c d e f g h i, l = [a, b, c, d, e, f, g, h, i] := by
  match l, h with
  | [a, b, c, d, e, f, g, h, i], _ => exact ⟨a, b, c, d, e, f, g, h, i, rfl⟩
theorem Try.cells36 : Try.prog.cellsOf 36 = 1 := by kernel_rfl
theorem Try.cells38 : Try.prog.cellsOf 38 = 9 := by kernel_rfl
theorem Try.bytes4' : Try.prog.bytesOf 4 = 1 := by kernel_rfl
theorem Try.bytes38 : Try.prog.bytesOf 38 = 104 := by kernel_rfl
theorem choose_bool {p : Nat → Bool → Prop} : ∀ n, (∀ i, i < n → ∃ s, p i s) → ∃ L : List Bool, L.length = n ∧ ∀ i, i < n → p i (L.getD i false)
  | 0, _ => ⟨[], rfl, fun i hi => absurd hi (Nat.not_lt_zero i)⟩
  | n + 1, h => by
    obtain ⟨L, h1, h2⟩ := choose_bool n (fun i hi => h i (by omega))
    obtain ⟨s, hs⟩ := h n (by omega)
    refine ⟨L ++ [s], by simp [h1], fun i hi => ?_⟩
    by_cases hn : i < n
    · have := h2 i hn
      simpa [List.getD_eq_getElem?_getD, List.getElem?_append, h1, hn] using this
    · have : i = n := by omega
      subst this
      subst h1
      simpa [List.getD_eq_getElem?_getD] using hs
/-- Bools that came in. -/
theorem bools_open {H : Type} {enc : TypeId × Value → H} {W : World} {fuel : Nat} {a0 : Option Addr} {len cap : Nat} {d : DataW H} {p : List MemPlace}
    (hf : DataW.trod enc Try.prog W 0 (fun _ => true) true fuel 36 [.slice a0 len cap] = some (d, p)) (hw : Bnd false 36 d) : ∃ L : List Bool, L.length = len ∧ BAt W a0 L ∧ len ≤ 140737488351232 := by
  rcases open_slice Try.underlying36 hf with ⟨hcs, _⟩ | ⟨a, l, c, m, n, V, Pl, hcs, _, hl, hm, hmm, hx, hat⟩
  · injection hcs with hv
    injection hv with e1 e2 e3
    subst e2 e3
    exact ⟨[], rfl, .inl rfl, by omega⟩
  · injection hcs with hv
    injection hv with e1 e2 e3
    subst e1 e2 e3
    simp only [if_true] at hmm
    subst hmm
    simp only [Prod.mk.injEq] at hx
    obtain ⟨hd, hp⟩ := hx
    have hlen : len ≤ 140737488351232 := by
      unfold Bnd at hw
      simp only [Bool.false_eq_true, if_false] at hw
      have hcap : (len + (m - len)) * 1 ≤ reachBytes := by
        refine hw _ ?_
        rw [hd]
        simp [DataW.weights, Try.underlying36, Try.bytes4']
      simp only [reachBytes] at hcap
      omega
    by_cases h0 : len = 0
    · subst h0
      exact ⟨[], rfl, .inl rfl, by omega⟩
    have each : ∀ i, i < len → ∃ z : Bool, W.cell? (a.add (i * 1)) = some (.bool z) := by
      intro i hi
      obtain ⟨cs', g1, g2⟩ := hat i (by omega)
      rw [Try.cells4'] at g1
      obtain ⟨_, hlen, hcell⟩ := World.cells?_some g1
      obtain ⟨v, rfl⟩ := one_of cs' hlen
      obtain ⟨z, e, _⟩ := DataW.trod_bool Try.underlying4 g2
      simp only [List.cons.injEq, and_true] at e
      subst e
      have c0 := hcell 0 (by decide)
      rw [add_add] at c0
      exact ⟨z, by simpa using c0⟩
    obtain ⟨L, hL, hp'⟩ := choose_bool len each
    obtain ⟨b, off, spot⟩ := a
    have hz := hp' 0 (by omega)
    have hspot : spot = none := by simpa [Addr.add] using World.cell?_spot hz
    subst hspot
    refine ⟨L, hL, .inr ⟨b, off, rfl, World.block_lt_of_cell? W _ (by simpa [Addr.add] using hz), fun i hi => ?_⟩, hlen⟩
    have q0 := hp' i (by omega)
    rw [addr_add, Nat.mul_one] at q0
    exact q0
/-- A step and its list. -/
structure OpY where
  z : OpZ
  IN : List Bool
structure OpOk (W : World) (o : OpY) : Prop where
  fit : OpFit o.z
  il : o.z.il = o.IN.length
  at_ : BAt W o.z.ia o.IN
  le : o.IN.length ≤ 140737488351232
def OpRd (W : World) (a : Addr) (i : Nat) (o : OpY) : Prop := (∀ j u, (opA o.z)[j]? = some u → W.cell? (a.add (i * 9 + j)) = some u) ∧ OpOk W o
/-- One step, read. -/
theorem op_read {H : Type} {enc : TypeId × Value → H} {W : World} {n : Nat} {a : Addr} {i : Nat} {cs : List Value} {x : DataW H × List MemPlace}
    (h1 : W.cells? 0 (a.add (i * 9)) 9 = some cs) (h2 : DataW.trod enc Try.prog W 0 (fun _ => true) true n 38 cs = some x) (hw : Bnd false 38 x.1) :
    ∃ o : OpY, OpRd W a i o := by
  obtain ⟨_, hlen, hcell⟩ := World.cells?_some h1
  obtain ⟨xs, k, _, hxy, _, hxl, hf⟩ := DataW.trod_struct Try.underlying38 h2
  obtain ⟨v0, v1, v2, v3, v4, v5, v6, v7, v8, rfl⟩ := nine_of cs hlen
  obtain ⟨y0, y1, y2, y3, y4, y5, y6, y7, y8, rfl⟩ := nine_of xs hxl
  have g0 := hf 0 _ rfl
  have g1 := hf 1 _ rfl
  have g2 := hf 2 _ rfl
  have g3 := hf 3 _ rfl
  have g4 := hf 4 _ rfl
  have g5 := hf 5 _ rfl
  have g6 := hf 6 _ rfl
  have g7 := hf 7 _ rfl
  have g8 := hf 8 _ rfl
  simp [Try.cells3, Try.cells4', Try.cells22, Try.cells36] at g0 g1 g2 g3 g4 g5 g6 g7 g8
  obtain ⟨n0, e0, f0⟩ := DataW.trod_bool Try.underlying4 g0
  obtain ⟨n1, e1, f1, w1⟩ := DataW.trod_int Try.underlying3 g1
  obtain ⟨n2, e2, f2, w2⟩ := DataW.trod_int Try.underlying3 g2
  obtain ⟨n3, e3, f3, w3⟩ := DataW.trod_int Try.underlying3 g3
  obtain ⟨n4, e4, f4, w4⟩ := DataW.trod_int Try.underlying3 g4
  obtain ⟨n5, e5, f5, w5⟩ := DataW.trod_int Try.underlying3 g5
  obtain ⟨n6, e6, f6, w6⟩ := DataW.trod_int Try.underlying3 g6
  simp only [List.cons.injEq, and_true] at e0 e1 e2 e3 e4 e5 e6
  subst e0 e1 e2 e3 e4 e5 e6
  obtain ⟨ai, li, ci, rfl⟩ := slice_of Try.underlying36 g7
  obtain ⟨aj, lj, cj, rfl⟩ := slice_of Try.underlying22 g8
  have hw7 : Bnd false 36 y7.1 := by
    unfold Bnd at hw ⊢
    simp only [Bool.false_eq_true, if_false] at hw ⊢
    intro k hk
    refine hw k ?_
    rw [hxy]
    simp [DataW.weights, Try.underlying38]
    exact DataW.weights_mem_each (j := 7) (t := 36) rfl rfl k hk
  obtain ⟨L, e9, hz, hl⟩ := bools_open (d := y7.1) (p := y7.2) g7 hw7
  subst e9
  refine ⟨⟨⟨n0, n1, n2, n3, n4, n5, n6, ai, L.length, ci, aj, lj, cj⟩, L⟩, fun j u hu => ?_, ⟨⟨fit_wf w2, fit_wf w3, fit_wf w5, fit_wf w6⟩, rfl, hz, hl⟩⟩
  have hj : j < 9 := by
    rcases Nat.lt_or_ge j 9 with h | h
    · exact h
    · rw [Array.getElem?_eq_none (by simpa [opA] using h)] at hu; cases hu
  have c0 := hcell j hj
  rw [add_add] at c0
  have : ([Value.bool n0, .int .i64 n1, .int .i64 n2, .int .i64 n3, .int .i64 n4, .int .i64 n5, .int .i64 n6, .slice ai L.length ci, .slice aj lj cj] : List Value)[j]? = some u := by simpa [opA] using hu
  first | exact c0.trans this | (rw [c0]; simpa using this)
/-- A script in memory. -/
def OpAt (w : World) (so : Option Addr) (T : List OpY) : Prop := T = [] ∨ ∃ b off, so = some ⟨b, off, none⟩ ∧ b < w.heap.size ∧ ∀ i (h : i < T.length), (∀ j u, (opA T[i].z)[j]? = some u → w.cell? ⟨b, off + i * 9 + j, none⟩ = some u) ∧ OpOk w T[i]
theorem choose_op {p : Nat → OpY → Prop} : ∀ n, (∀ i, i < n → ∃ s, p i s) → ∃ L : List OpY, L.length = n ∧ ∀ i (h : i < L.length), p i L[i]
  | 0, _ => ⟨[], rfl, fun i hi => absurd hi (Nat.not_lt_zero i)⟩
  | n + 1, h => by
    obtain ⟨L, h1, h2⟩ := choose_op n (fun i hi => h i (by omega))
    obtain ⟨s, hs⟩ := h n (by omega)
    refine ⟨L ++ [s], by simp [h1], fun i hi => ?_⟩
    by_cases hn : i < L.length
    · rw [List.getElem_append_left hn]; exact h2 i hn
    · have : i = L.length := by rw [List.length_append, List.length_singleton] at hi; omega
      subst this
      rw [List.getElem_append_right (Nat.le_refl _)]
      simp only [Nat.sub_self, List.getElem_cons_zero]
      rw [h1]; exact hs
/-- A script that came in. -/
theorem script_open {H : Type} {enc : TypeId × Value → H} {W : World} {fuel : Nat} {a0 : Option Addr} {len cap : Nat} {d : DataW H} {p : List MemPlace}
    (hf : DataW.trod enc Try.prog W 0 (fun _ => true) true fuel 23 [.slice a0 len cap] = some (d, p)) (hw : Bnd false 23 d) : ∃ S : List OpY, S.length = len ∧ len ≤ 2800000000000 ∧ OpAt W a0 S := by
  rcases open_slice Try.underlying23 hf with ⟨hcs, _⟩ | ⟨a, l, c, m, n, V, Pl, hcs, _, hl, hm, hmm, hx, hat⟩
  · injection hcs with hv
    injection hv with e1 e2 e3
    subst e2 e3
    exact ⟨[], rfl, Nat.zero_le _, .inl rfl⟩
  · injection hcs with hv
    injection hv with e1 e2 e3
    subst e1 e2 e3
    simp only [if_true] at hmm
    subst hmm
    simp only [Prod.mk.injEq] at hx
    obtain ⟨hd, hp⟩ := hx
    have hw' := hw
    have hlen : len ≤ 2800000000000 := by
      unfold Bnd at hw
      simp only [Bool.false_eq_true, if_false] at hw ⊢
      have hcap : (len + (m - len)) * 104 ≤ reachBytes := by
        refine hw _ ?_
        rw [hd]
        simp [DataW.weights, Try.underlying23, Try.bytes38]
      simp only [reachBytes] at hcap
      omega
    by_cases h0 : len = 0
    · subst h0
      exact ⟨[], rfl, Nat.zero_le _, .inl rfl⟩
    have each : ∀ i, i < len → ∃ o : OpY, OpRd W a i o := fun i hi => by
      obtain ⟨cs', g1, g2⟩ := hat i (by omega)
      rw [Try.cells38] at g1
      refine op_read g1 g2 ?_
      unfold Bnd at hw' ⊢
      simp only [Bool.false_eq_true, if_false] at hw' ⊢
      intro k hk
      refine hw' k ?_
      rw [hd]
      simp only [DataW.weights, Try.underlying23, List.mem_cons, List.mem_append]
      exact .inr (.inl (weightsAll_mem (List.mem_map.2 ⟨i, List.mem_range.2 hi, rfl⟩) k hk))
    obtain ⟨L, hL, hp'⟩ := choose_op len each
    obtain ⟨b, off, spot⟩ := a
    have hz := (hp' 0 (by omega)).1 0 _ rfl
    have hspot : spot = none := by simpa [Addr.add] using World.cell?_spot hz
    subst hspot
    refine ⟨L, hL, hlen, .inr ⟨b, off, rfl, World.block_lt_of_cell? W _ (by simpa [Addr.add] using hz), fun i hi => ?_⟩⟩
    obtain ⟨q0, r1⟩ := hp' i hi
    refine ⟨fun j u hu => ?_, r1⟩
    have := q0 j u hu
    rw [addr_add] at this
    rw [Nat.add_assoc]
    exact this
end Go.Proofs.Ytaafeflbanoncaa
