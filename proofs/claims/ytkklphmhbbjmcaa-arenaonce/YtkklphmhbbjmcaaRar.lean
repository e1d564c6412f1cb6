/-
  The document's arena in memory; its Has, Level, Len by their contracts. No condition.
-/
import Derived.Test.YtkklphmhbbjmcaaFro
namespace Go.Proofs.Ytkklphmhbbjmcaa
open Go.RowKit Go.Lib Go.Maps

/-- The document's arena; P: the blocks that it has. -/
structure RAy (w : World) (x : Nat) (S : List Int) (M : Int) (R : List ND) (L : Nat → List Int) (P : Nat → Prop) (sb sc : Nat) (nv lv : Value) (LV : List Value) : Prop where
  blk : w.heap[x]? = some (.cells #[.slice (some ⟨sb, 0, none⟩) S.length sc, .int .i64 M, nv, lv] 62 (0, 0))
  sz : ZBk w sb S
  row : FRow w 47 2 nv R.length (ndC R)
  kid : ∀ y ∈ R, ZBk w y.kb y.ks
  lrow : w.ownsRow 0 22 1 lv S.length LV
  lists : ∀ i, i < S.length → FRow w 3 1 (LV.getD i (.slice none 0 0)) (L i).length (zC (L i))
  apart : ∀ i j, i < S.length → j < S.length → i ≠ j → ∀ k, (LV.getD i (.slice none 0 0)).ownBlock = some k → ¬ (LV.getD j (.slice none 0 0)).ownBlock = some k
  fix : ∀ i, i < S.length → ∀ k, (LV.getD i (.slice none 0 0)).ownBlock = some k → k ≠ sb ∧ ∀ y ∈ R, k ≠ y.kb
  px : P x
  ps : P sb
  pn : ∀ k, nv.ownBlock = some k → P k
  pl : ∀ k, lv.ownBlock = some k → P k
  pi : ∀ i, i < S.length → ∀ k, (LV.getD i (.slice none 0 0)).ownBlock = some k → P k
  pk : ∀ y ∈ R, P y.kb
  plt : ∀ k, P k → k < w.heap.size
  ok : Ok S M (R.map ND.nd)
/-- Each level's refs are those of its nodes. -/
abbrev RAx (w : World) (x : Nat) (S : List Int) (M : Int) (R : List ND) (P : Nat → Prop) (sb sc : Nat) (nv lv : Value) (LV : List Value) : Prop := RAy w x S M R (fun i => refs (R.map ND.nd) (i : Int)) P sb sc nv lv LV
def RA (w : World) (x : Nat) (S : List Int) (M : Int) (N : List Nd) (P : Nat → Prop) : Prop := ∃ R sb sc nv lv LV, RAx w x S M R P sb sc nv lv LV ∧ R.map ND.nd = N
section
variable {w w' : World} {x : Nat} {S : List Int} {M : Int} {R : List ND} {N : List Nd} {P F : Nat → Prop} {sb sc : Nat} {nv lv : Value} {LV : List Value} {L : Nat → List Int}
theorem RAy.kept (h : RAy w x S M R L P sb sc nv lv LV) (hk : Kept F w w') (hF : ∀ k, P k → ¬ F k) : RAy w' x S M R L P sb sc nv lv LV :=
  ⟨(hk.block x (h.plt x h.px) (hF x h.px)).trans h.blk, h.sz.kept hk (hF _ h.ps), h.row.kept hk (fun k hb => hF k (h.pn k hb)), fun y hy => (h.kid y hy).kept hk (hF _ (h.pk y hy)), own_kept h.lrow hk (fun k hb => hF k (h.pl k hb)), fun i hi => (h.lists i hi).kept hk (fun k hb => hF k (h.pi i hi k hb)), h.apart, h.fix, h.px, h.ps, h.pn, h.pl, h.pi, h.pk, fun k hp => Nat.lt_of_lt_of_le (h.plt k hp) hk.size, h.ok⟩
theorem RAy.below (h : RAy w x S M R L P sb sc nv lv LV) (y : Below w.heap.size w w') : RAy w' x S M R L P sb sc nv lv LV := h.kept (F := fun _ => False) (Kept.of_below y) (fun _ _ h => h)
theorem RA.kept (h : RA w x S M N P) (hk : Kept F w w') (hF : ∀ k, P k → ¬ F k) : RA w' x S M N P := by
  obtain ⟨R, sb, sc, nv, lv, LV, h1, h2⟩ := h
  exact ⟨R, sb, sc, nv, lv, LV, h1.kept hk hF, h2⟩
theorem RA.below (h : RA w x S M N P) (y : Below w.heap.size w w') : RA w' x S M N P := h.kept (F := fun _ => False) (Kept.of_below y) (fun _ _ h => h)
theorem RA.ok (h : RA w x S M N P) : Ok S M N := by
  obtain ⟨R, sb, sc, nv, lv, LV, h1, rfl⟩ := h
  exact h1.ok
theorem RA.plt (h : RA w x S M N P) {k : Nat} (hk : P k) : k < w.heap.size := by
  obtain ⟨R, sb, sc, nv, lv, LV, h1, rfl⟩ := h
  exact h1.plt k hk
theorem RAy.ra (h : RAy w x S M R (fun i => refs (R.map ND.nd) (i : Int)) P sb sc nv lv LV) : RA w x S M (R.map ND.nd) P := ⟨R, sb, sc, nv, lv, LV, h, rfl⟩
theorem RAy.cells (h : RAy w x S M R L P sb sc nv lv LV) : w.cell? ⟨x, 0, none⟩ = some (.slice (some ⟨sb, 0, none⟩) S.length sc) ∧ w.cell? ⟨x, 1, none⟩ = some (.int .i64 M) ∧ w.cell? ⟨x, 2, none⟩ = some nv ∧ w.cell? ⟨x, 3, none⟩ = some lv := by
  refine ⟨?_, ?_, ?_, ?_⟩ <;> (rw [cell_of_row w x _ _ _ _ h.blk]; rfl)
theorem RAy.few (h : RAy w x S M R L P sb sc nv lv LV) : R.length ≤ 8192 := by
  have h1 := h.ok.few
  have h2 := h.ok.m1
  rw [List.length_map] at h1
  omega
theorem RAy.node (h : RAy w x S M R L P sb sc nv lv LV) {g cap n : Nat} (hv : nv = .slice (some ⟨g, 0, none⟩) n cap) {i : Nat} (hi : i < R.length) : w.cell? ⟨g, i * 2, none⟩ = some (.int .i64 (R[i]).lv) ∧ w.cell? ⟨g, i * 2 + 1, none⟩ = some (.slice (some ⟨(R[i]).kb, 0, none⟩) (R[i]).ks.length (R[i]).kc) := by
  obtain ⟨g1, g2⟩ := ndC_get R i hi
  exact ⟨(h.row.cell hv (by omega)).trans g1, (h.row.cell hv (by omega)).trans g2⟩
/-- Where a level's refs lie. -/
theorem RAy.lcell (h : RAy w x S M R L P sb sc nv lv LV) {i : Nat} (hi : i < S.length) : ∃ g c, lv = .slice (some ⟨g, 0, none⟩) S.length c ∧ g < w.heap.size ∧ w.cell? ⟨g, i, none⟩ = some (LV.getD i (.slice none 0 0)) ∧ w.frozen? ⟨g, i, none⟩ = false := by
  obtain ⟨ao, c, rfl, hp⟩ := own_shape h.lrow
  obtain ⟨g, rfl⟩ := hp (by omega)
  have hl := h.lrow.1
  refine ⟨g, c, rfl, (World.ownsRow.lt h.lrow g rfl).2, ?_, h.lrow.frozenAt _⟩
  rw [World.ownsRow.cellAt h.lrow i (by omega), List.getD_eq_getElem?_getD, List.getElem?_eq_getElem (by omega)]
  rfl
set_option maxRecDepth 100000 in
theorem hasD_any (f : Int) (h : RAx w x S M R P sb sc nv lv LV) : Calls Try.prog 25 #[.pointer (some ⟨x, 0, none⟩), .int .i64 f] w fun e w' => e = .returned (.bool (hasN R.length f)) ∧ w' = w := by
  obtain ⟨c0, c1, c2, c3⟩ := h.cells
  have hf := h.few
  obtain ⟨ao, cap, rfl, _⟩ := h.row.shape
  have e1 : IntKind.i64.wrap ((R.length : Int) + 2) = (R.length : Int) + 2 := by simp [IntKind.wrap, IntKind.bits, IntKind.signed]; omega
  clear h
  generalize R.length = n at *
  by_cases h0 : 0 ≤ f
  · by_cases h1 : f < (n : Int) + 2
    · rw [show hasN n f = true by simp only [hasN, decide_eq_true h0, decide_eq_true h1, Bool.and_true]]
      go_enter Try.func25, Try.ntmps25
      go_wp2
      go_ret
      exact ⟨rfl, rfl⟩
    · rw [show hasN n f = false by simp only [hasN, decide_eq_false h1, Bool.and_false]]
      go_enter Try.func25, Try.ntmps25
      go_wp2
      go_ret
      exact ⟨rfl, rfl⟩
  · rw [show hasN n f = false by simp only [hasN, decide_eq_false h0, Bool.false_and]]
    go_enter Try.func25, Try.ntmps25
    go_wp2
    go_ret
    exact ⟨rfl, rfl⟩
set_option maxRecDepth 100000 in
theorem levelD_any (f : Int) (h : RAx w x S M R P sb sc nv lv LV) : Calls Try.prog 23 #[.pointer (some ⟨x, 0, none⟩), .int .i64 f] w fun e w' => e = .returned (.int .i64 (lvl S (R.map ND.nd) f)) ∧ w' = w := by
  obtain ⟨c0, c1, c2, c3⟩ := h.cells
  have hfw := h.few
  have e0 : IntKind.i64.wrap ((R.length : Int) + 2) = (R.length : Int) + 2 := by simp [IntKind.wrap, IntKind.bits, IntKind.signed]; omega
  by_cases hc : 2 ≤ f ∧ f < (R.length : Int) + 2
  · obtain ⟨i, hi, rfl, e⟩ := lvl_node (S := S) hc.1 hc.2
    rw [e]
    have hc1 : ¬ (i : Int) + 2 < 2 := by omega
    have hc2 : ¬ (R.length : Int) + 2 ≤ (i : Int) + 2 := by omega
    clear e hc
    obtain ⟨ao, cap, hv, hp, _⟩ := h.row.shape
    obtain ⟨g, rfl⟩ := hp (by omega)
    subst hv
    obtain ⟨d0, d1⟩ := h.node rfl hi
    have e1 : IntKind.i64.wrap ((i : Int) + 2 - 2) = (i : Int) := by simp [IntKind.wrap, IntKind.bits, IntKind.signed]; omega
    have hi' : (i : Int) < (R.length : Int) := by omega
    clear h hp d1
    generalize (R[i]).lv = lv' at *
    generalize R.length = n at *
    go_enter Try.func23, Try.ntmps23
    go_wp2
    go_ret
    exact ⟨rfl, rfl⟩
  · rw [lvl_none hc]
    obtain ⟨ao, cap, rfl, _⟩ := h.row.shape
    clear h
    generalize R.length = n at *
    by_cases h1 : f < 2
    · go_enter Try.func23, Try.ntmps23
      go_wp2
      go_ret
      exact ⟨rfl, rfl⟩
    · have h2 : (n : Int) + 2 ≤ f := by omega
      clear hc
      go_enter Try.func23, Try.ntmps23
      go_wp2
      go_ret
      exact ⟨rfl, rfl⟩
set_option maxRecDepth 100000 in
theorem lenD_any (h : RAx w x S M R P sb sc nv lv LV) : Calls Try.prog 10 #[.pointer (some ⟨x, 0, none⟩)] w fun e w' => e = .returned (.int .i64 (R.length : Int)) ∧ w' = w := by
  obtain ⟨c0, c1, c2, c3⟩ := h.cells
  obtain ⟨ao, cap, rfl, _⟩ := h.row.shape
  clear h
  go_enter Try.func10, Try.ntmps10
  go_wp2
  go_ret
  exact ⟨rfl, rfl⟩
end
end Go.Proofs.Ytkklphmhbbjmcaa
