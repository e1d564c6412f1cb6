/-
  Both arenas' calls, by what they say of the list of nodes. Condition: lists no longer than a process can hold.
-/
import Derived.Test.YtkklphmhbbjmcaaRmk
import Derived.Test.YtkklphmhbbjmcaaRbk
import Derived.Test.YtkklphmhbbjmcaaRnw
namespace Go.Proofs.Ytkklphmhbbjmcaa
open Go.RowKit Go.Lib Go.Maps

section
variable {w w' : World} {a x : Nat} {S : List Int} {M : Int} {N : List Nd} {m : Nat} {P Q : Nat → Prop}
theorem CA.make (h : CA w a S M N m P) (lv : Int) (ao : Option Addr) (cap : Nat) (A : List Int) (hl : A.length ≤ 140737488351232) (hz : ZAt w ao A) (hm : m ≤ 1152921504606846976) :
    Calls Try.prog 18 #[.pointer (some ⟨a, 0, none⟩), .int .i64 lv, .slice ao A.length cap] w fun e w' => MkL S M N lv A w e w' (fun N' P' V => CA V a S M N' (m + 1) P') P := by
  obtain ⟨R, sb, sc, nv, mb, h1, rfl⟩ := h
  exact makeC_any lv ao cap A hl hz h1 hm
theorem CA.node (h : CA w a S M N m P) (f : Int) : Calls Try.prog 14 #[.pointer (some ⟨a, 0, none⟩), .int .i64 f] w fun e w' => NdL N f w e w' := by
  obtain ⟨R, sb, sc, nv, mb, h1, rfl⟩ := h
  exact nodeC_any f h1
theorem CA.level (h : CA w a S M N m P) (f : Int) : Calls Try.prog 15 #[.pointer (some ⟨a, 0, none⟩), .int .i64 f] w fun e w' => e = .returned (.int .i64 (lvl S N f)) ∧ w' = w := by
  obtain ⟨R, sb, sc, nv, mb, h1, rfl⟩ := h
  exact level_any f h1
theorem CA.has (h : CA w a S M N m P) (f : Int) : Calls Try.prog 24 #[.pointer (some ⟨a, 0, none⟩), .int .i64 f] w fun e w' => e = .returned (.bool (hasN N.length f)) ∧ w' = w := by
  obtain ⟨R, sb, sc, nv, mb, h1, rfl⟩ := h
  rw [List.length_map]
  exact has_any f h1
theorem CA.len (h : CA w a S M N m P) : Calls Try.prog 12 #[.pointer (some ⟨a, 0, none⟩)] w fun e w' => e = .returned (.int .i64 (N.length : Int)) ∧ w' = w := by
  obtain ⟨R, sb, sc, nv, mb, h1, rfl⟩ := h
  rw [List.length_map]
  exact len_any h1
theorem CA.most (h : CA w a S M N m P) : Calls Try.prog 13 #[.pointer (some ⟨a, 0, none⟩)] w fun e w' => e = .returned (.int .i64 M) ∧ w' = w := by
  obtain ⟨R, sb, sc, nv, mb, h1, rfl⟩ := h
  exact most_any h1
theorem CA.sizes (h : CA w a S M N m P) : Calls Try.prog 28 #[.pointer (some ⟨a, 0, none⟩)] w fun e w' => (∃ g c, e = .returned (.slice (some ⟨g, 0, none⟩) S.length c) ∧ w'.ownsRow w.heap.size 3 1 (.slice (some ⟨g, 0, none⟩) S.length c) S.length (zC S) ∧ ZBk w' g S ∧ w.heap.size ≤ g) ∧ Below w.heap.size w w' := by
  obtain ⟨R, sb, sc, nv, mb, h1, rfl⟩ := h
  exact sizes_any h1
theorem CA.back (h : CA w a S M N m P) (n : Int) : Calls Try.prog 26 #[.pointer (some ⟨a, 0, none⟩), .int .i64 n] w fun e w' => BkL N n w e w' (fun N' V => CA V a S M N' m P) P := by
  obtain ⟨R, sb, sc, nv, mb, h1, rfl⟩ := h
  exact backC_any n h1
theorem RA.make (h : RA w x S M N Q) (lv : Int) (ao : Option Addr) (cap : Nat) (A : List Int) (hl : A.length ≤ 140737488351232) (hz : ZAt w ao A) :
    Calls Try.prog 34 #[.pointer (some ⟨x, 0, none⟩), .int .i64 lv, .slice ao A.length cap] w fun e w' => MkL S M N lv A w e w' (fun N' P' V => RA V x S M N' P') Q := by
  obtain ⟨R, sb, sc, nv, lvv, LV, h1, rfl⟩ := h
  exact makeD_any lv ao cap A hl hz h1
theorem RA.node (h : RA w x S M N Q) (f : Int) : Calls Try.prog 22 #[.pointer (some ⟨x, 0, none⟩), .int .i64 f] w fun e w' => NdL N f w e w' := by
  obtain ⟨R, sb, sc, nv, lvv, LV, h1, rfl⟩ := h
  exact nodeD_any f h1
theorem RA.level (h : RA w x S M N Q) (f : Int) : Calls Try.prog 23 #[.pointer (some ⟨x, 0, none⟩), .int .i64 f] w fun e w' => e = .returned (.int .i64 (lvl S N f)) ∧ w' = w := by
  obtain ⟨R, sb, sc, nv, lvv, LV, h1, rfl⟩ := h
  exact levelD_any f h1
theorem RA.has (h : RA w x S M N Q) (f : Int) : Calls Try.prog 25 #[.pointer (some ⟨x, 0, none⟩), .int .i64 f] w fun e w' => e = .returned (.bool (hasN N.length f)) ∧ w' = w := by
  obtain ⟨R, sb, sc, nv, lvv, LV, h1, rfl⟩ := h
  rw [List.length_map]
  exact hasD_any f h1
theorem RA.len (h : RA w x S M N Q) : Calls Try.prog 10 #[.pointer (some ⟨x, 0, none⟩)] w fun e w' => e = .returned (.int .i64 (N.length : Int)) ∧ w' = w := by
  obtain ⟨R, sb, sc, nv, lvv, LV, h1, rfl⟩ := h
  rw [List.length_map]
  exact lenD_any h1
theorem RA.back (h : RA w x S M N Q) (n : Int) : Calls Try.prog 27 #[.pointer (some ⟨x, 0, none⟩), .int .i64 n] w fun e w' => BkL N n w e w' (fun N' V => RA V x S M N' Q) Q := by
  obtain ⟨R, sb, sc, nv, lvv, LV, h1, rfl⟩ := h
  exact backD_any n h1
/-- The document's sizes and most, read from its own fields. -/
theorem RA.fields (h : RA w x S M N Q) : ∃ sb sc, w.cell? ⟨x, 0, none⟩ = some (.slice (some ⟨sb, 0, none⟩) S.length sc) ∧ w.cell? ⟨x, 1, none⟩ = some (.int .i64 M) ∧ ZBk w sb S ∧ x < w.heap.size := by
  obtain ⟨R, sb, sc, nv, lvv, LV, h1, rfl⟩ := h
  exact ⟨sb, sc, h1.cells.1, h1.cells.2.1, h1.sz, lt_of_block h1.blk⟩
end
/-- May, looked at. -/
def mayB (S : List Int) (N : List Nd) (lv : Int) (ks : List Int) : Bool := decide (0 ≤ lv) && decide (lv < (S.length : Int)) && decide ((ks.length : Int) = S.getD lv.toNat 0) && ks.all fun f => decide (hasR N f) && decide (lv < lvl S N f)
theorem mayB_iff (S : List Int) (N : List Nd) (lv : Int) (ks : List Int) : mayB S N lv ks = true ↔ May S N lv ks := by
  unfold mayB
  simp only [Bool.and_eq_true, decide_eq_true_eq, List.all_eq_true]
  exact ⟨fun h => ⟨h.1.1.1, h.1.1.2, h.1.2, h.2⟩, fun h => ⟨⟨⟨h.ge, h.lt⟩, h.len⟩, h.kid⟩⟩
theorem may_no {S : List Int} {N : List Nd} {lv : Int} {ks : List Int} (h : mayB S N lv ks = false) : ¬ May S N lv ks := fun k => by
  rw [(mayB_iff S N lv ks).2 k] at h
  cases h
end Go.Proofs.Ytkklphmhbbjmcaa
