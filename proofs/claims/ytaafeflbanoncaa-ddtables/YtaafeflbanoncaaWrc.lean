/-
  The program's arena: its calls, by what they say of the list of nodes. Condition: lists no longer than a process can hold.
-/
import Derived.Test.YtaafeflbanoncaaCma
import Derived.Test.YtaafeflbanoncaaCnd
import Derived.Test.YtaafeflbanoncaaCbk
import Derived.Test.YtaafeflbanoncaaCmn
namespace Go.Proofs.Ytaafeflbanoncaa
open Go.RowKit Go.Lib Go.Maps

section
variable {w w' : World} {a x : Nat} {S : List Int} {M : Int} {N : List Nd} {m : Nat} {P Q : Nat → Prop}
theorem CA.make (h : CA w a S M N m P) (lv : Int) (ao : Option Addr) (cap : Nat) (A : List Int) (hl : A.length ≤ 140737488351232) (hz : ZAt w ao A) (hm : m ≤ 1152921504606846976) :
    Calls Try.prog 56 #[.pointer (some ⟨a, 0, none⟩), .int .i64 lv, .slice ao A.length cap] w fun e w' => MkL S M N lv A w e w' (fun N' P' V => CA V a S M N' (m + 1) P') P := by
  obtain ⟨R, sb, sc, nv, mb, h1, rfl⟩ := h
  exact makeC_any lv ao cap A hl hz h1 hm
theorem CA.node (h : CA w a S M N m P) (f : Int) : Calls Try.prog 21 #[.pointer (some ⟨a, 0, none⟩), .int .i64 f] w fun e w' => NdL N f w e w' := by
  obtain ⟨R, sb, sc, nv, mb, h1, rfl⟩ := h
  exact nodeC_any f h1
theorem CA.level (h : CA w a S M N m P) (f : Int) : Calls Try.prog 62 #[.pointer (some ⟨a, 0, none⟩), .int .i64 f] w fun e w' => e = .returned (.int .i64 (lvl S N f)) ∧ w' = w := by
  obtain ⟨R, sb, sc, nv, mb, h1, rfl⟩ := h
  exact level_any f h1
theorem CA.has (h : CA w a S M N m P) (f : Int) : Calls Try.prog 78 #[.pointer (some ⟨a, 0, none⟩), .int .i64 f] w fun e w' => e = .returned (.bool (hasN N.length f)) ∧ w' = w := by
  obtain ⟨R, sb, sc, nv, mb, h1, rfl⟩ := h
  rw [List.length_map]
  exact has_any f h1
theorem CA.len (h : CA w a S M N m P) : Calls Try.prog 20 #[.pointer (some ⟨a, 0, none⟩)] w fun e w' => e = .returned (.int .i64 (N.length : Int)) ∧ w' = w := by
  obtain ⟨R, sb, sc, nv, mb, h1, rfl⟩ := h
  rw [List.length_map]
  exact len_any h1
theorem CA.sizes (h : CA w a S M N m P) : Calls Try.prog 49 #[.pointer (some ⟨a, 0, none⟩)] w fun e w' => (∃ g c, e = .returned (.slice (some ⟨g, 0, none⟩) S.length c) ∧ w'.ownsRow w.heap.size 3 1 (.slice (some ⟨g, 0, none⟩) S.length c) S.length (zC S) ∧ ZBk w' g S ∧ w.heap.size ≤ g) ∧ Below w.heap.size w w' := by
  obtain ⟨R, sb, sc, nv, mb, h1, rfl⟩ := h
  exact sizes_any h1
theorem CA.back (h : CA w a S M N m P) (n : Int) : Calls Try.prog 36 #[.pointer (some ⟨a, 0, none⟩), .int .i64 n] w fun e w' => BkL N n w e w' (fun N' V => CA V a S M N' m P) P := by
  obtain ⟨R, sb, sc, nv, mb, h1, rfl⟩ := h
  exact backC_any n h1
end
/-- May, looked at. -/
def mayB (S : List Int) (N : List Nd) (lv : Int) (ks : List Int) : Bool := decide (0 ≤ lv) && decide (lv < (S.length : Int)) && decide ((ks.length : Int) = S.getD lv.toNat 0) && ks.all fun f => decide (hasR N f) && decide (lv < lvl S N f)
theorem mayB_iff (S : List Int) (N : List Nd) (lv : Int) (ks : List Int) : mayB S N lv ks = true ↔ May S N lv ks := by
  unfold mayB
  simp only [Bool.and_eq_true, decide_eq_true_eq, List.all_eq_true]
  exact ⟨fun h => ⟨h.1.1.1, h.1.1.2, h.1.2, h.2⟩, fun h => ⟨⟨⟨h.ge, h.lt⟩, h.len⟩, h.kid⟩⟩
theorem may_no {S : List Int} {N : List Nd} {lv : Int} {ks : List Int} (h : mayB S N lv ks = false) : ¬ May S N lv ks := fun k => by
  rw [(mayB_iff S N lv ks).2 k] at h
  cases h
end Go.Proofs.Ytaafeflbanoncaa
