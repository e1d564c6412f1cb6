/-
  areThere, sizeOf, isPoint by their contracts. Condition: lists no longer than a process can hold.
-/
import Derived.Test.YtaafeflbanoncaaMem
namespace Go.Proofs.Ytaafeflbanoncaa
open Go.RowKit Go.Lib Go.Maps

section
variable {w : World} {a : Nat} {S : List Int} {M : Int} {N : List Nd} {m : Nat} {P : Nat → Prop}
set_option maxRecDepth 100000 in
set_option maxHeartbeats 1000000 in
theorem areThere_any (ao : Option Addr) (cap : Nat) (A : List Int) (hl : A.length ≤ 140737488351232) (hz : ZAt w ao A) (h : CA w a S M N m P) :
    Calls Try.prog 59 #[.pointer (some ⟨a, 0, none⟩), .slice ao A.length cap] w fun e w' => TellB (∀ f ∈ A, hasR N f) e ∧ Below w.heap.size w w' := by
  have HH := hide h
  have HZ := hide hz
  clear h hz
  go_enter Try.func59, Try.ntmps59
  go_wp2
  go_loopw [11] (fun x wr => ∃ k : Nat, k ≤ A.length ∧ x = .int .i64 k ∧ Hid (∀ i, i < k → hasR N (A.getD i 0)) ∧ Hid (Below w.heap.size w wr)) (fun x _ => A.length - (RowKit.intOf x).toNat)
  case atStart => exact ⟨0, Nat.zero_le _, rfl, fun i h => by omega, Below.refl _ _⟩
  case round =>
    obtain ⟨k, hk, rfl, HE, HQ⟩ := hrel
    by_cases hlt : k < A.length
    · have hlt' : (k : Int) < A.length := by omega
      obtain ⟨b1, o1, rfl, hb1, g1⟩ := HZ.out.get hlt
      have q1 := (HQ.out.cell (p := ⟨b1, o1 + k, none⟩) hb1).trans g1
      clear g1
      have HM : Hid (A.getD k 0 ∈ A) := getD_mem hlt
      have HE2 : Hid (hasR N (A.getD k 0) → ∀ i, i < k + 1 → hasR N (A.getD i 0)) := fun p i hi => by
        rcases Nat.lt_or_ge i k with h | h
        · exact HE.out i h
        · obtain rfl : i = k := by omega
          exact p
      clear HE
      generalize A.getD k 0 = x at *
      have HA := hide ((HH.out.below HQ.out).has x)
      have HI := hide (hasN_iff (f := x) N (n := N.length) rfl)
      cases hb : hasN N.length x
      · rw [hb] at HA
        have HD : Hid (¬ ∀ f ∈ A, hasR N f) := fun h => by
          have := h x HM.out
          rw [← HI.out, hb] at this
          cases this
        clear hb
        go_wp2_with (go_at_call 78; refine HA.out.mono ?_; rintro e w1 ⟨rfl, hw1⟩; have hw2 := hw1.symm; clear hw1; subst hw2)
        go_ret
        exact ⟨TellB.no HD.out, HQ.out⟩
      · rw [hb] at HA
        have HE3 := hide (HE2.out (HI.out.1 hb))
        clear hb HE2
        go_wp2_with (go_at_call 78; refine HA.out.mono ?_; rintro e w1 ⟨rfl, hw1⟩; have hw2 := hw1.symm; clear hw1; subst hw2)
        go_roundw
        case rel => exact ⟨k + 1, by omega, by go_num, HE3, HQ⟩
        case measure => simp [RowKit.intOf]; omega
    · have hlt' : ¬ (k : Int) < A.length := by omega
      have HD : Hid (∀ f ∈ A, hasR N f) := all_of_getD (fun i hi => HE.out i (by omega))
      go_wp2
      go_ret
      exact ⟨TellB.yes HD.out, HQ.out⟩
def szL (S : List Int) (lv : Int) : Int := if 0 ≤ lv ∧ lv < (S.length : Int) then S.getD lv.toNat 0 else 0
set_option maxRecDepth 100000 in
set_option maxHeartbeats 1000000 in
theorem sizeOf_any (lv : Int) (h : CA w a S M N m P) : Calls Try.prog 55 #[.pointer (some ⟨a, 0, none⟩), .int .i64 lv] w fun e w' => e = .returned (.int .i64 (szL S lv)) ∧ Below w.heap.size w w' := by
  have HS := hide h.sizes
  clear h
  by_cases h0 : lv < 0
  · rw [show szL S lv = 0 by unfold szL; rw [if_neg (by omega)]]
    go_enter Try.func55, Try.ntmps55
    go_wp2_with (go_at_call 49; refine HS.out.mono ?_; rintro e w1 ⟨⟨g, c, rfl, o1, z1, l1⟩, x1⟩; have X1 := hide x1; clear o1 z1 l1 x1)
    go_ret
    exact ⟨rfl, X1.out⟩
  by_cases h1 : (S.length : Int) ≤ lv
  · rw [show szL S lv = 0 by unfold szL; rw [if_neg (by omega)]]
    go_enter Try.func55, Try.ntmps55
    go_wp2_with (go_at_call 49; refine HS.out.mono ?_; rintro e w1 ⟨⟨g, c, rfl, o1, z1, l1⟩, x1⟩; have X1 := hide x1; clear o1 z1 l1 x1)
    go_ret
    exact ⟨rfl, X1.out⟩
  obtain ⟨l, rfl⟩ : ∃ l : Nat, lv = l := ⟨lv.toNat, by omega⟩
  have hl1 : l < S.length := by omega
  have hl0 : ¬ (l : Int) < 0 := by omega
  have hl2 : (l : Int) < (S.length : Int) := by omega
  rw [show szL S (l : Int) = S.getD l 0 by unfold szL; rw [if_pos (by omega), Int.toNat_natCast]]
  have HL := hide hl1
  clear h0 h1 hl1
  go_enter Try.func55, Try.ntmps55
  go_upto_region 4 with (go_at_call 49; refine HS.out.mono ?_; rintro e w1 ⟨⟨g, c, rfl, o1, z1, l1⟩, x1⟩; have X1 := hide x1; have Z1 := hide z1; clear o1 z1 l1 x1)
  have q0 := Z1.out.cell HL.out
  obtain ⟨s, hs⟩ : ∃ s, S.getD l 0 = s := ⟨_, rfl⟩
  rw [hs] at q0
  have HSS := hide hs
  clear hs
  go_wp2
  go_ret
  exact ⟨by rw [HSS.out]; rfl, X1.out⟩
/-- Classes of a point. -/
structure PtL (S : List Int) (A : List Int) : Prop where
  len : A.length = S.length
  each : ∀ i, i < A.length → 0 ≤ A.getD i 0 ∧ A.getD i 0 < S.getD i 0
set_option maxRecDepth 100000 in
set_option maxHeartbeats 1000000 in
theorem isPoint_ok (ao : Option Addr) (cap : Nat) (A : List Int) (hA : PtL S A) (hz : ZAt w ao A) (h : CA w a S M N m P) :
    Calls Try.prog 67 #[.pointer (some ⟨a, 0, none⟩), .slice ao A.length cap] w fun e w' => e = .returned (.bool true) ∧ Below w.heap.size w w' := by
  have HS := hide h.sizes
  have hs12 := h.ok.sz.le
  have HP := hide hA
  have HZ := hide hz
  have hlen := hA.len
  rw [← hlen] at HS hs12
  have HL := hide hlen
  clear h hz hA hlen
  go_enter Try.func67, Try.ntmps67
  go_upto_region 2 with (go_at_call 49; refine HS.out.mono ?_; rintro e w1 ⟨⟨g, c, rfl, o1, z1, l1⟩, x1⟩; have X1 := hide x1; have Z1 := hide z1; clear o1 z1 l1 x1)
  clear HS
  go_wp2
  go_loopw [17] (fun x wr => ∃ k : Nat, k ≤ A.length ∧ x = .int .i64 k ∧ Hid (Below w1.heap.size w1 wr)) (fun x _ => A.length - (RowKit.intOf x).toNat)
  case atStart => exact ⟨0, Nat.zero_le _, rfl, Below.refl _ _⟩
  case round =>
    obtain ⟨k, hk, rfl, HQ⟩ := hrel
    by_cases hlt : k < A.length
    · have hlt' : (k : Int) < A.length := by omega
      obtain ⟨b1, o1, rfl, hb1, g1⟩ := (HZ.out.below X1.out).get hlt
      have q1 := (HQ.out.cell (p := ⟨b1, o1 + k, none⟩) hb1).trans g1
      have q2 := (Z1.out.below HQ.out).cell (i := k) (by rw [← HL.out]; exact hlt)
      obtain ⟨p0, p1⟩ := HP.out.each k hlt
      clear g1
      generalize A.getD k 0 = x at *
      generalize S.getD k 0 = y at *
      have p0' : ¬ x < 0 := by omega
      have p1' : ¬ y ≤ x := by omega
      go_wp2
      go_roundw
      case rel => exact ⟨k + 1, by omega, by go_num, HQ⟩
      case measure => simp [RowKit.intOf]; omega
    · have hlt' : ¬ (k : Int) < A.length := by omega
      go_wp2
      go_ret
      exact ⟨rfl, bt X1.out HQ.out (Nat.le_refl _)⟩
end
end Go.Proofs.Ytaafeflbanoncaa
