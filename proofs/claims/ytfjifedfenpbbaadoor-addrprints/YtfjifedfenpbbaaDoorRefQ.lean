/-
  The document's Print by its contract. No condition.
-/
import Derived.Test.YtfjifedfenpbbaaDoorRefR
namespace Go.Proofs.YtfjifedfenpbbaaDoor
open Go.RowKit Go.Lib

theorem and255 (n : Nat) (h : n < 4294967296) : bits BinOp.and IntKind.i64 (n : Int) 255 = ((n % 256 : Nat) : Int) := by
  have := bits_mask .i64 63 (by decide) (fun n h0 h1 => by simp [IntKind.wrap, IntKind.bits, IntKind.signed]; omega) 8 (by decide) (n : Int) (by omega) (by omega)
  simpa using this
set_option maxRecDepth 100000 in
set_option maxHeartbeats 1000000 in
theorem refPrint_any (n : Int) (w : World) : Calls Tryd.prog 14 #[.int .i64 n] w fun e w' => e = .returned (.tuple #[.string ⟨(prtS n).toArray⟩, .int .i64 (prtE n)]) ∧ Below w.heap.size w w' := by
  by_cases h : 0 ≤ n ∧ n ≤ 4294967295
  · have hs : prtS n = txt n.toNat := if_pos h
    have he : prtE n = 0 := if_pos h
    rw [hs, he]
    obtain ⟨m, rfl⟩ : ∃ m : Nat, n = m := ⟨n.toNat, by omega⟩
    have h1 : ¬ (m : Int) < 0 := by omega
    have h2 : ¬ (4294967295 : Int) < m := by omega
    have d1 := fun w => digits_any (m / 16777216 % 256) (by omega) w
    have d2 := fun w => digits_any (m / 65536 % 256) (by omega) w
    have d3 := fun w => digits_any (m / 256 % 256) (by omega) w
    have d4 := fun w => digits_any (m % 256) (by omega) w
    have q1 : (m : Int) / 16777216 = ((m / 16777216 % 256 : Nat) : Int) := by omega
    have q2 : (m : Int) / 65536 = ((m / 65536 : Nat) : Int) := by omega
    have q3 : (m : Int) / 256 = ((m / 256 : Nat) : Int) := by omega
    have r2 : bits BinOp.and IntKind.i64 ((m : Int) / 65536) 255 = ((m / 65536 % 256 : Nat) : Int) := by rw [q2]; exact and255 (m / 65536) (by omega)
    have r3 : bits BinOp.and IntKind.i64 ((m : Int) / 256) 255 = ((m / 256 % 256 : Nat) : Int) := by rw [q3]; exact and255 (m / 256) (by omega)
    clear q2 q3
    have r4 := and255 m (by omega)
    have l1 := dec_len (m / 16777216 % 256)
    have l2 := dec_len (m / 65536 % 256)
    have l3 := dec_len (m / 256 % 256)
    have l4 := dec_len (m % 256)
    have HT : Hid (txt m = decDigits (m / 16777216 % 256) ++ 46 :: (decDigits (m / 65536 % 256) ++ 46 :: (decDigits (m / 256 % 256) ++ 46 :: decDigits (m % 256)))) := rfl
    have g : m / 16777216 % 256 < 256 ∧ m / 65536 % 256 < 256 ∧ m / 256 % 256 < 256 ∧ m % 256 < 256 := by omega
    simp only [Int.toNat_natCast]
    clear hs he
    generalize m / 16777216 % 256 = x1 at *
    generalize m / 65536 % 256 = x2 at *
    generalize m / 256 % 256 = x3 at *
    generalize m % 256 = x4 at *
    generalize decDigits x1 = D1 at *
    generalize decDigits x2 = D2 at *
    generalize decDigits x3 = D3 at *
    generalize decDigits x4 = D4 at *
    have c1 : ¬ 9223372036854775807 < D1.length + 1 := by omega
    have c2 : ¬ 9223372036854775807 < D1.length + 1 + D2.length := by omega
    have c3 : ¬ 9223372036854775807 < D1.length + 1 + D2.length + 1 := by omega
    have c4 : ¬ 9223372036854775807 < D1.length + 1 + D2.length + 1 + D3.length := by omega
    have c5 : ¬ 9223372036854775807 < D1.length + 1 + D2.length + 1 + D3.length + 1 := by omega
    have c6 : ¬ 9223372036854775807 < D1.length + 1 + D2.length + 1 + D3.length + 1 + D4.length := by omega
    clear l1 l2 l3 l4
    go_enter Tryd.func14, Tryd.ntmps14
    go_wp2_with (first
      | (go_at_call 36; refine (d1 _).mono ?_; rintro e w1 ⟨rfl, y1⟩; have Y1 := hide y1; clear y1 d1)
      | (go_at_call 36; refine (d2 w1).mono ?_; rintro e w2 ⟨rfl, y2⟩; have Y2 := hide (bt Y1.out y2 (Nat.le_refl _)); clear y2 d2)
      | (go_at_call 36; refine (d3 w2).mono ?_; rintro e w3 ⟨rfl, y3⟩; have Y3 := hide (bt Y2.out y3 (Nat.le_refl _)); clear y3 d3)
      | (go_at_call 36; refine (d4 w3).mono ?_; rintro e w4 ⟨rfl, y4⟩; have Y4 := hide (bt Y3.out y4 (Nat.le_refl _)); clear y4 d4))
    go_ret2
    refine ⟨?_, Y4.out⟩
    rw [HT.out]
    exact congrArg (fun b => Ending.returned (.tuple #[.string b, .int .i64 0])) (ByteArray.ext (by simp))
  · have hs : prtS n = [] := if_neg h
    have he : prtE n = 1 := if_neg h
    rw [hs, he]
    by_cases h1 : n < 0
    · go_enter Tryd.func14, Tryd.ntmps14
      go_wp2
      go_ret2
      exact ⟨rfl, Below.refl _ _⟩
    · have h2 : (4294967295 : Int) < n := by omega
      go_enter Tryd.func14, Tryd.ntmps14
      go_wp2
      go_ret2
      exact ⟨rfl, Below.refl _ _⟩
end Go.Proofs.YtfjifedfenpbbaaDoor
