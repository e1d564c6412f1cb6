/-
  LexNames answers true. Condition: texts no longer than a process can hold.
-/
import Derived.Test.YtkpdbbbeagnjpaaGreatDoorAwk
import Derived.Test.YtkpdbbbeagnjpaaGreatDoorDqu
import Derived.Deep.RegionHeld3
namespace Go.Proofs.YtkpdbbbeagnjpaaGreatDoor
open Go.RowKit Go.Lib

set_option maxHeartbeats 8000000 in
set_option maxRecDepth 100000 in
theorem lexNames_any (s t : By) (w : World) (hs : s.length ≤ 140737488351232) (ht : t.length ≤ 140737488351232) :
    Calls Tryz.prog 4 #[.string ⟨s.toArray⟩, .string ⟨t.toArray⟩] w fun e w' => e = .returned (.bool true) ∧ Below w.heap.size w w' := by
  have HA := hide (awake_any w)
  go_enter Tryz.func4, Tryz.ntmps4
  go_upto_region 2 with (go_at_call 7; refine HA.out.mono ?_; rintro e w1 ⟨rfl, x1⟩; have X1 := hide x1; clear x1)
  clear HA
  have X2 : Hid (Below w1.heap.size w1 (w1.alloc (.cells #[.string ⟨s.toArray⟩, .string ⟨t.toArray⟩, .string ⟨s.toArray⟩] 9))) := al (Below.refl _ _) _
  have B2 := hide (heap_alloc_new w1 (.cells #[.string ⟨s.toArray⟩, .string ⟨t.toArray⟩, .string ⟨s.toArray⟩] 9))
  go_wp2
  obtain ⟨w2, hw2⟩ : ∃ w2, w2 = w1.alloc (.cells #[.string ⟨s.toArray⟩, .string ⟨t.toArray⟩, .string ⟨s.toArray⟩] 9) := ⟨_, rfl⟩
  obtain ⟨lb, hlb⟩ : ∃ lb, lb = w1.heap.size := ⟨_, rfl⟩
  rw [← hw2] at X2 B2 ⊢
  rw [← hlb] at B2 ⊢
  clear hw2 hlb
  have HC : Hid (∀ V, Below w2.heap.size w2 V → V.heap[lb]? = some (.cells #[.string ⟨s.toArray⟩, .string ⟨t.toArray⟩, .string ⟨s.toArray⟩] 9 (0, 0)) ∧ lb < V.heap.size) := fun V y => by
    have := (y.block lb (lt_of_block B2.out)).trans B2.out
    exact ⟨this, lt_of_block this⟩
  clear B2
  go_loopg [7] 4 (fun g x wr => ∃ i : Nat, x = .int .i64 (i : Nat) ∧ i ≤ 3 ∧ Hid (Below w2.heap.size w2 wr) ∧ 3 - i < g)
  case atStart => exact ⟨0, rfl, by omega, Below.refl _ _, by omega⟩
  case round =>
    obtain ⟨i, rfl, hi1, XR, hg⟩ := hrel
    have HG := hide hg
    clear hg
    by_cases hi : i < 3
    · have hi' : (i : Int) < 3 := by omega
      obtain ⟨u, hu, hcu⟩ : ∃ u : By, u.length ≤ 140737488351232 ∧ Hid (∀ V, Below w2.heap.size w2 V → V.cell? ⟨lb, i, none⟩ = some (.string ⟨u.toArray⟩)) := by
        have key : i = 0 ∨ i = 1 ∨ i = 2 := by omega
        rcases key with rfl | rfl | rfl
        · exact ⟨s, hs, fun V y => by rw [cell_of_row _ _ _ _ _ _ (HC.out V y).1]; rfl⟩
        · exact ⟨t, ht, fun V y => by rw [cell_of_row _ _ _ _ _ _ (HC.out V y).1]; rfl⟩
        · exact ⟨s, hs, fun V y => by rw [cell_of_row _ _ _ _ _ _ (HC.out V y).1]; rfl⟩
      have c0 := hcu.out wr XR.out
      have l0 := (HC.out wr XR.out).2
      have HQ1 := hide (fun W => quote_any u W hu)
      have HQ2 := hide (fun W => quoteD_any u W hu)
      have HW1 := hide (fun W => isWord_any u W)
      have HW2 := hide (fun W => isWordD_any u W)
      have HN1 := hide (fun W => isName_any u W hu)
      have HN2 := hide (fun W => isNameD_any u W hu)
      generalize (quoP u).2 = q at *
      generalize (quoP u).1 = c at *
      generalize wdB u = b1 at *
      generalize nmB u = b2 at *
      go_upto_region 7 with (go_at_call 12; refine (HQ1.out _).mono ?_; rintro e w3 ⟨rfl, x3⟩; have X3 := hide (bt XR.out x3 (Nat.le_refl _)); clear x3)
      clear c0 l0
      have c0 := hcu.out w3 X3.out
      have l0 := (HC.out w3 X3.out).2
      go_upto_region 8 with (go_at_call 13; refine (HQ2.out _).mono ?_; rintro e w4 ⟨rfl, x4⟩; have X4 := hide (bt X3.out x4 (Nat.le_refl _)); clear x4)
      clear c0 l0
      have HV : Hid (∀ V, Below w4.heap.size w4 V → V.cell? ⟨lb, i, none⟩ = some (.string ⟨u.toArray⟩)) := fun V y => hcu.out V (bt X4.out y (Nat.le_refl _))
      have XD : Hid (Below w4.heap.size w4 w4.drew) := (Below.refl _ _).drew
      go_region_held3 (fun V => V.cell? ⟨lb, i, none⟩ = some (.string ⟨u.toArray⟩)) (first | assumption | exact HV.out _ XD.out | exact HV.out _ Y5.out | exact HV.out _ Y6.out | exact HV.out _ Y7.out)
        (first
          | (go_at_call 14; refine (HW1.out _).mono ?_; rintro e wz ⟨rfl, hwz⟩; have hwz := hwz.symm; subst hwz)
          | (go_at_call 15; refine (HW2.out _).mono ?_; rintro e w5 ⟨rfl, x5⟩; have Y5 := hide (bt XD.out x5 (Nat.le_refl _)); clear x5)
          | (go_at_call 16; refine (HN1.out _).mono ?_; rintro e w6 ⟨rfl, x6⟩; have Y6 := hide (bt Y5.out x6 (Nat.le_refl _)); clear x6)
          | (go_at_call 17; refine (HN2.out _).mono ?_; rintro e w7 ⟨rfl, x7⟩; have Y7 := hide (bt Y6.out x7 (Nat.le_refl _)); clear x7))
      all_goals
        have XN := hide (bt X4.out Y7.out (Nat.le_refl _))
        have f1 : IntKind.i64.wrap ((i : Int) + 1) = (i : Int) + 1 := by rw [show (i : Int) + 1 = ((i + 1 : Nat) : Int) by simp]; simp [IntKind.wrap, IntKind.bits, IntKind.signed]; omega
        go_wp2
        go_roundg (3 - (i + 1) + 1)
        case measure => have := HG.out; omega
        case rel => exact ⟨i + 1, by first | rfl | go_num | (congr 1; omega), by omega, XN, by omega⟩
    · obtain rfl : i = 3 := by omega
      go_wp2
      go_ret
      exact ⟨rfl, bt X1.out (bt X2.out XR.out (Nat.le_refl _)) (Nat.le_refl _)⟩
end Go.Proofs.YtkpdbbbeagnjpaaGreatDoor
