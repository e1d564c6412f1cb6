/-
  The document's PrintPrefix and Range by their contracts. No condition.
-/
import Derived.Test.YtfjifedfenpbbaaDoorRefQ
namespace Go.Proofs.YtfjifedfenpbbaaDoor
open Go.RowKit Go.Lib

set_option maxRecDepth 100000 in
set_option maxHeartbeats 1000000 in
theorem refPrintPrefix_any (a k : Int) (w : World) : Calls Tryd.prog 16 #[.agg #[.int .i64 a, .int .i64 k]] w fun e w' => e = .returned (.tuple #[.string ⟨(pprS a k).toArray⟩, .int .i64 (pprE a k)]) ∧ Below w.heap.size w w' := by
  have b0 := heap_alloc_new w (.cells #[.int .i64 a, .int .i64 k] 28)
  have hB : Below w.heap.size w (w.alloc (.cells #[.int .i64 a, .int .i64 k] 28)) := al (Below.refl _ _) _
  have hr := fun w => refRight_any a k w
  by_cases h : Pfx a k
  · have e1 : pprS a k = txt a.toNat ++ 47 :: Lib.decDigits k.toNat := if_pos h
    have e2 : pprE a k = 0 := if_pos h
    rw [decide_eq_true h] at hr
    rw [e1, e2]
    clear e1 e2
    obtain ⟨n, b, rfl, rfl, hb, hn, hm⟩ := h.nat
    have hp := fun w => refPrint_any n w
    have s1 : prtS (n : Int) = txt n := by unfold prtS; rw [if_pos (by omega)]; rfl
    have s2 : prtE (n : Int) = 0 := by unfold prtE; rw [if_pos (by omega)]
    rw [s1, s2] at hp
    have hd := fun w => digits_any b (by omega) w
    have l1 : (txt n).length ≤ 15 := dots_length _ _ _ _ (by omega) (by omega) (by omega) (by omega)
    have l2 := dec_len b
    simp only [Int.toNat_natCast]
    generalize txt n = T at *
    generalize decDigits b = D at *
    have c1 : ¬ 9223372036854775807 < T.length + 1 := by omega
    have c2 : ¬ 9223372036854775807 < T.length + 1 + D.length := by omega
    have B0 := hide b0
    have HB := hide hB
    clear h hm s1 s2 l1 l2 b0 hB
    go_enter Tryd.func16, Tryd.ntmps16
    go_wp2_with (first
      | (go_at_call 32; generalize w.alloc (.cells #[.int .i64 (n : Int), .int .i64 (b : Int)] 28) = W at *; refine (hr _).mono ?_; rintro e w1 ⟨rfl, x1⟩; have B1 := hide ((x1.block _ (lt_of_block B0.out)).trans B0.out); have X1 := hide (bt HB.out x1 (Nat.le_refl _)); have q0 : w1.cell? ⟨w.heap.size, 0, none⟩ = some (.int .i64 (n : Int)) := (by rw [cell_of_row w1 w.heap.size 0 _ _ _ B1.out]; rfl); clear x1 hr)
      | (go_at_call 14; refine (hp _).mono ?_; rintro e w2 ⟨rfl, x2⟩; have B2 := hide ((x2.block _ (lt_of_block B1.out)).trans B1.out); have X2 := hide (bt X1.out x2 (Nat.le_refl _)); have q1 : w2.cell? ⟨w.heap.size, 1, none⟩ = some (.int .i64 (b : Int)) := (by rw [cell_of_row w2 w.heap.size 1 _ _ _ B2.out]; rfl); clear x2 hp q0)
      | (go_at_call 36; refine (hd _).mono ?_; rintro e w3 ⟨rfl, x3⟩; have X3 := hide (bt X2.out x3 (Nat.le_refl _)); clear x3 hd))
    go_ret2
    refine ⟨?_, X3.out⟩
    exact congrArg (fun b => Ending.returned (.tuple #[.string b, .int .i64 0])) (ByteArray.ext (by simp))
  · have e1 : pprS a k = [] := if_neg h
    have e2 : pprE a k = 1 := if_neg h
    rw [decide_eq_false h] at hr
    rw [e1, e2]
    have HB := hide hB
    clear e1 e2 hB b0
    go_enter Tryd.func16, Tryd.ntmps16
    go_wp2_with (go_at_call 32; refine (hr _).mono ?_; rintro e w1 ⟨rfl, x1⟩; have X1 := hide x1; clear x1)
    go_ret2
    exact ⟨rfl, bt HB.out X1.out (Nat.le_refl _)⟩

set_option maxRecDepth 100000 in
set_option maxHeartbeats 1000000 in
theorem refRange_any (a k : Int) (w : World) : Calls Tryd.prog 18 #[.agg #[.int .i64 a, .int .i64 k]] w fun e w' => e = .returned (.tuple #[.agg #[.int .i64 (rngL a k), .int .i64 (rngH a k)], .int .i64 (pprE a k)]) ∧ Below w.heap.size w w' := by
  have hB : Below w.heap.size w ((w.alloc (.cells #[.int .i64 a, .int .i64 k] 28)).alloc (.cells #[.int .i64 0, .int .i64 0] 36)) := al (al (Below.refl _ _) _) _
  have hr := fun w => refRight_any a k w
  have q0 : ((w.alloc (.cells #[.int .i64 a, .int .i64 k] 28)).alloc (.cells #[.int .i64 0, .int .i64 0] 36)).cell? ⟨w.heap.size, 0, none⟩ = some (.int .i64 a) := by simp
  have q1 : ((w.alloc (.cells #[.int .i64 a, .int .i64 k] 28)).alloc (.cells #[.int .i64 0, .int .i64 0] 36)).cell? ⟨w.heap.size, 1, none⟩ = some (.int .i64 k) := by simp
  have hws : w.heap.size + 1 < ((w.alloc (.cells #[.int .i64 a, .int .i64 k] 28)).alloc (.cells #[.int .i64 0, .int .i64 0] 36)).heap.size := by simp
  have b0 := heap_alloc_new (w.alloc (.cells #[.int .i64 a, .int .i64 k] 28)) (.cells #[.int .i64 0, .int .i64 0] 36)
  rw [show (w.alloc (.cells #[.int .i64 a, .int .i64 k] 28)).heap.size = w.heap.size + 1 by simp] at b0
  by_cases h : Pfx a k
  · have e1 : rngL a k = a := if_pos h
    have e2 : rngH a k = a + 2 ^ (32 - k.toNat) - 1 := if_pos h
    have e3 : pprE a k = 0 := if_pos h
    rw [decide_eq_true h] at hr
    rw [e1, e2, e3]
    clear e1 e2 e3
    obtain ⟨n, b, rfl, rfl, hb, hn, hm⟩ := h.nat
    have hz := fun w2 => size_any b hb w2
    have hpw : 2 ^ (32 - b) ≤ 4294967296 := Nat.pow_le_pow_right (n := 2) (by decide) (show 32 - b ≤ 32 by omega)
    have hpo : 0 < 2 ^ (32 - b) := Nat.pow_pos (by decide)
    have ev : (n : Int) + 2 ^ (32 - (b : Int).toNat) - 1 = (n : Int) + ((2 ^ (32 - b) : Nat) : Int) - 1 := by simp
    rw [ev]
    generalize 2 ^ (32 - b) = S at *
    have s1 : (n : Int) + S ≤ 9000000000 := by omega
    have s2 : (0 : Int) ≤ n := by omega
    have s3 : (1 : Int) ≤ S := by omega
    clear h hm ev hpw hpo
    go_enter Tryd.func18, Tryd.ntmps18
    go_wp2_with (go_at_call 32; generalize (w.alloc (.cells #[.int .i64 (n : Int), .int .i64 (b : Int)] 28)).alloc (.cells #[.int .i64 0, .int .i64 0] 36) = W at *; refine (hr _).mono ?_; rintro e w1 ⟨rfl, x1⟩; have B1 := hide ((x1.block (w.heap.size + 1) hws).trans b0); have q2 := (x1.cell (p := ⟨w.heap.size, 0, none⟩) (Nat.lt_of_succ_lt hws)).trans q0; have q3 := (x1.cell (p := ⟨w.heap.size, 1, none⟩) (Nat.lt_of_succ_lt hws)).trans q1; have r0 : w1.cell? ⟨w.heap.size + 1, 0, none⟩ = some (.int .i64 0) := (by rw [cell_of_row w1 (w.heap.size + 1) 0 _ _ _ B1.out]; rfl); have r1 : w1.cell? ⟨w.heap.size + 1, 1, none⟩ = some (.int .i64 0) := (by rw [cell_of_row w1 (w.heap.size + 1) 1 _ _ _ B1.out]; rfl); have f0 := frozen_of_row w1 (w.heap.size + 1) 0 _ _ B1.out; have f1 := frozen_of_row w1 (w.heap.size + 1) 1 _ _ B1.out; have X1 := hide x1; clear x1 q0 q1 b0)
    have hw1 : w.heap.size + 1 < w1.heap.size := Nat.lt_of_lt_of_le hws X1.out.size
    have HB := hide hB
    clear hB hr
    have fs : IntKind.i64.wrap ((n : Int) + S) = (n : Int) + S := by simp [IntKind.wrap, IntKind.bits, IntKind.signed]; omega
    have ft : IntKind.i64.wrap ((n : Int) + S - 1) = (n : Int) + S - 1 := by simp [IntKind.wrap, IntKind.bits, IntKind.signed]; omega
    go_region_held3 (fun w' => w'.cell? ⟨w.heap.size, 0, none⟩ = some (.int .i64 (n : Int)) ∧ w'.cell? ⟨w.heap.size, 1, none⟩ = some (.int .i64 (b : Int))) (first | assumption | (simp [go_sem, *]; done))
      (first
        | (go_at_call 40; refine (hz _).mono ?_; rintro e w2 ⟨rfl, rfl⟩))
    clear q2 q3 r0 r1 f0 f1
    go_wp2
    have b2 := block_setCell (block_setCell B1.out 0 (.int .i64 (n : Int))) 1 (.int .i64 ((n : Int) + S - 1))
    have k2 : Below w.heap.size w ((w1.setCell ⟨w.heap.size + 1, 0, none⟩ (.int .i64 (n : Int))).setCell ⟨w.heap.size + 1, 1, none⟩ (.int .i64 ((n : Int) + S - 1))) := ((bt HB.out X1.out (Nat.le_refl _)).setCell (by simp) _).setCell (by simp) _
    generalize (w1.setCell ⟨w.heap.size + 1, 0, none⟩ (.int .i64 (n : Int))).setCell ⟨w.heap.size + 1, 1, none⟩ (.int .i64 ((n : Int) + S - 1)) = W2 at *
    have r3 : W2.cell? ⟨w.heap.size + 1, 0, none⟩ = some (.int .i64 (n : Int)) := by rw [cell_of_row W2 (w.heap.size + 1) 0 _ _ _ b2]; rfl
    have r4 : W2.cell? ⟨w.heap.size + 1, 1, none⟩ = some (.int .i64 ((n : Int) + S - 1)) := by rw [cell_of_row W2 (w.heap.size + 1) 1 _ _ _ b2]; rfl
    refine bodyPost_ret (by simp [results, Tryd.results18, go_sem, r3, r4]; try rfl) rfl ?_
    exact ⟨rfl, k2.drew⟩
  · have e1 : rngL a k = 0 := if_neg h
    have e2 : rngH a k = 0 := if_neg h
    have e3 : pprE a k = 1 := if_neg h
    rw [decide_eq_false h] at hr
    rw [e1, e2, e3]
    clear e1 e2 e3
    go_enter Tryd.func18, Tryd.ntmps18
    go_wp2_with (go_at_call 32; generalize (w.alloc (.cells #[.int .i64 a, .int .i64 k] 28)).alloc (.cells #[.int .i64 0, .int .i64 0] 36) = W at *; refine (hr _).mono ?_; rintro e w1 ⟨rfl, x1⟩; have B1 := hide ((x1.block (w.heap.size + 1) hws).trans b0); have r0 : w1.cell? ⟨w.heap.size + 1, 0, none⟩ = some (.int .i64 0) := (by rw [cell_of_row w1 (w.heap.size + 1) 0 _ _ _ B1.out]; rfl); have r1 : w1.cell? ⟨w.heap.size + 1, 1, none⟩ = some (.int .i64 0) := (by rw [cell_of_row w1 (w.heap.size + 1) 1 _ _ _ B1.out]; rfl); have f0 := frozen_of_row w1 (w.heap.size + 1) 0 _ _ B1.out; have f1 := frozen_of_row w1 (w.heap.size + 1) 1 _ _ B1.out; have X1 := hide x1; clear x1)
    have b2 := block_setCell (block_setCell B1.out 0 (.int .i64 0)) 1 (.int .i64 0)
    have k2 : Below w.heap.size w ((w1.setCell ⟨w.heap.size + 1, 0, none⟩ (.int .i64 0)).setCell ⟨w.heap.size + 1, 1, none⟩ (.int .i64 0)) := ((bt hB X1.out (Nat.le_refl _)).setCell (by simp) _).setCell (by simp) _
    generalize (w1.setCell ⟨w.heap.size + 1, 0, none⟩ (.int .i64 0)).setCell ⟨w.heap.size + 1, 1, none⟩ (.int .i64 0) = W2 at *
    have r3 : W2.cell? ⟨w.heap.size + 1, 0, none⟩ = some (.int .i64 0) := by rw [cell_of_row W2 (w.heap.size + 1) 0 _ _ _ b2]; rfl
    have r4 : W2.cell? ⟨w.heap.size + 1, 1, none⟩ = some (.int .i64 0) := by rw [cell_of_row W2 (w.heap.size + 1) 1 _ _ _ b2]; rfl
    refine bodyPost_ret (by simp [results, Tryd.results18, go_sem, r3, r4]; try rfl) rfl ?_
    exact ⟨rfl, k2⟩
end Go.Proofs.YtfjifedfenpbbaaDoor
