/-
  The document's Writer by its contracts: fits, By, NewWriter, Raw, Num, Text, Done. Conditions: the numbers are ints; all bytes together are at most 2^47.
-/
import Derived.Test.YtonoobjpafhogaaDoorWr
namespace Go.Proofs.YtonoobjpafhogaaDoor
open Go.RowKit Go.Lib

theorem refFits_size (s n : Int) (h : s < 1 ∨ 8 < s) (w : World) : Calls Tryd.prog 54 #[.int .i64 s, .int .i64 n] w fun e w' => e = .returned (.bool false) ∧ w' = w := by
  rcases h with h | h
  · go_enter Tryd.func54, Tryd.ntmps54
    go_wp2
    go_ret
    exact ⟨rfl, rfl⟩
  · have h' : ¬ s < 1 := by omega
    go_enter Tryd.func54, Tryd.ntmps54
    go_wp2
    go_ret
    exact ⟨rfl, rfl⟩
theorem refFits_neg (s n : Int) (h1 : 1 ≤ s) (h2 : s ≤ 8) (h : n < 0) (w : World) : Calls Tryd.prog 54 #[.int .i64 s, .int .i64 n] w fun e w' => e = .returned (.bool false) ∧ w' = w := by
  go_enter Tryd.func54, Tryd.ntmps54
  go_wp2
  go_ret
  exact ⟨rfl, rfl⟩
theorem refFits_1 (n : Int) (h : 0 ≤ n) (w : World) : Calls Tryd.prog 54 #[.int .i64 1, .int .i64 n] w fun e w' => e = .returned (.bool (decide (n < 256))) ∧ w' = w := by
  go_enter Tryd.func54, Tryd.ntmps54
  go_wp2
  go_ret
  exact ⟨rfl, rfl⟩
theorem refFits_2 (n : Int) (h : 0 ≤ n) (w : World) : Calls Tryd.prog 54 #[.int .i64 2, .int .i64 n] w fun e w' => e = .returned (.bool (decide (n < 65536))) ∧ w' = w := by
  go_enter Tryd.func54, Tryd.ntmps54
  go_wp2
  go_ret
  exact ⟨rfl, rfl⟩
theorem refFits_3 (n : Int) (h : 0 ≤ n) (w : World) : Calls Tryd.prog 54 #[.int .i64 3, .int .i64 n] w fun e w' => e = .returned (.bool (decide (n < 16777216))) ∧ w' = w := by
  go_enter Tryd.func54, Tryd.ntmps54
  go_wp2
  go_ret
  exact ⟨rfl, rfl⟩
theorem refFits_4 (n : Int) (h : 0 ≤ n) (w : World) : Calls Tryd.prog 54 #[.int .i64 4, .int .i64 n] w fun e w' => e = .returned (.bool (decide (n < 4294967296))) ∧ w' = w := by
  go_enter Tryd.func54, Tryd.ntmps54
  go_wp2
  go_ret
  exact ⟨rfl, rfl⟩
theorem refFits_5 (n : Int) (h : 0 ≤ n) (w : World) : Calls Tryd.prog 54 #[.int .i64 5, .int .i64 n] w fun e w' => e = .returned (.bool (decide (n < 1099511627776))) ∧ w' = w := by
  go_enter Tryd.func54, Tryd.ntmps54
  go_wp2
  go_ret
  exact ⟨rfl, rfl⟩
theorem refFits_6 (n : Int) (h : 0 ≤ n) (w : World) : Calls Tryd.prog 54 #[.int .i64 6, .int .i64 n] w fun e w' => e = .returned (.bool (decide (n < 281474976710656))) ∧ w' = w := by
  go_enter Tryd.func54, Tryd.ntmps54
  go_wp2
  go_ret
  exact ⟨rfl, rfl⟩
theorem refFits_7 (n : Int) (h : 0 ≤ n) (w : World) : Calls Tryd.prog 54 #[.int .i64 7, .int .i64 n] w fun e w' => e = .returned (.bool (decide (n < 72057594037927936))) ∧ w' = w := by
  go_enter Tryd.func54, Tryd.ntmps54
  go_wp2
  go_ret
  exact ⟨rfl, rfl⟩
theorem refFits_8 (n : Int) (h : 0 ≤ n) (w : World) : Calls Tryd.prog 54 #[.int .i64 8, .int .i64 n] w fun e w' => e = .returned (.bool true) ∧ w' = w := by
  go_enter Tryd.func54, Tryd.ntmps54
  go_wp2
  go_ret
  exact ⟨rfl, rfl⟩
theorem ret_s0 {a b : ByteArray} (h : a = b) : Ending.returned (.string a) = .returned (.string b) := by rw [h]
theorem rconv_1 (W : World) (a0 : Int) : (convert 65 9 (.slice (some ⟨W.heap.size, 0, none⟩) 1 1)).run Tryd.prog (W.alloc (.cells #[.int .u8 a0] 5)) = .ok (.string (strOfNums [a0])) (W.alloc (.cells #[.int .u8 a0] 5)) :=
  run_convert_bytes_arg _ 65 5 Tryd.underlying65 Tryd.underlying5 _ 0 1 1 [a0] rfl (fun i hi => by match i, hi with | 0, _ => simp) 9 Tryd.underlying9
set_option maxRecDepth 100000 in
set_option maxHeartbeats 1000000 in
theorem by_1 (n : Nat) (h : (n : Int) < 256) (w : World) : Calls Tryd.prog 56 #[.int .i64 1, .int .i64 (n : Int)] w fun e w' => e = .returned (.string (str (be 1 n))) ∧ Below w.heap.size w w' := by
  have hmk : ∀ w : World, (Instr.makeSlice 65 (.int .i64 1) (.int .i64 1)).run Tryd.prog w = .ok (.slice (some ⟨w.heap.size, 0, none⟩) 1 1) (w.alloc (.cells #[.int .u8 0] 5)) := fun _ => by kernel_rfl
  have hcv := rconv_1
  go_enter Tryd.func56, Tryd.ntmps56
  go_wp2
  refine wp_loop_rounds 2 ?_
  rw [rounds_succ]
  go_wp2
  rw [rounds_succ]
  go_wp2
  go_ret
  exact ⟨ret_s0 (str_one [] _ 0 (n) (by omega) (by omega) (rfl)), ((Below.refl _ _).alloc (Nat.le_refl _) _)⟩
theorem rconv_2 (W : World) (a0 a1 : Int) : (convert 65 9 (.slice (some ⟨W.heap.size, 0, none⟩) 2 2)).run Tryd.prog (W.alloc (.cells #[.int .u8 a0, .int .u8 a1] 5)) = .ok (.string (strOfNums [a0, a1])) (W.alloc (.cells #[.int .u8 a0, .int .u8 a1] 5)) :=
  run_convert_bytes_arg _ 65 5 Tryd.underlying65 Tryd.underlying5 _ 0 2 2 [a0, a1] rfl (fun i hi => by match i, hi with | 0, _ => simp | 1, _ => simp) 9 Tryd.underlying9
set_option maxRecDepth 100000 in
set_option maxHeartbeats 1000000 in
theorem by_2 (n : Nat) (h : (n : Int) < 65536) (w : World) : Calls Tryd.prog 56 #[.int .i64 2, .int .i64 (n : Int)] w fun e w' => e = .returned (.string (str (be 2 n))) ∧ Below w.heap.size w w' := by
  have hmk : ∀ w : World, (Instr.makeSlice 65 (.int .i64 2) (.int .i64 2)).run Tryd.prog w = .ok (.slice (some ⟨w.heap.size, 0, none⟩) 2 2) (w.alloc (.cells #[.int .u8 0, .int .u8 0] 5)) := fun _ => by kernel_rfl
  have hcv := rconv_2
  go_enter Tryd.func56, Tryd.ntmps56
  go_wp2
  refine wp_loop_rounds 3 ?_
  rw [rounds_succ]
  go_wp2
  rw [rounds_succ]
  go_wp2
  rw [rounds_succ]
  go_wp2
  go_ret
  exact ⟨ret_s0 (str_one [_] _ 1 (n) (by omega) (by omega) (str_one [] _ 0 (n / 256) (by omega) (by omega) (rfl))), ((Below.refl _ _).alloc (Nat.le_refl _) _)⟩
theorem rconv_3 (W : World) (a0 a1 a2 : Int) : (convert 65 9 (.slice (some ⟨W.heap.size, 0, none⟩) 3 3)).run Tryd.prog (W.alloc (.cells #[.int .u8 a0, .int .u8 a1, .int .u8 a2] 5)) = .ok (.string (strOfNums [a0, a1, a2])) (W.alloc (.cells #[.int .u8 a0, .int .u8 a1, .int .u8 a2] 5)) :=
  run_convert_bytes_arg _ 65 5 Tryd.underlying65 Tryd.underlying5 _ 0 3 3 [a0, a1, a2] rfl (fun i hi => by match i, hi with | 0, _ => simp | 1, _ => simp | 2, _ => simp) 9 Tryd.underlying9
set_option maxRecDepth 100000 in
set_option maxHeartbeats 1000000 in
theorem by_3 (n : Nat) (h : (n : Int) < 16777216) (w : World) : Calls Tryd.prog 56 #[.int .i64 3, .int .i64 (n : Int)] w fun e w' => e = .returned (.string (str (be 3 n))) ∧ Below w.heap.size w w' := by
  have hmk : ∀ w : World, (Instr.makeSlice 65 (.int .i64 3) (.int .i64 3)).run Tryd.prog w = .ok (.slice (some ⟨w.heap.size, 0, none⟩) 3 3) (w.alloc (.cells #[.int .u8 0, .int .u8 0, .int .u8 0] 5)) := fun _ => by kernel_rfl
  have hcv := rconv_3
  go_enter Tryd.func56, Tryd.ntmps56
  go_wp2
  refine wp_loop_rounds 4 ?_
  rw [rounds_succ]
  go_wp2
  rw [rounds_succ]
  go_wp2
  rw [rounds_succ]
  go_wp2
  rw [rounds_succ]
  go_wp2
  go_ret
  exact ⟨ret_s0 (str_one [_, _] _ 2 (n) (by omega) (by omega) (str_one [_] _ 1 (n / 256) (by omega) (by omega) (str_one [] _ 0 (n / 256 / 256) (by omega) (by omega) (rfl)))), ((Below.refl _ _).alloc (Nat.le_refl _) _)⟩
theorem rconv_4 (W : World) (a0 a1 a2 a3 : Int) : (convert 65 9 (.slice (some ⟨W.heap.size, 0, none⟩) 4 4)).run Tryd.prog (W.alloc (.cells #[.int .u8 a0, .int .u8 a1, .int .u8 a2, .int .u8 a3] 5)) = .ok (.string (strOfNums [a0, a1, a2, a3])) (W.alloc (.cells #[.int .u8 a0, .int .u8 a1, .int .u8 a2, .int .u8 a3] 5)) :=
  run_convert_bytes_arg _ 65 5 Tryd.underlying65 Tryd.underlying5 _ 0 4 4 [a0, a1, a2, a3] rfl (fun i hi => by match i, hi with | 0, _ => simp | 1, _ => simp | 2, _ => simp | 3, _ => simp) 9 Tryd.underlying9
set_option maxRecDepth 100000 in
set_option maxHeartbeats 1000000 in
theorem by_4 (n : Nat) (h : (n : Int) < 4294967296) (w : World) : Calls Tryd.prog 56 #[.int .i64 4, .int .i64 (n : Int)] w fun e w' => e = .returned (.string (str (be 4 n))) ∧ Below w.heap.size w w' := by
  have hmk : ∀ w : World, (Instr.makeSlice 65 (.int .i64 4) (.int .i64 4)).run Tryd.prog w = .ok (.slice (some ⟨w.heap.size, 0, none⟩) 4 4) (w.alloc (.cells #[.int .u8 0, .int .u8 0, .int .u8 0, .int .u8 0] 5)) := fun _ => by kernel_rfl
  have hcv := rconv_4
  go_enter Tryd.func56, Tryd.ntmps56
  go_wp2
  refine wp_loop_rounds 5 ?_
  rw [rounds_succ]
  go_wp2
  rw [rounds_succ]
  go_wp2
  rw [rounds_succ]
  go_wp2
  rw [rounds_succ]
  go_wp2
  rw [rounds_succ]
  go_wp2
  go_ret
  exact ⟨ret_s0 (str_one [_, _, _] _ 3 (n) (by omega) (by omega) (str_one [_, _] _ 2 (n / 256) (by omega) (by omega) (str_one [_] _ 1 (n / 256 / 256) (by omega) (by omega) (str_one [] _ 0 (n / 256 / 256 / 256) (by omega) (by omega) (rfl))))), ((Below.refl _ _).alloc (Nat.le_refl _) _)⟩
theorem rconv_5 (W : World) (a0 a1 a2 a3 a4 : Int) : (convert 65 9 (.slice (some ⟨W.heap.size, 0, none⟩) 5 5)).run Tryd.prog (W.alloc (.cells #[.int .u8 a0, .int .u8 a1, .int .u8 a2, .int .u8 a3, .int .u8 a4] 5)) = .ok (.string (strOfNums [a0, a1, a2, a3, a4])) (W.alloc (.cells #[.int .u8 a0, .int .u8 a1, .int .u8 a2, .int .u8 a3, .int .u8 a4] 5)) :=
  run_convert_bytes_arg _ 65 5 Tryd.underlying65 Tryd.underlying5 _ 0 5 5 [a0, a1, a2, a3, a4] rfl (fun i hi => by match i, hi with | 0, _ => simp | 1, _ => simp | 2, _ => simp | 3, _ => simp | 4, _ => simp) 9 Tryd.underlying9
set_option maxRecDepth 100000 in
set_option maxHeartbeats 1000000 in
theorem by_5 (n : Nat) (h : (n : Int) < 1099511627776) (w : World) : Calls Tryd.prog 56 #[.int .i64 5, .int .i64 (n : Int)] w fun e w' => e = .returned (.string (str (be 5 n))) ∧ Below w.heap.size w w' := by
  have hmk : ∀ w : World, (Instr.makeSlice 65 (.int .i64 5) (.int .i64 5)).run Tryd.prog w = .ok (.slice (some ⟨w.heap.size, 0, none⟩) 5 5) (w.alloc (.cells #[.int .u8 0, .int .u8 0, .int .u8 0, .int .u8 0, .int .u8 0] 5)) := fun _ => by kernel_rfl
  have hcv := rconv_5
  go_enter Tryd.func56, Tryd.ntmps56
  go_wp2
  refine wp_loop_rounds 6 ?_
  rw [rounds_succ]
  go_wp2
  rw [rounds_succ]
  go_wp2
  rw [rounds_succ]
  go_wp2
  rw [rounds_succ]
  go_wp2
  rw [rounds_succ]
  go_wp2
  rw [rounds_succ]
  go_wp2
  go_ret
  exact ⟨ret_s0 (str_one [_, _, _, _] _ 4 (n) (by omega) (by omega) (str_one [_, _, _] _ 3 (n / 256) (by omega) (by omega) (str_one [_, _] _ 2 (n / 256 / 256) (by omega) (by omega) (str_one [_] _ 1 (n / 256 / 256 / 256) (by omega) (by omega) (str_one [] _ 0 (n / 256 / 256 / 256 / 256) (by omega) (by omega) (rfl)))))), ((Below.refl _ _).alloc (Nat.le_refl _) _)⟩
theorem rconv_6 (W : World) (a0 a1 a2 a3 a4 a5 : Int) : (convert 65 9 (.slice (some ⟨W.heap.size, 0, none⟩) 6 6)).run Tryd.prog (W.alloc (.cells #[.int .u8 a0, .int .u8 a1, .int .u8 a2, .int .u8 a3, .int .u8 a4, .int .u8 a5] 5)) = .ok (.string (strOfNums [a0, a1, a2, a3, a4, a5])) (W.alloc (.cells #[.int .u8 a0, .int .u8 a1, .int .u8 a2, .int .u8 a3, .int .u8 a4, .int .u8 a5] 5)) :=
  run_convert_bytes_arg _ 65 5 Tryd.underlying65 Tryd.underlying5 _ 0 6 6 [a0, a1, a2, a3, a4, a5] rfl (fun i hi => by match i, hi with | 0, _ => simp | 1, _ => simp | 2, _ => simp | 3, _ => simp | 4, _ => simp | 5, _ => simp) 9 Tryd.underlying9
set_option maxRecDepth 100000 in
set_option maxHeartbeats 1000000 in
theorem by_6 (n : Nat) (h : (n : Int) < 281474976710656) (w : World) : Calls Tryd.prog 56 #[.int .i64 6, .int .i64 (n : Int)] w fun e w' => e = .returned (.string (str (be 6 n))) ∧ Below w.heap.size w w' := by
  have hmk : ∀ w : World, (Instr.makeSlice 65 (.int .i64 6) (.int .i64 6)).run Tryd.prog w = .ok (.slice (some ⟨w.heap.size, 0, none⟩) 6 6) (w.alloc (.cells #[.int .u8 0, .int .u8 0, .int .u8 0, .int .u8 0, .int .u8 0, .int .u8 0] 5)) := fun _ => by kernel_rfl
  have hcv := rconv_6
  go_enter Tryd.func56, Tryd.ntmps56
  go_wp2
  refine wp_loop_rounds 7 ?_
  rw [rounds_succ]
  go_wp2
  rw [rounds_succ]
  go_wp2
  rw [rounds_succ]
  go_wp2
  rw [rounds_succ]
  go_wp2
  rw [rounds_succ]
  go_wp2
  rw [rounds_succ]
  go_wp2
  rw [rounds_succ]
  go_wp2
  go_ret
  exact ⟨ret_s0 (str_one [_, _, _, _, _] _ 5 (n) (by omega) (by omega) (str_one [_, _, _, _] _ 4 (n / 256) (by omega) (by omega) (str_one [_, _, _] _ 3 (n / 256 / 256) (by omega) (by omega) (str_one [_, _] _ 2 (n / 256 / 256 / 256) (by omega) (by omega) (str_one [_] _ 1 (n / 256 / 256 / 256 / 256) (by omega) (by omega) (str_one [] _ 0 (n / 256 / 256 / 256 / 256 / 256) (by omega) (by omega) (rfl))))))), ((Below.refl _ _).alloc (Nat.le_refl _) _)⟩
theorem rconv_7 (W : World) (a0 a1 a2 a3 a4 a5 a6 : Int) : (convert 65 9 (.slice (some ⟨W.heap.size, 0, none⟩) 7 7)).run Tryd.prog (W.alloc (.cells #[.int .u8 a0, .int .u8 a1, .int .u8 a2, .int .u8 a3, .int .u8 a4, .int .u8 a5, .int .u8 a6] 5)) = .ok (.string (strOfNums [a0, a1, a2, a3, a4, a5, a6])) (W.alloc (.cells #[.int .u8 a0, .int .u8 a1, .int .u8 a2, .int .u8 a3, .int .u8 a4, .int .u8 a5, .int .u8 a6] 5)) :=
  run_convert_bytes_arg _ 65 5 Tryd.underlying65 Tryd.underlying5 _ 0 7 7 [a0, a1, a2, a3, a4, a5, a6] rfl (fun i hi => by match i, hi with | 0, _ => simp | 1, _ => simp | 2, _ => simp | 3, _ => simp | 4, _ => simp | 5, _ => simp | 6, _ => simp) 9 Tryd.underlying9
set_option maxRecDepth 100000 in
set_option maxHeartbeats 1000000 in
theorem by_7 (n : Nat) (h : (n : Int) < 72057594037927936) (w : World) : Calls Tryd.prog 56 #[.int .i64 7, .int .i64 (n : Int)] w fun e w' => e = .returned (.string (str (be 7 n))) ∧ Below w.heap.size w w' := by
  have hmk : ∀ w : World, (Instr.makeSlice 65 (.int .i64 7) (.int .i64 7)).run Tryd.prog w = .ok (.slice (some ⟨w.heap.size, 0, none⟩) 7 7) (w.alloc (.cells #[.int .u8 0, .int .u8 0, .int .u8 0, .int .u8 0, .int .u8 0, .int .u8 0, .int .u8 0] 5)) := fun _ => by kernel_rfl
  have hcv := rconv_7
  go_enter Tryd.func56, Tryd.ntmps56
  go_wp2
  refine wp_loop_rounds 8 ?_
  rw [rounds_succ]
  go_wp2
  rw [rounds_succ]
  go_wp2
  rw [rounds_succ]
  go_wp2
  rw [rounds_succ]
  go_wp2
  rw [rounds_succ]
  go_wp2
  rw [rounds_succ]
  go_wp2
  rw [rounds_succ]
  go_wp2
  rw [rounds_succ]
  go_wp2
  go_ret
  exact ⟨ret_s0 (str_one [_, _, _, _, _, _] _ 6 (n) (by omega) (by omega) (str_one [_, _, _, _, _] _ 5 (n / 256) (by omega) (by omega) (str_one [_, _, _, _] _ 4 (n / 256 / 256) (by omega) (by omega) (str_one [_, _, _] _ 3 (n / 256 / 256 / 256) (by omega) (by omega) (str_one [_, _] _ 2 (n / 256 / 256 / 256 / 256) (by omega) (by omega) (str_one [_] _ 1 (n / 256 / 256 / 256 / 256 / 256) (by omega) (by omega) (str_one [] _ 0 (n / 256 / 256 / 256 / 256 / 256 / 256) (by omega) (by omega) (rfl)))))))), ((Below.refl _ _).alloc (Nat.le_refl _) _)⟩
theorem rconv_8 (W : World) (a0 a1 a2 a3 a4 a5 a6 a7 : Int) : (convert 65 9 (.slice (some ⟨W.heap.size, 0, none⟩) 8 8)).run Tryd.prog (W.alloc (.cells #[.int .u8 a0, .int .u8 a1, .int .u8 a2, .int .u8 a3, .int .u8 a4, .int .u8 a5, .int .u8 a6, .int .u8 a7] 5)) = .ok (.string (strOfNums [a0, a1, a2, a3, a4, a5, a6, a7])) (W.alloc (.cells #[.int .u8 a0, .int .u8 a1, .int .u8 a2, .int .u8 a3, .int .u8 a4, .int .u8 a5, .int .u8 a6, .int .u8 a7] 5)) :=
  run_convert_bytes_arg _ 65 5 Tryd.underlying65 Tryd.underlying5 _ 0 8 8 [a0, a1, a2, a3, a4, a5, a6, a7] rfl (fun i hi => by match i, hi with | 0, _ => simp | 1, _ => simp | 2, _ => simp | 3, _ => simp | 4, _ => simp | 5, _ => simp | 6, _ => simp | 7, _ => simp) 9 Tryd.underlying9
set_option maxRecDepth 100000 in
set_option maxHeartbeats 1000000 in
theorem by_8 (n : Nat) (h : (n : Int) < 9223372036854775808) (w : World) : Calls Tryd.prog 56 #[.int .i64 8, .int .i64 (n : Int)] w fun e w' => e = .returned (.string (str (be 8 n))) ∧ Below w.heap.size w w' := by
  have hmk : ∀ w : World, (Instr.makeSlice 65 (.int .i64 8) (.int .i64 8)).run Tryd.prog w = .ok (.slice (some ⟨w.heap.size, 0, none⟩) 8 8) (w.alloc (.cells #[.int .u8 0, .int .u8 0, .int .u8 0, .int .u8 0, .int .u8 0, .int .u8 0, .int .u8 0, .int .u8 0] 5)) := fun _ => by kernel_rfl
  have hcv := rconv_8
  go_enter Tryd.func56, Tryd.ntmps56
  go_wp2
  refine wp_loop_rounds 9 ?_
  rw [rounds_succ]
  go_wp2
  rw [rounds_succ]
  go_wp2
  rw [rounds_succ]
  go_wp2
  rw [rounds_succ]
  go_wp2
  rw [rounds_succ]
  go_wp2
  rw [rounds_succ]
  go_wp2
  rw [rounds_succ]
  go_wp2
  rw [rounds_succ]
  go_wp2
  rw [rounds_succ]
  go_wp2
  go_ret
  exact ⟨ret_s0 (str_one [_, _, _, _, _, _, _] _ 7 (n) (by omega) (by omega) (str_one [_, _, _, _, _, _] _ 6 (n / 256) (by omega) (by omega) (str_one [_, _, _, _, _] _ 5 (n / 256 / 256) (by omega) (by omega) (str_one [_, _, _, _] _ 4 (n / 256 / 256 / 256) (by omega) (by omega) (str_one [_, _, _] _ 3 (n / 256 / 256 / 256 / 256) (by omega) (by omega) (str_one [_, _] _ 2 (n / 256 / 256 / 256 / 256 / 256) (by omega) (by omega) (str_one [_] _ 1 (n / 256 / 256 / 256 / 256 / 256 / 256) (by omega) (by omega) (str_one [] _ 0 (n / 256 / 256 / 256 / 256 / 256 / 256 / 256) (by omega) (by omega) (rfl))))))))), ((Below.refl _ _).alloc (Nat.le_refl _) _)⟩

/-- By, of what fits. -/
theorem by_any (n s : Int) (h1 : 1 ≤ s) (h2 : s ≤ 8) (hf : fitsB s.toNat n = true) (w : World) :
    Calls Tryd.prog 56 #[.int .i64 s, .int .i64 n] w fun e w' => e = .returned (.string (str (be s.toNat n.toNat))) ∧ Below w.heap.size w w' := by
  obtain ⟨g1, g2⟩ := (fitsB_iff _ _).1 hf
  obtain ⟨m, rfl⟩ := Int.eq_ofNat_of_zero_le g1
  obtain ⟨t1, t2, t3, t4, t5, t6, t7, t8⟩ := top_val
  have hc : s = 1 ∨ s = 2 ∨ s = 3 ∨ s = 4 ∨ s = 5 ∨ s = 6 ∨ s = 7 ∨ s = 8 := by omega
  rcases hc with rfl | rfl | rfl | rfl | rfl | rfl | rfl | rfl
  · rw [show ((1 : Int).toNat) = 1 from rfl, t1] at g2; exact by_1 m (by omega) w
  · rw [show ((2 : Int).toNat) = 2 from rfl, t2] at g2; exact by_2 m (by omega) w
  · rw [show ((3 : Int).toNat) = 3 from rfl, t3] at g2; exact by_3 m (by omega) w
  · rw [show ((4 : Int).toNat) = 4 from rfl, t4] at g2; exact by_4 m (by omega) w
  · rw [show ((5 : Int).toNat) = 5 from rfl, t5] at g2; exact by_5 m (by omega) w
  · rw [show ((6 : Int).toNat) = 6 from rfl, t6] at g2; exact by_6 m (by omega) w
  · rw [show ((7 : Int).toNat) = 7 from rfl, t7] at g2; exact by_7 m (by omega) w
  · rw [show ((8 : Int).toNat) = 8 from rfl, t8] at g2; exact by_8 m (by omega) w

/-- Does it fit, and is the size right? -/
def okB (s n : Int) : Bool := decide (1 ≤ s ∧ s ≤ 8) && fitsB s.toNat n
theorem okB_true {s n : Int} : okB s n = true ↔ (1 ≤ s ∧ s ≤ 8 ∧ fitsB s.toNat n = true) := by
  simp [okB, and_assoc]
theorem refFits_any (s n : Int) (h63 : n ≤ 9223372036854775807) (w : World) : Calls Tryd.prog 54 #[.int .i64 s, .int .i64 n] w fun e w' => e = .returned (.bool (okB s n)) ∧ w' = w := by
  by_cases hs : 1 ≤ s ∧ s ≤ 8
  · obtain ⟨h1, h2⟩ := hs
    by_cases hn : n < 0
    · have e : okB s n = false := by
        rw [← Bool.not_eq_true, okB_true]
        rintro ⟨_, _, hf⟩
        have := ((fitsB_iff _ _).1 hf).1
        omega
      rw [e]
      exact refFits_neg s n h1 h2 hn w
    · obtain ⟨t1, t2, t3, t4, t5, t6, t7, t8⟩ := top_val
      have hc : s = 1 ∨ s = 2 ∨ s = 3 ∨ s = 4 ∨ s = 5 ∨ s = 6 ∨ s = 7 ∨ s = 8 := by omega
      rcases hc with rfl | rfl | rfl | rfl | rfl | rfl | rfl | rfl
      · have e : okB 1 n = decide (n < 256) := by
          simp only [okB, fitsB, show ((1 : Int).toNat) = 1 from rfl, t1]
          by_cases hl : n < 256 <;> simp [hl] <;> omega
        rw [e]
        exact refFits_1 n (by omega) w
      · have e : okB 2 n = decide (n < 65536) := by
          simp only [okB, fitsB, show ((2 : Int).toNat) = 2 from rfl, t2]
          by_cases hl : n < 65536 <;> simp [hl] <;> omega
        rw [e]
        exact refFits_2 n (by omega) w
      · have e : okB 3 n = decide (n < 16777216) := by
          simp only [okB, fitsB, show ((3 : Int).toNat) = 3 from rfl, t3]
          by_cases hl : n < 16777216 <;> simp [hl] <;> omega
        rw [e]
        exact refFits_3 n (by omega) w
      · have e : okB 4 n = decide (n < 4294967296) := by
          simp only [okB, fitsB, show ((4 : Int).toNat) = 4 from rfl, t4]
          by_cases hl : n < 4294967296 <;> simp [hl] <;> omega
        rw [e]
        exact refFits_4 n (by omega) w
      · have e : okB 5 n = decide (n < 1099511627776) := by
          simp only [okB, fitsB, show ((5 : Int).toNat) = 5 from rfl, t5]
          by_cases hl : n < 1099511627776 <;> simp [hl] <;> omega
        rw [e]
        exact refFits_5 n (by omega) w
      · have e : okB 6 n = decide (n < 281474976710656) := by
          simp only [okB, fitsB, show ((6 : Int).toNat) = 6 from rfl, t6]
          by_cases hl : n < 281474976710656 <;> simp [hl] <;> omega
        rw [e]
        exact refFits_6 n (by omega) w
      · have e : okB 7 n = decide (n < 72057594037927936) := by
          simp only [okB, fitsB, show ((7 : Int).toNat) = 7 from rfl, t7]
          by_cases hl : n < 72057594037927936 <;> simp [hl] <;> omega
        rw [e]
        exact refFits_7 n (by omega) w
      · have e : okB 8 n = true := by
          rw [okB_true]
          exact ⟨by decide, by decide, (fitsB_iff _ _).2 ⟨by omega, by rw [show ((8 : Int).toNat) = 8 from rfl, t8]; omega⟩⟩
        rw [e]
        exact refFits_8 n (by omega) w
  · have e : okB s n = false := by
      rw [← Bool.not_eq_true, okB_true]
      rintro ⟨a, b, _⟩
      exact hs ⟨a, b⟩
    rw [e]
    exact refFits_size s n (by omega) w
end Go.Proofs.YtonoobjpafhogaaDoor
