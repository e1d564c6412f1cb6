/-
  Numbers as bytes: fits and numberBytes by their contracts: what fits is a number's bytes, the highest first; what does not is the error of the range. Conditions: the numbers are ints.
-/
import Derived.Test.YtonoobjpafhogaaDoorProg
import Derived.WalkKit
import Derived.WalkLawsBesides
import Derived.Laws.BytesArg
import Derived.Below
namespace Go.Proofs.YtonoobjpafhogaaDoor
open Go.RowKit

/-- The first number that does not fit into so many bytes. -/
def top (s : Nat) : Nat := if s = 8 then 9223372036854775808 else 256 ^ s
/-- Does a number fit? -/
def fitsB (s : Nat) (n : Int) : Bool := decide (0 ≤ n ∧ n < (top s : Nat))
/-- A number's bytes, the highest first. -/
def be : Nat → Nat → List UInt8
  | 0, _ => []
  | k + 1, n => be k (n / 256) ++ [UInt8.ofNat n]
theorem be_length (k n : Nat) : (be k n).length = k := by
  induction k generalizing n with
  | zero => rfl
  | succ k ih => simp [be, ih]
def str (l : List UInt8) : ByteArray := ⟨l.toArray⟩
theorem str_size (l : List UInt8) : (str l).size = l.length := by simp [str, ByteArray.size]
/-- An error of the codec: none, or a fault of that code. -/
def errV (c : Int) : Value := .iface 98 (.agg #[.int .i64 c])

theorem sizeRight_any (n : Int) (w : World) : Calls Tryd.prog 60 #[.int .i64 n] w fun e w' => e = .returned (.bool (decide (1 ≤ n ∧ n ≤ 8))) ∧ w' = w := by
  by_cases h1 : 1 ≤ n <;> by_cases h2 : n ≤ 8
  all_goals
    go_enter Tryd.func60, Tryd.ntmps60
    go_wp2
    go_ret
    exact ⟨by simp [h1, h2], rfl⟩
theorem sizeRight_yes (n : Int) (h1 : 1 ≤ n) (h2 : n ≤ 8) (w : World) : Calls Tryd.prog 60 #[.int .i64 n] w fun e w' => e = .returned (.bool true) ∧ w' = w := by
  refine (sizeRight_any n w).mono ?_
  rintro e w' ⟨rfl, rfl⟩
  exact ⟨by simp [h1, h2], rfl⟩
theorem sizeRight_no (n : Int) (h : n < 1 ∨ 8 < n) (w : World) : Calls Tryd.prog 60 #[.int .i64 n] w fun e w' => e = .returned (.bool false) ∧ w' = w := by
  refine (sizeRight_any n w).mono ?_
  rintro e w' ⟨rfl, rfl⟩
  exact ⟨by rw [decide_eq_false (by omega)], rfl⟩

theorem fits_neg (n s : Int) (h : n < 0) (w : World) : Calls Tryd.prog 61 #[.int .i64 n, .int .i64 s] w fun e w' => e = .returned (.bool false) ∧ w' = w := by
  go_enter Tryd.func61, Tryd.ntmps61
  go_wp2
  go_ret
  exact ⟨rfl, rfl⟩
theorem div_beq (n d : Int) (h : 0 ≤ n) (hd : 0 < d) : (n / d == 0) = decide (n < d) := by
  by_cases hl : n < d
  · rw [decide_eq_true hl, beq_iff_eq]; exact Int.ediv_eq_zero_of_lt h hl
  · rw [decide_eq_false hl, beq_eq_false_iff_ne]
    intro h0
    have h1 := Int.emod_add_mul_ediv n d
    have h2 := Int.emod_lt_of_pos n hd
    rw [h0] at h1
    omega
theorem ret_str {a b : ByteArray} {v : Value} (h : a = b) : Ending.returned (.tuple #[.string a, v]) = .returned (.tuple #[.string b, v]) := by rw [h]
theorem u8_of (a : Int) (m : Nat) (h0 : 0 ≤ a) (h : a % 256 = (m : Int) % 256) : UInt8.ofNat a.toNat = UInt8.ofNat m := by
  apply UInt8.toNat_inj.1
  simp only [UInt8.toNat_ofNat']
  omega
theorem str_one (l : List Int) (a : Int) (k m : Nat) (h0 : 0 ≤ a) (h : a % 256 = (m : Int) % 256) (hl : strOfNums l = str (be k (m / 256))) : strOfNums (l ++ [a]) = str (be (k + 1) m) := by
  have e : (l.map fun n => UInt8.ofNat n.toNat) = be k (m / 256) := by
    have := congrArg (fun s : ByteArray => s.data.toList) hl
    simpa [strOfNums, str] using this
  simp only [strOfNums, str, be, List.map_append, List.map_cons, List.map_nil, e, u8_of a m h0 h]
theorem ret_bool {a b : Bool} (h : a = b) : Ending.returned (.bool a) = .returned (.bool b) := by rw [h]
theorem fits_1 (n : Int) (h : 0 ≤ n) (h63 : n ≤ 9223372036854775807) (w : World) : Calls Tryd.prog 61 #[.int .i64 n, .int .i64 1] w fun e w' => e = .returned (.bool (decide (n < 256))) ∧ w' = w := by
  have hd := div_beq n 256 h (by decide)
  go_enter Tryd.func61, Tryd.ntmps61
  go_wp2
  go_ret
  exact ⟨rfl, rfl⟩
theorem fits_2 (n : Int) (h : 0 ≤ n) (h63 : n ≤ 9223372036854775807) (w : World) : Calls Tryd.prog 61 #[.int .i64 n, .int .i64 2] w fun e w' => e = .returned (.bool (decide (n < 65536))) ∧ w' = w := by
  have hd := div_beq n 65536 h (by decide)
  go_enter Tryd.func61, Tryd.ntmps61
  go_wp2
  go_ret
  exact ⟨rfl, rfl⟩
theorem fits_3 (n : Int) (h : 0 ≤ n) (h63 : n ≤ 9223372036854775807) (w : World) : Calls Tryd.prog 61 #[.int .i64 n, .int .i64 3] w fun e w' => e = .returned (.bool (decide (n < 16777216))) ∧ w' = w := by
  have hd := div_beq n 16777216 h (by decide)
  go_enter Tryd.func61, Tryd.ntmps61
  go_wp2
  go_ret
  exact ⟨rfl, rfl⟩
theorem fits_4 (n : Int) (h : 0 ≤ n) (h63 : n ≤ 9223372036854775807) (w : World) : Calls Tryd.prog 61 #[.int .i64 n, .int .i64 4] w fun e w' => e = .returned (.bool (decide (n < 4294967296))) ∧ w' = w := by
  have hd := div_beq n 4294967296 h (by decide)
  go_enter Tryd.func61, Tryd.ntmps61
  go_wp2
  go_ret
  exact ⟨rfl, rfl⟩
theorem fits_5 (n : Int) (h : 0 ≤ n) (h63 : n ≤ 9223372036854775807) (w : World) : Calls Tryd.prog 61 #[.int .i64 n, .int .i64 5] w fun e w' => e = .returned (.bool (decide (n < 1099511627776))) ∧ w' = w := by
  have hd := div_beq n 1099511627776 h (by decide)
  go_enter Tryd.func61, Tryd.ntmps61
  go_wp2
  go_ret
  exact ⟨rfl, rfl⟩
theorem fits_6 (n : Int) (h : 0 ≤ n) (h63 : n ≤ 9223372036854775807) (w : World) : Calls Tryd.prog 61 #[.int .i64 n, .int .i64 6] w fun e w' => e = .returned (.bool (decide (n < 281474976710656))) ∧ w' = w := by
  have hd := div_beq n 281474976710656 h (by decide)
  go_enter Tryd.func61, Tryd.ntmps61
  go_wp2
  go_ret
  exact ⟨rfl, rfl⟩
theorem fits_7 (n : Int) (h : 0 ≤ n) (h63 : n ≤ 9223372036854775807) (w : World) : Calls Tryd.prog 61 #[.int .i64 n, .int .i64 7] w fun e w' => e = .returned (.bool (decide (n < 72057594037927936))) ∧ w' = w := by
  have hd := div_beq n 72057594037927936 h (by decide)
  go_enter Tryd.func61, Tryd.ntmps61
  go_wp2
  go_ret
  exact ⟨rfl, rfl⟩
theorem fits_8 (n : Int) (h : 0 ≤ n) (h63 : n ≤ 9223372036854775807) (w : World) : Calls Tryd.prog 61 #[.int .i64 n, .int .i64 8] w fun e w' => e = .returned (.bool (decide (n < 9223372036854775808))) ∧ w' = w := by
  have hd := div_beq n 9223372036854775808 h (by decide)
  go_enter Tryd.func61, Tryd.ntmps61
  go_wp2
  go_ret
  exact ⟨rfl, rfl⟩
theorem conv_1 (W : World) (a0 : Int) : (convert 65 9 (.slice (some ⟨W.heap.size, 0, none⟩) 1 8)).run Tryd.prog (W.alloc (.cells #[.int .u8 a0, .int .u8 0, .int .u8 0, .int .u8 0, .int .u8 0, .int .u8 0, .int .u8 0, .int .u8 0] 103)) = .ok (.string (strOfNums [a0])) (W.alloc (.cells #[.int .u8 a0, .int .u8 0, .int .u8 0, .int .u8 0, .int .u8 0, .int .u8 0, .int .u8 0, .int .u8 0] 103)) :=
  run_convert_bytes_arg _ 65 5 Tryd.underlying65 Tryd.underlying5 _ 0 1 8 [a0] rfl (fun i hi => by match i, hi with | 0, _ => simp) 9 Tryd.underlying9
set_option maxRecDepth 100000 in
set_option maxHeartbeats 1000000 in
theorem numberBytes_1 (n : Nat) (h : (n : Int) < 256) (w : World) : Calls Tryd.prog 51 #[.int .i64 (n : Int), .int .i64 1] w fun e w' => e = .returned (.tuple #[.string (str (be 1 n)), .nilIface]) ∧ Below w.heap.size w w' := by
  have hf := decide_eq_true h
  have hcv := conv_1
  go_enter Tryd.func51, Tryd.ntmps51
  go_wp2_with (first | (go_at_call 60; refine (sizeRight_yes _ (by decide) (by decide) _).mono ?_; rintro e w' ⟨rfl, rfl⟩) | (go_at_call 61; refine (fits_1 n (by omega) (by omega) _).mono ?_; rintro e w' ⟨rfl, rfl⟩))
  refine wp_loop_rounds 2 ?_
  rw [rounds_succ]
  go_wp2
  rw [rounds_succ]
  go_wp2
  go_ret2
  exact ⟨ret_str (str_one [] _ 0 (n) (by omega) (by omega) (rfl)), ((Below.refl _ _).alloc (Nat.le_refl _) _)⟩
theorem conv_2 (W : World) (a0 a1 : Int) : (convert 65 9 (.slice (some ⟨W.heap.size, 0, none⟩) 2 8)).run Tryd.prog (W.alloc (.cells #[.int .u8 a0, .int .u8 a1, .int .u8 0, .int .u8 0, .int .u8 0, .int .u8 0, .int .u8 0, .int .u8 0] 103)) = .ok (.string (strOfNums [a0, a1])) (W.alloc (.cells #[.int .u8 a0, .int .u8 a1, .int .u8 0, .int .u8 0, .int .u8 0, .int .u8 0, .int .u8 0, .int .u8 0] 103)) :=
  run_convert_bytes_arg _ 65 5 Tryd.underlying65 Tryd.underlying5 _ 0 2 8 [a0, a1] rfl (fun i hi => by match i, hi with | 0, _ => simp | 1, _ => simp) 9 Tryd.underlying9
set_option maxRecDepth 100000 in
set_option maxHeartbeats 1000000 in
theorem numberBytes_2 (n : Nat) (h : (n : Int) < 65536) (w : World) : Calls Tryd.prog 51 #[.int .i64 (n : Int), .int .i64 2] w fun e w' => e = .returned (.tuple #[.string (str (be 2 n)), .nilIface]) ∧ Below w.heap.size w w' := by
  have hf := decide_eq_true h
  have hcv := conv_2
  go_enter Tryd.func51, Tryd.ntmps51
  go_wp2_with (first | (go_at_call 60; refine (sizeRight_yes _ (by decide) (by decide) _).mono ?_; rintro e w' ⟨rfl, rfl⟩) | (go_at_call 61; refine (fits_2 n (by omega) (by omega) _).mono ?_; rintro e w' ⟨rfl, rfl⟩))
  refine wp_loop_rounds 3 ?_
  rw [rounds_succ]
  go_wp2
  rw [rounds_succ]
  go_wp2
  rw [rounds_succ]
  go_wp2
  go_ret2
  exact ⟨ret_str (str_one [_] _ 1 (n) (by omega) (by omega) (str_one [] _ 0 (n / 256) (by omega) (by omega) (rfl))), ((Below.refl _ _).alloc (Nat.le_refl _) _)⟩
theorem conv_3 (W : World) (a0 a1 a2 : Int) : (convert 65 9 (.slice (some ⟨W.heap.size, 0, none⟩) 3 8)).run Tryd.prog (W.alloc (.cells #[.int .u8 a0, .int .u8 a1, .int .u8 a2, .int .u8 0, .int .u8 0, .int .u8 0, .int .u8 0, .int .u8 0] 103)) = .ok (.string (strOfNums [a0, a1, a2])) (W.alloc (.cells #[.int .u8 a0, .int .u8 a1, .int .u8 a2, .int .u8 0, .int .u8 0, .int .u8 0, .int .u8 0, .int .u8 0] 103)) :=
  run_convert_bytes_arg _ 65 5 Tryd.underlying65 Tryd.underlying5 _ 0 3 8 [a0, a1, a2] rfl (fun i hi => by match i, hi with | 0, _ => simp | 1, _ => simp | 2, _ => simp) 9 Tryd.underlying9
set_option maxRecDepth 100000 in
set_option maxHeartbeats 1000000 in
theorem numberBytes_3 (n : Nat) (h : (n : Int) < 16777216) (w : World) : Calls Tryd.prog 51 #[.int .i64 (n : Int), .int .i64 3] w fun e w' => e = .returned (.tuple #[.string (str (be 3 n)), .nilIface]) ∧ Below w.heap.size w w' := by
  have hf := decide_eq_true h
  have hcv := conv_3
  go_enter Tryd.func51, Tryd.ntmps51
  go_wp2_with (first | (go_at_call 60; refine (sizeRight_yes _ (by decide) (by decide) _).mono ?_; rintro e w' ⟨rfl, rfl⟩) | (go_at_call 61; refine (fits_3 n (by omega) (by omega) _).mono ?_; rintro e w' ⟨rfl, rfl⟩))
  refine wp_loop_rounds 4 ?_
  rw [rounds_succ]
  go_wp2
  rw [rounds_succ]
  go_wp2
  rw [rounds_succ]
  go_wp2
  rw [rounds_succ]
  go_wp2
  go_ret2
  exact ⟨ret_str (str_one [_, _] _ 2 (n) (by omega) (by omega) (str_one [_] _ 1 (n / 256) (by omega) (by omega) (str_one [] _ 0 (n / 256 / 256) (by omega) (by omega) (rfl)))), ((Below.refl _ _).alloc (Nat.le_refl _) _)⟩
theorem conv_4 (W : World) (a0 a1 a2 a3 : Int) : (convert 65 9 (.slice (some ⟨W.heap.size, 0, none⟩) 4 8)).run Tryd.prog (W.alloc (.cells #[.int .u8 a0, .int .u8 a1, .int .u8 a2, .int .u8 a3, .int .u8 0, .int .u8 0, .int .u8 0, .int .u8 0] 103)) = .ok (.string (strOfNums [a0, a1, a2, a3])) (W.alloc (.cells #[.int .u8 a0, .int .u8 a1, .int .u8 a2, .int .u8 a3, .int .u8 0, .int .u8 0, .int .u8 0, .int .u8 0] 103)) :=
  run_convert_bytes_arg _ 65 5 Tryd.underlying65 Tryd.underlying5 _ 0 4 8 [a0, a1, a2, a3] rfl (fun i hi => by match i, hi with | 0, _ => simp | 1, _ => simp | 2, _ => simp | 3, _ => simp) 9 Tryd.underlying9
set_option maxRecDepth 100000 in
set_option maxHeartbeats 1000000 in
theorem numberBytes_4 (n : Nat) (h : (n : Int) < 4294967296) (w : World) : Calls Tryd.prog 51 #[.int .i64 (n : Int), .int .i64 4] w fun e w' => e = .returned (.tuple #[.string (str (be 4 n)), .nilIface]) ∧ Below w.heap.size w w' := by
  have hf := decide_eq_true h
  have hcv := conv_4
  go_enter Tryd.func51, Tryd.ntmps51
  go_wp2_with (first | (go_at_call 60; refine (sizeRight_yes _ (by decide) (by decide) _).mono ?_; rintro e w' ⟨rfl, rfl⟩) | (go_at_call 61; refine (fits_4 n (by omega) (by omega) _).mono ?_; rintro e w' ⟨rfl, rfl⟩))
  refine wp_loop_rounds 5 ?_
  rw [rounds_succ]
  go_wp2
  rw [rounds_succ]
  go_wp2
  rw [rounds_succ]
  go_wp2
  rw [rounds_succ]
  go_wp2
  rw [rounds_succ]
  go_wp2
  go_ret2
  exact ⟨ret_str (str_one [_, _, _] _ 3 (n) (by omega) (by omega) (str_one [_, _] _ 2 (n / 256) (by omega) (by omega) (str_one [_] _ 1 (n / 256 / 256) (by omega) (by omega) (str_one [] _ 0 (n / 256 / 256 / 256) (by omega) (by omega) (rfl))))), ((Below.refl _ _).alloc (Nat.le_refl _) _)⟩
theorem conv_5 (W : World) (a0 a1 a2 a3 a4 : Int) : (convert 65 9 (.slice (some ⟨W.heap.size, 0, none⟩) 5 8)).run Tryd.prog (W.alloc (.cells #[.int .u8 a0, .int .u8 a1, .int .u8 a2, .int .u8 a3, .int .u8 a4, .int .u8 0, .int .u8 0, .int .u8 0] 103)) = .ok (.string (strOfNums [a0, a1, a2, a3, a4])) (W.alloc (.cells #[.int .u8 a0, .int .u8 a1, .int .u8 a2, .int .u8 a3, .int .u8 a4, .int .u8 0, .int .u8 0, .int .u8 0] 103)) :=
  run_convert_bytes_arg _ 65 5 Tryd.underlying65 Tryd.underlying5 _ 0 5 8 [a0, a1, a2, a3, a4] rfl (fun i hi => by match i, hi with | 0, _ => simp | 1, _ => simp | 2, _ => simp | 3, _ => simp | 4, _ => simp) 9 Tryd.underlying9
set_option maxRecDepth 100000 in
set_option maxHeartbeats 1000000 in
theorem numberBytes_5 (n : Nat) (h : (n : Int) < 1099511627776) (w : World) : Calls Tryd.prog 51 #[.int .i64 (n : Int), .int .i64 5] w fun e w' => e = .returned (.tuple #[.string (str (be 5 n)), .nilIface]) ∧ Below w.heap.size w w' := by
  have hf := decide_eq_true h
  have hcv := conv_5
  go_enter Tryd.func51, Tryd.ntmps51
  go_wp2_with (first | (go_at_call 60; refine (sizeRight_yes _ (by decide) (by decide) _).mono ?_; rintro e w' ⟨rfl, rfl⟩) | (go_at_call 61; refine (fits_5 n (by omega) (by omega) _).mono ?_; rintro e w' ⟨rfl, rfl⟩))
  refine wp_loop_rounds 6 ?_
  rw [rounds_succ]
  go_wp2
  rw [rounds_succ]
  go_wp2
  rw [rounds_succ]
  go_wp2
  rw [rounds_succ]
  go_wp2
  rw [rounds_succ]
  go_wp2
  rw [rounds_succ]
  go_wp2
  go_ret2
  exact ⟨ret_str (str_one [_, _, _, _] _ 4 (n) (by omega) (by omega) (str_one [_, _, _] _ 3 (n / 256) (by omega) (by omega) (str_one [_, _] _ 2 (n / 256 / 256) (by omega) (by omega) (str_one [_] _ 1 (n / 256 / 256 / 256) (by omega) (by omega) (str_one [] _ 0 (n / 256 / 256 / 256 / 256) (by omega) (by omega) (rfl)))))), ((Below.refl _ _).alloc (Nat.le_refl _) _)⟩
theorem conv_6 (W : World) (a0 a1 a2 a3 a4 a5 : Int) : (convert 65 9 (.slice (some ⟨W.heap.size, 0, none⟩) 6 8)).run Tryd.prog (W.alloc (.cells #[.int .u8 a0, .int .u8 a1, .int .u8 a2, .int .u8 a3, .int .u8 a4, .int .u8 a5, .int .u8 0, .int .u8 0] 103)) = .ok (.string (strOfNums [a0, a1, a2, a3, a4, a5])) (W.alloc (.cells #[.int .u8 a0, .int .u8 a1, .int .u8 a2, .int .u8 a3, .int .u8 a4, .int .u8 a5, .int .u8 0, .int .u8 0] 103)) :=
  run_convert_bytes_arg _ 65 5 Tryd.underlying65 Tryd.underlying5 _ 0 6 8 [a0, a1, a2, a3, a4, a5] rfl (fun i hi => by match i, hi with | 0, _ => simp | 1, _ => simp | 2, _ => simp | 3, _ => simp | 4, _ => simp | 5, _ => simp) 9 Tryd.underlying9
set_option maxRecDepth 100000 in
set_option maxHeartbeats 1000000 in
theorem numberBytes_6 (n : Nat) (h : (n : Int) < 281474976710656) (w : World) : Calls Tryd.prog 51 #[.int .i64 (n : Int), .int .i64 6] w fun e w' => e = .returned (.tuple #[.string (str (be 6 n)), .nilIface]) ∧ Below w.heap.size w w' := by
  have hf := decide_eq_true h
  have hcv := conv_6
  go_enter Tryd.func51, Tryd.ntmps51
  go_wp2_with (first | (go_at_call 60; refine (sizeRight_yes _ (by decide) (by decide) _).mono ?_; rintro e w' ⟨rfl, rfl⟩) | (go_at_call 61; refine (fits_6 n (by omega) (by omega) _).mono ?_; rintro e w' ⟨rfl, rfl⟩))
  refine wp_loop_rounds 7 ?_
  rw [rounds_succ]
  go_wp2
  rw [rounds_succ]
  go_wp2
  rw [rounds_succ]
  go_wp2
  rw [rounds_succ]
  go_wp2
  rw [rounds_succ]
  go_wp2
  rw [rounds_succ]
  go_wp2
  rw [rounds_succ]
  go_wp2
  go_ret2
  exact ⟨ret_str (str_one [_, _, _, _, _] _ 5 (n) (by omega) (by omega) (str_one [_, _, _, _] _ 4 (n / 256) (by omega) (by omega) (str_one [_, _, _] _ 3 (n / 256 / 256) (by omega) (by omega) (str_one [_, _] _ 2 (n / 256 / 256 / 256) (by omega) (by omega) (str_one [_] _ 1 (n / 256 / 256 / 256 / 256) (by omega) (by omega) (str_one [] _ 0 (n / 256 / 256 / 256 / 256 / 256) (by omega) (by omega) (rfl))))))), ((Below.refl _ _).alloc (Nat.le_refl _) _)⟩
theorem conv_7 (W : World) (a0 a1 a2 a3 a4 a5 a6 : Int) : (convert 65 9 (.slice (some ⟨W.heap.size, 0, none⟩) 7 8)).run Tryd.prog (W.alloc (.cells #[.int .u8 a0, .int .u8 a1, .int .u8 a2, .int .u8 a3, .int .u8 a4, .int .u8 a5, .int .u8 a6, .int .u8 0] 103)) = .ok (.string (strOfNums [a0, a1, a2, a3, a4, a5, a6])) (W.alloc (.cells #[.int .u8 a0, .int .u8 a1, .int .u8 a2, .int .u8 a3, .int .u8 a4, .int .u8 a5, .int .u8 a6, .int .u8 0] 103)) :=
  run_convert_bytes_arg _ 65 5 Tryd.underlying65 Tryd.underlying5 _ 0 7 8 [a0, a1, a2, a3, a4, a5, a6] rfl (fun i hi => by match i, hi with | 0, _ => simp | 1, _ => simp | 2, _ => simp | 3, _ => simp | 4, _ => simp | 5, _ => simp | 6, _ => simp) 9 Tryd.underlying9
set_option maxRecDepth 100000 in
set_option maxHeartbeats 1000000 in
theorem numberBytes_7 (n : Nat) (h : (n : Int) < 72057594037927936) (w : World) : Calls Tryd.prog 51 #[.int .i64 (n : Int), .int .i64 7] w fun e w' => e = .returned (.tuple #[.string (str (be 7 n)), .nilIface]) ∧ Below w.heap.size w w' := by
  have hf := decide_eq_true h
  have hcv := conv_7
  go_enter Tryd.func51, Tryd.ntmps51
  go_wp2_with (first | (go_at_call 60; refine (sizeRight_yes _ (by decide) (by decide) _).mono ?_; rintro e w' ⟨rfl, rfl⟩) | (go_at_call 61; refine (fits_7 n (by omega) (by omega) _).mono ?_; rintro e w' ⟨rfl, rfl⟩))
  refine wp_loop_rounds 8 ?_
  rw [rounds_succ]
  go_wp2
  rw [rounds_succ]
  go_wp2
  rw [rounds_succ]
  go_wp2
  rw [rounds_succ]
  go_wp2
  rw [rounds_succ]
  go_wp2
  rw [rounds_succ]
  go_wp2
  rw [rounds_succ]
  go_wp2
  rw [rounds_succ]
  go_wp2
  go_ret2
  exact ⟨ret_str (str_one [_, _, _, _, _, _] _ 6 (n) (by omega) (by omega) (str_one [_, _, _, _, _] _ 5 (n / 256) (by omega) (by omega) (str_one [_, _, _, _] _ 4 (n / 256 / 256) (by omega) (by omega) (str_one [_, _, _] _ 3 (n / 256 / 256 / 256) (by omega) (by omega) (str_one [_, _] _ 2 (n / 256 / 256 / 256 / 256) (by omega) (by omega) (str_one [_] _ 1 (n / 256 / 256 / 256 / 256 / 256) (by omega) (by omega) (str_one [] _ 0 (n / 256 / 256 / 256 / 256 / 256 / 256) (by omega) (by omega) (rfl)))))))), ((Below.refl _ _).alloc (Nat.le_refl _) _)⟩
theorem conv_8 (W : World) (a0 a1 a2 a3 a4 a5 a6 a7 : Int) : (convert 65 9 (.slice (some ⟨W.heap.size, 0, none⟩) 8 8)).run Tryd.prog (W.alloc (.cells #[.int .u8 a0, .int .u8 a1, .int .u8 a2, .int .u8 a3, .int .u8 a4, .int .u8 a5, .int .u8 a6, .int .u8 a7] 103)) = .ok (.string (strOfNums [a0, a1, a2, a3, a4, a5, a6, a7])) (W.alloc (.cells #[.int .u8 a0, .int .u8 a1, .int .u8 a2, .int .u8 a3, .int .u8 a4, .int .u8 a5, .int .u8 a6, .int .u8 a7] 103)) :=
  run_convert_bytes_arg _ 65 5 Tryd.underlying65 Tryd.underlying5 _ 0 8 8 [a0, a1, a2, a3, a4, a5, a6, a7] rfl (fun i hi => by match i, hi with | 0, _ => simp | 1, _ => simp | 2, _ => simp | 3, _ => simp | 4, _ => simp | 5, _ => simp | 6, _ => simp | 7, _ => simp) 9 Tryd.underlying9
set_option maxRecDepth 100000 in
set_option maxHeartbeats 1000000 in
theorem numberBytes_8 (n : Nat) (h : (n : Int) < 9223372036854775808) (w : World) : Calls Tryd.prog 51 #[.int .i64 (n : Int), .int .i64 8] w fun e w' => e = .returned (.tuple #[.string (str (be 8 n)), .nilIface]) ∧ Below w.heap.size w w' := by
  have hf := decide_eq_true h
  have hcv := conv_8
  go_enter Tryd.func51, Tryd.ntmps51
  go_wp2_with (first | (go_at_call 60; refine (sizeRight_yes _ (by decide) (by decide) _).mono ?_; rintro e w' ⟨rfl, rfl⟩) | (go_at_call 61; refine (fits_8 n (by omega) (by omega) _).mono ?_; rintro e w' ⟨rfl, rfl⟩))
  refine wp_loop_rounds 9 ?_
  rw [rounds_succ]
  go_wp2
  rw [rounds_succ]
  go_wp2
  rw [rounds_succ]
  go_wp2
  rw [rounds_succ]
  go_wp2
  rw [rounds_succ]
  go_wp2
  rw [rounds_succ]
  go_wp2
  rw [rounds_succ]
  go_wp2
  rw [rounds_succ]
  go_wp2
  rw [rounds_succ]
  go_wp2
  go_ret2
  exact ⟨ret_str (str_one [_, _, _, _, _, _, _] _ 7 (n) (by omega) (by omega) (str_one [_, _, _, _, _, _] _ 6 (n / 256) (by omega) (by omega) (str_one [_, _, _, _, _] _ 5 (n / 256 / 256) (by omega) (by omega) (str_one [_, _, _, _] _ 4 (n / 256 / 256 / 256) (by omega) (by omega) (str_one [_, _, _] _ 3 (n / 256 / 256 / 256 / 256) (by omega) (by omega) (str_one [_, _] _ 2 (n / 256 / 256 / 256 / 256 / 256) (by omega) (by omega) (str_one [_] _ 1 (n / 256 / 256 / 256 / 256 / 256 / 256) (by omega) (by omega) (str_one [] _ 0 (n / 256 / 256 / 256 / 256 / 256 / 256 / 256) (by omega) (by omega) (rfl))))))))), ((Below.refl _ _).alloc (Nat.le_refl _) _)⟩
end Go.Proofs.YtonoobjpafhogaaDoor
