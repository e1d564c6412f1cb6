/-
  numberBytes, textBytes: every number and every size, by one contract each. Conditions: the numbers are ints, the text is no longer than 2^47.
-/
import Derived.Test.YtonoobjpafhogaaDoorNum
import Derived.Test.YtonoobjpafhogaaDoorOwn
namespace Go.Proofs.YtonoobjpafhogaaDoor
open Go.RowKit

/-- A number's error, and its bytes. -/
def numC (s n : Int) : Int := if 1 ≤ s ∧ s ≤ 8 ∧ fitsB s.toNat n = true then 0 else 10
def numS (s n : Int) : List UInt8 := if 1 ≤ s ∧ s ≤ 8 ∧ fitsB s.toNat n = true then be s.toNat n.toNat else []

set_option maxRecDepth 100000 in
theorem numberBytes_size (n s : Int) (h : s < 1 ∨ 8 < s) (w : World) : Calls Tryd.prog 51 #[.int .i64 n, .int .i64 s] w fun e w' => e = .returned (.tuple #[.string (str []), .iface 98 (.agg #[.int .i64 10])]) ∧ Below w.heap.size w w' := by
  go_enter Tryd.func51, Tryd.ntmps51
  go_wp2_with (go_at_call 60; refine (sizeRight_no _ h _).mono ?_; rintro e w' ⟨rfl, rfl⟩)
  go_ret2
  exact ⟨rfl, Below.refl _ _⟩
set_option maxRecDepth 100000 in
theorem numberBytes_neg (n s : Int) (h1 : 1 ≤ s) (h2 : s ≤ 8) (hn : n < 0) (w : World) : Calls Tryd.prog 51 #[.int .i64 n, .int .i64 s] w fun e w' => e = .returned (.tuple #[.string (str []), .iface 98 (.agg #[.int .i64 10])]) ∧ Below w.heap.size w w' := by
  go_enter Tryd.func51, Tryd.ntmps51
  go_wp2_with (first | (go_at_call 60; refine (sizeRight_yes _ h1 h2 _).mono ?_; rintro e w' ⟨rfl, rfl⟩) | (go_at_call 61; refine (fits_neg _ _ hn _).mono ?_; rintro e w' ⟨rfl, rfl⟩))
  go_ret2
  exact ⟨rfl, Below.refl _ _⟩
set_option maxRecDepth 100000 in
theorem numberBytes_no1 (n : Int) (h0 : 0 ≤ n) (h63 : n ≤ 9223372036854775807) (h : 256 ≤ n) (w : World) : Calls Tryd.prog 51 #[.int .i64 n, .int .i64 1] w fun e w' => e = .returned (.tuple #[.string (str []), .iface 98 (.agg #[.int .i64 10])]) ∧ Below w.heap.size w w' := by
  have hf : decide (n < 256) = false := decide_eq_false (by omega)
  go_enter Tryd.func51, Tryd.ntmps51
  go_wp2_with (first | (go_at_call 60; refine (sizeRight_yes _ (by decide) (by decide) _).mono ?_; rintro e w' ⟨rfl, rfl⟩) | (go_at_call 61; refine (fits_1 n (by omega) (by omega) _).mono ?_; rintro e w' ⟨rfl, rfl⟩))
  go_ret2
  exact ⟨rfl, Below.refl _ _⟩
set_option maxRecDepth 100000 in
theorem numberBytes_no2 (n : Int) (h0 : 0 ≤ n) (h63 : n ≤ 9223372036854775807) (h : 65536 ≤ n) (w : World) : Calls Tryd.prog 51 #[.int .i64 n, .int .i64 2] w fun e w' => e = .returned (.tuple #[.string (str []), .iface 98 (.agg #[.int .i64 10])]) ∧ Below w.heap.size w w' := by
  have hf : decide (n < 65536) = false := decide_eq_false (by omega)
  go_enter Tryd.func51, Tryd.ntmps51
  go_wp2_with (first | (go_at_call 60; refine (sizeRight_yes _ (by decide) (by decide) _).mono ?_; rintro e w' ⟨rfl, rfl⟩) | (go_at_call 61; refine (fits_2 n (by omega) (by omega) _).mono ?_; rintro e w' ⟨rfl, rfl⟩))
  go_ret2
  exact ⟨rfl, Below.refl _ _⟩
set_option maxRecDepth 100000 in
theorem numberBytes_no3 (n : Int) (h0 : 0 ≤ n) (h63 : n ≤ 9223372036854775807) (h : 16777216 ≤ n) (w : World) : Calls Tryd.prog 51 #[.int .i64 n, .int .i64 3] w fun e w' => e = .returned (.tuple #[.string (str []), .iface 98 (.agg #[.int .i64 10])]) ∧ Below w.heap.size w w' := by
  have hf : decide (n < 16777216) = false := decide_eq_false (by omega)
  go_enter Tryd.func51, Tryd.ntmps51
  go_wp2_with (first | (go_at_call 60; refine (sizeRight_yes _ (by decide) (by decide) _).mono ?_; rintro e w' ⟨rfl, rfl⟩) | (go_at_call 61; refine (fits_3 n (by omega) (by omega) _).mono ?_; rintro e w' ⟨rfl, rfl⟩))
  go_ret2
  exact ⟨rfl, Below.refl _ _⟩
set_option maxRecDepth 100000 in
theorem numberBytes_no4 (n : Int) (h0 : 0 ≤ n) (h63 : n ≤ 9223372036854775807) (h : 4294967296 ≤ n) (w : World) : Calls Tryd.prog 51 #[.int .i64 n, .int .i64 4] w fun e w' => e = .returned (.tuple #[.string (str []), .iface 98 (.agg #[.int .i64 10])]) ∧ Below w.heap.size w w' := by
  have hf : decide (n < 4294967296) = false := decide_eq_false (by omega)
  go_enter Tryd.func51, Tryd.ntmps51
  go_wp2_with (first | (go_at_call 60; refine (sizeRight_yes _ (by decide) (by decide) _).mono ?_; rintro e w' ⟨rfl, rfl⟩) | (go_at_call 61; refine (fits_4 n (by omega) (by omega) _).mono ?_; rintro e w' ⟨rfl, rfl⟩))
  go_ret2
  exact ⟨rfl, Below.refl _ _⟩
set_option maxRecDepth 100000 in
theorem numberBytes_no5 (n : Int) (h0 : 0 ≤ n) (h63 : n ≤ 9223372036854775807) (h : 1099511627776 ≤ n) (w : World) : Calls Tryd.prog 51 #[.int .i64 n, .int .i64 5] w fun e w' => e = .returned (.tuple #[.string (str []), .iface 98 (.agg #[.int .i64 10])]) ∧ Below w.heap.size w w' := by
  have hf : decide (n < 1099511627776) = false := decide_eq_false (by omega)
  go_enter Tryd.func51, Tryd.ntmps51
  go_wp2_with (first | (go_at_call 60; refine (sizeRight_yes _ (by decide) (by decide) _).mono ?_; rintro e w' ⟨rfl, rfl⟩) | (go_at_call 61; refine (fits_5 n (by omega) (by omega) _).mono ?_; rintro e w' ⟨rfl, rfl⟩))
  go_ret2
  exact ⟨rfl, Below.refl _ _⟩
set_option maxRecDepth 100000 in
theorem numberBytes_no6 (n : Int) (h0 : 0 ≤ n) (h63 : n ≤ 9223372036854775807) (h : 281474976710656 ≤ n) (w : World) : Calls Tryd.prog 51 #[.int .i64 n, .int .i64 6] w fun e w' => e = .returned (.tuple #[.string (str []), .iface 98 (.agg #[.int .i64 10])]) ∧ Below w.heap.size w w' := by
  have hf : decide (n < 281474976710656) = false := decide_eq_false (by omega)
  go_enter Tryd.func51, Tryd.ntmps51
  go_wp2_with (first | (go_at_call 60; refine (sizeRight_yes _ (by decide) (by decide) _).mono ?_; rintro e w' ⟨rfl, rfl⟩) | (go_at_call 61; refine (fits_6 n (by omega) (by omega) _).mono ?_; rintro e w' ⟨rfl, rfl⟩))
  go_ret2
  exact ⟨rfl, Below.refl _ _⟩
set_option maxRecDepth 100000 in
theorem numberBytes_no7 (n : Int) (h0 : 0 ≤ n) (h63 : n ≤ 9223372036854775807) (h : 72057594037927936 ≤ n) (w : World) : Calls Tryd.prog 51 #[.int .i64 n, .int .i64 7] w fun e w' => e = .returned (.tuple #[.string (str []), .iface 98 (.agg #[.int .i64 10])]) ∧ Below w.heap.size w w' := by
  have hf : decide (n < 72057594037927936) = false := decide_eq_false (by omega)
  go_enter Tryd.func51, Tryd.ntmps51
  go_wp2_with (first | (go_at_call 60; refine (sizeRight_yes _ (by decide) (by decide) _).mono ?_; rintro e w' ⟨rfl, rfl⟩) | (go_at_call 61; refine (fits_7 n (by omega) (by omega) _).mono ?_; rintro e w' ⟨rfl, rfl⟩))
  go_ret2
  exact ⟨rfl, Below.refl _ _⟩

theorem top_val : top 1 = 256 ∧ top 2 = 65536 ∧ top 3 = 16777216 ∧ top 4 = 4294967296 ∧ top 5 = 1099511627776 ∧ top 6 = 281474976710656 ∧ top 7 = 72057594037927936 ∧ top 8 = 9223372036854775808 := by
  refine ⟨?_, ?_, ?_, ?_, ?_, ?_, ?_, ?_⟩ <;> simp [top]
theorem num_yes {s n : Int} (h1 : 1 ≤ s) (h2 : s ≤ 8) (hf : fitsB s.toNat n = true) : numC s n = 0 ∧ numS s n = be s.toNat n.toNat := by simp [numC, numS, h1, h2, hf]
theorem num_no {s n : Int} (h : ¬ (1 ≤ s ∧ s ≤ 8 ∧ fitsB s.toNat n = true)) : numC s n = 10 ∧ numS s n = [] := by simp only [numC, numS, if_neg h, and_self]
theorem fitsB_iff (s : Nat) (n : Int) : fitsB s n = true ↔ 0 ≤ n ∧ n < (top s : Nat) := by simp [fitsB]

theorem numberBytes_any (n s : Int) (h63 : n ≤ 9223372036854775807) (w : World) :
    Calls Tryd.prog 51 #[.int .i64 n, .int .i64 s] w fun e w' => e = .returned (.tuple #[.string (str (numS s n)), errOf (numC s n)]) ∧ Below w.heap.size w w' := by
  by_cases hs : 1 ≤ s ∧ s ≤ 8
  · obtain ⟨h1, h2⟩ := hs
    by_cases hn : n < 0
    · obtain ⟨e1, e2⟩ := num_no (s := s) (n := n) (fun h => by have := ((fitsB_iff _ _).1 h.2.2).1; omega)
      rw [e1, e2]
      exact numberBytes_neg n s h1 h2 hn w
    · obtain ⟨m, rfl⟩ := Int.eq_ofNat_of_zero_le (show 0 ≤ n by omega)
      obtain ⟨t1, t2, t3, t4, t5, t6, t7, t8⟩ := top_val
      have hc : s = 1 ∨ s = 2 ∨ s = 3 ∨ s = 4 ∨ s = 5 ∨ s = 6 ∨ s = 7 ∨ s = 8 := by omega
      rcases hc with rfl | rfl | rfl | rfl | rfl | rfl | rfl | rfl
      · by_cases hf : (m : Int) < 256
        · obtain ⟨e1, e2⟩ := num_yes (s := 1) (n := (m : Int)) (by decide) (by decide) ((fitsB_iff _ _).2 ⟨by omega, by rw [show ((1 : Int).toNat) = 1 from rfl, t1]; exact hf⟩)
          rw [e1, e2]
          exact numberBytes_1 m hf w
        · obtain ⟨e1, e2⟩ := num_no (s := 1) (n := (m : Int)) (fun h => by have := ((fitsB_iff _ _).1 h.2.2).2; rw [show ((1 : Int).toNat) = 1 from rfl, t1] at this; omega)
          rw [e1, e2]
          exact numberBytes_no1 m (by omega) h63 (by omega) w
      · by_cases hf : (m : Int) < 65536
        · obtain ⟨e1, e2⟩ := num_yes (s := 2) (n := (m : Int)) (by decide) (by decide) ((fitsB_iff _ _).2 ⟨by omega, by rw [show ((2 : Int).toNat) = 2 from rfl, t2]; exact hf⟩)
          rw [e1, e2]
          exact numberBytes_2 m hf w
        · obtain ⟨e1, e2⟩ := num_no (s := 2) (n := (m : Int)) (fun h => by have := ((fitsB_iff _ _).1 h.2.2).2; rw [show ((2 : Int).toNat) = 2 from rfl, t2] at this; omega)
          rw [e1, e2]
          exact numberBytes_no2 m (by omega) h63 (by omega) w
      · by_cases hf : (m : Int) < 16777216
        · obtain ⟨e1, e2⟩ := num_yes (s := 3) (n := (m : Int)) (by decide) (by decide) ((fitsB_iff _ _).2 ⟨by omega, by rw [show ((3 : Int).toNat) = 3 from rfl, t3]; exact hf⟩)
          rw [e1, e2]
          exact numberBytes_3 m hf w
        · obtain ⟨e1, e2⟩ := num_no (s := 3) (n := (m : Int)) (fun h => by have := ((fitsB_iff _ _).1 h.2.2).2; rw [show ((3 : Int).toNat) = 3 from rfl, t3] at this; omega)
          rw [e1, e2]
          exact numberBytes_no3 m (by omega) h63 (by omega) w
      · by_cases hf : (m : Int) < 4294967296
        · obtain ⟨e1, e2⟩ := num_yes (s := 4) (n := (m : Int)) (by decide) (by decide) ((fitsB_iff _ _).2 ⟨by omega, by rw [show ((4 : Int).toNat) = 4 from rfl, t4]; exact hf⟩)
          rw [e1, e2]
          exact numberBytes_4 m hf w
        · obtain ⟨e1, e2⟩ := num_no (s := 4) (n := (m : Int)) (fun h => by have := ((fitsB_iff _ _).1 h.2.2).2; rw [show ((4 : Int).toNat) = 4 from rfl, t4] at this; omega)
          rw [e1, e2]
          exact numberBytes_no4 m (by omega) h63 (by omega) w
      · by_cases hf : (m : Int) < 1099511627776
        · obtain ⟨e1, e2⟩ := num_yes (s := 5) (n := (m : Int)) (by decide) (by decide) ((fitsB_iff _ _).2 ⟨by omega, by rw [show ((5 : Int).toNat) = 5 from rfl, t5]; exact hf⟩)
          rw [e1, e2]
          exact numberBytes_5 m hf w
        · obtain ⟨e1, e2⟩ := num_no (s := 5) (n := (m : Int)) (fun h => by have := ((fitsB_iff _ _).1 h.2.2).2; rw [show ((5 : Int).toNat) = 5 from rfl, t5] at this; omega)
          rw [e1, e2]
          exact numberBytes_no5 m (by omega) h63 (by omega) w
      · by_cases hf : (m : Int) < 281474976710656
        · obtain ⟨e1, e2⟩ := num_yes (s := 6) (n := (m : Int)) (by decide) (by decide) ((fitsB_iff _ _).2 ⟨by omega, by rw [show ((6 : Int).toNat) = 6 from rfl, t6]; exact hf⟩)
          rw [e1, e2]
          exact numberBytes_6 m hf w
        · obtain ⟨e1, e2⟩ := num_no (s := 6) (n := (m : Int)) (fun h => by have := ((fitsB_iff _ _).1 h.2.2).2; rw [show ((6 : Int).toNat) = 6 from rfl, t6] at this; omega)
          rw [e1, e2]
          exact numberBytes_no6 m (by omega) h63 (by omega) w
      · by_cases hf : (m : Int) < 72057594037927936
        · obtain ⟨e1, e2⟩ := num_yes (s := 7) (n := (m : Int)) (by decide) (by decide) ((fitsB_iff _ _).2 ⟨by omega, by rw [show ((7 : Int).toNat) = 7 from rfl, t7]; exact hf⟩)
          rw [e1, e2]
          exact numberBytes_7 m hf w
        · obtain ⟨e1, e2⟩ := num_no (s := 7) (n := (m : Int)) (fun h => by have := ((fitsB_iff _ _).1 h.2.2).2; rw [show ((7 : Int).toNat) = 7 from rfl, t7] at this; omega)
          rw [e1, e2]
          exact numberBytes_no7 m (by omega) h63 (by omega) w
      · have hf : (m : Int) < 9223372036854775808 := by omega
        obtain ⟨e1, e2⟩ := num_yes (s := 8) (n := (m : Int)) (by decide) (by decide) ((fitsB_iff _ _).2 ⟨by omega, by rw [show ((8 : Int).toNat) = 8 from rfl, t8]; exact hf⟩)
        rw [e1, e2]
        exact numberBytes_8 m hf w
  · obtain ⟨e1, e2⟩ := num_no (s := s) (n := n) (fun h => hs ⟨h.1, h.2.1⟩)
    rw [e1, e2]
    exact numberBytes_size n s (by omega) w

theorem fits16 (n : Nat) (h : n < 65536) (w : World) : Calls Tryd.prog 70 #[.int .u16 (n : Int), .int .i64 2] w fun e w' => e = .returned (.bool true) ∧ w' = w := by
  have hd := div_beq (n : Int) 65536 (by omega) (by decide)
  have hb : decide ((n : Int) < 65536) = true := decide_eq_true (by omega)
  go_enter Tryd.func70, Tryd.ntmps70
  go_wp2
  go_ret
  exact ⟨rfl, rfl⟩
set_option maxRecDepth 100000 in
set_option maxHeartbeats 1000000 in
theorem numberBytes16 (n : Nat) (h : n < 65536) (w : World) : Calls Tryd.prog 63 #[.int .u16 (n : Int), .int .i64 2] w fun e w' => e = .returned (.tuple #[.string (str (be 2 n)), .nilIface]) ∧ Below w.heap.size w w' := by
  have hcv := conv_2
  go_enter Tryd.func63, Tryd.ntmps63
  go_wp2_with (first | (go_at_call 60; refine (sizeRight_yes _ (by decide) (by decide) _).mono ?_; rintro e w' ⟨rfl, rfl⟩) | (go_at_call 70; refine (fits16 n h _).mono ?_; rintro e w' ⟨rfl, rfl⟩))
  refine wp_loop_rounds 3 ?_
  rw [rounds_succ]
  go_wp2
  rw [rounds_succ]
  go_wp2
  rw [rounds_succ]
  go_wp2
  go_ret2
  exact ⟨ret_str (str_one [_] _ 1 (n) (by omega) (by omega) (str_one [] _ 0 (n / 256) (by omega) (by omega) (rfl))), ((Below.refl _ _).alloc (Nat.le_refl _) _)⟩

/-- A text's error, and its bytes. -/
def textC (s : List UInt8) : Int := if 65535 < s.length then 11 else 0
def textS (s : List UInt8) : List UInt8 := if 65535 < s.length then [] else be 2 s.length ++ s
theorem str_append (l : List UInt8) (s : ByteArray) : str l ++ s = str (l ++ s.data.toList) := by
  apply ByteArray.ext
  simp [str, ByteArray.data_append]
set_option maxRecDepth 100000 in
set_option maxHeartbeats 1000000 in
theorem textBytes_any (s : ByteArray) (hs : s.size ≤ 140737488355328) (w : World) : Calls Tryd.prog 52 #[.string s] w fun e w' => e = .returned (.tuple #[.string (str (textS s.data.toList)), errOf (textC s.data.toList)]) ∧ Below w.heap.size w w' := by
  have hl : s.data.toList.length = s.size := by simp
  by_cases h : 65535 < s.size
  · have e1 : textC s.data.toList = 11 := by simp only [textC, hl, if_pos h]
    have e2 : textS s.data.toList = [] := by simp only [textS, hl, if_pos h]
    rw [e1, e2]
    clear e1 e2 hl
    go_enter Tryd.func52, Tryd.ntmps52
    go_wp2
    go_ret2
    exact ⟨rfl, Below.refl _ _⟩
  · have e1 : textC s.data.toList = 0 := by simp only [textC, hl, if_neg h]
    have e2 : textS s.data.toList = be 2 s.size ++ s.data.toList := by simp only [textS, hl, if_neg h]
    rw [e1, e2]
    have hbl : (str (be 2 s.size)).size = 2 := by rw [str_size, be_length]
    have HA : Hid (str (be 2 s.size) ++ s = str (be 2 s.size ++ s.data.toList)) := str_append _ _
    clear e1 e2 hl
    go_enter Tryd.func52, Tryd.ntmps52
    go_wp2_with (go_at_call 63; refine (numberBytes16 s.size (by omega) _).mono ?_; rintro e w' ⟨rfl, hb⟩)
    go_ret2
    exact ⟨ret_str HA.out, hb⟩
end Go.Proofs.YtonoobjpafhogaaDoor
