/-
  firstBytes, firstNumber, firstText of the codec by their contracts. Conditions: the numbers are ints, a string is no longer than 2^47.
-/
import Derived.Test.YtonoobjpafhogaaDoorShelf
import Derived.Test.YtonoobjpafhogaaDoorNum2
import Derived.Test.YtonoobjpafhogaaDoorPut
import Derived.Laws.BitsAll
import Derived.WalkSpells
namespace Go.Proofs.YtonoobjpafhogaaDoor
open Go.RowKit

/-- What bytes say. -/
def said (l : List UInt8) : Nat := l.foldl (fun a b => a * 256 + b.toNat) 0
theorem said_snoc (l : List UInt8) (b : UInt8) : said (l ++ [b]) = said l * 256 + b.toNat := by simp [said]
theorem fold_lt (l : List UInt8) (a : Nat) : l.foldl (fun a b => a * 256 + b.toNat) a < (a + 1) * 256 ^ l.length := by
  induction l generalizing a with
  | nil => simp
  | cons b l ih =>
    have h1 := ih (a * 256 + b.toNat)
    have h2 := b.toNat_lt
    have h3 : (a * 256 + b.toNat + 1) * 256 ^ l.length ≤ ((a + 1) * 256) * 256 ^ l.length := Nat.mul_le_mul_right _ (by omega)
    rw [List.foldl_cons, List.length_cons, Nat.pow_succ, Nat.mul_comm (256 ^ l.length) 256, ← Nat.mul_assoc]
    omega
theorem said_lt (l : List UInt8) : said l < 256 ^ l.length := by simpa [said] using fold_lt l 0
theorem clone_any (s : ByteArray) (hs : s.size ≤ 140737488355328) (w : World) :
    Calls Tryd.prog 62 #[.string s] w fun e w' => e = .returned (.string s) ∧ Below w.heap.size w w' := by
  go_enter Tryd.func62, Tryd.ntmps62
  go_wp2_with (go_at_call 69; refine (Tryd.stringslite_Clone s _ (by omega)).mono ?_; rintro e w' ⟨rfl, hb⟩)
  go_ret
  exact ⟨rfl, hb⟩

/-- Bytes taken: the error, and they. -/
def rawC (R : List UInt8) (n : Int) : Int := if n < 0 then 10 else if (R.length : Int) < n then 12 else 0
def rawS (R : List UInt8) (n : Int) : List UInt8 := if n < 0 then [] else if (R.length : Int) < n then [] else R.take n.toNat

theorem extract_front (s : ByteArray) (m : Nat) : s.extract 0 m = str (s.data.toList.take m) := by
  apply ByteArray.ext
  apply Array.ext'
  simp [str, ByteArray.data_extract, List.extract_eq_take_drop]
theorem extract_back (s : ByteArray) (m : Nat) : s.extract m s.size = str (s.data.toList.drop m) := by
  apply ByteArray.ext
  apply Array.ext'
  simp only [str, ByteArray.data_extract, Array.toList_extract, List.extract_eq_take_drop]
  exact List.take_of_length_le (by simp)
set_option maxRecDepth 100000 in
theorem firstBytes_any (s : ByteArray) (n : Int) (hs : s.size ≤ 140737488355328) (w : World) :
    Calls Tryd.prog 49 #[.string s, .int .i64 n] w fun e w' => e = .returned (.tuple #[.string (str (rawS s.data.toList n)), errOf (rawC s.data.toList n)]) ∧ Below w.heap.size w w' := by
  have hl : s.data.toList.length = s.size := by simp
  by_cases h : n < 0
  · have e1 : rawC s.data.toList n = 10 := by simp only [rawC, if_pos h]
    have e2 : rawS s.data.toList n = [] := by simp only [rawS, if_pos h]
    rw [e1, e2]
    clear e1 e2 hl
    go_enter Tryd.func49, Tryd.ntmps49
    go_wp2
    go_ret2
    exact ⟨rfl, Below.refl _ _⟩
  · by_cases h2 : (s.size : Int) < n
    · have e1 : rawC s.data.toList n = 12 := by simp only [rawC, if_neg h, hl, if_pos h2]
      have e2 : rawS s.data.toList n = [] := by simp only [rawS, if_neg h, hl, if_pos h2]
      rw [e1, e2]
      clear e1 e2 hl
      go_enter Tryd.func49, Tryd.ntmps49
      go_wp2
      go_ret2
      exact ⟨rfl, Below.refl _ _⟩
    · obtain ⟨m, rfl⟩ := Int.eq_ofNat_of_zero_le (show 0 ≤ n by omega)
      have e1 : rawC s.data.toList (m : Int) = 0 := by simp only [rawC, if_neg h, hl, if_neg h2]
      have e2 : rawS s.data.toList (m : Int) = s.data.toList.take m := by simp only [rawS, if_neg h, hl, if_neg h2, Int.toNat_natCast]
      rw [e1, e2]
      have HX : Hid (s.extract 0 m = str (s.data.toList.take m)) := extract_front s m
      have hsz : (s.extract 0 m).size ≤ 140737488355328 := by simp; omega
      clear e1 e2 hl
      have hm : m ≤ s.size := by omega
      go_enter Tryd.func49, Tryd.ntmps49
      go_wp2_with (go_at_call 62; refine (clone_any _ hsz _).mono ?_; rintro e w' ⟨rfl, hb⟩)
      go_ret2
      exact ⟨ret_str HX.out, hb⟩

theorem fits_any (n s : Int) (h1 : 1 ≤ s) (h2 : s ≤ 8) (h : 0 ≤ n) (h63 : n ≤ 9223372036854775807) (w : World) : Calls Tryd.prog 61 #[.int .i64 n, .int .i64 s] w fun e w' => e = .returned (.bool (decide (n < (top s.toNat : Nat)))) ∧ w' = w := by
  obtain ⟨t1, t2, t3, t4, t5, t6, t7, t8⟩ := top_val
  have hc : s = 1 ∨ s = 2 ∨ s = 3 ∨ s = 4 ∨ s = 5 ∨ s = 6 ∨ s = 7 ∨ s = 8 := by omega
  rcases hc with rfl | rfl | rfl | rfl | rfl | rfl | rfl | rfl
  · rw [show ((1 : Int).toNat) = 1 from rfl, t1]; exact fits_1 n h h63 w
  · rw [show ((2 : Int).toNat) = 2 from rfl, t2]; exact fits_2 n h h63 w
  · rw [show ((3 : Int).toNat) = 3 from rfl, t3]; exact fits_3 n h h63 w
  · rw [show ((4 : Int).toNat) = 4 from rfl, t4]; exact fits_4 n h h63 w
  · rw [show ((5 : Int).toNat) = 5 from rfl, t5]; exact fits_5 n h h63 w
  · rw [show ((6 : Int).toNat) = 6 from rfl, t6]; exact fits_6 n h h63 w
  · rw [show ((7 : Int).toNat) = 7 from rfl, t7]; exact fits_7 n h h63 w
  · rw [show ((8 : Int).toNat) = 8 from rfl, t8]; exact fits_8 n h h63 w

theorem fits_true (n s : Nat) (h1 : 1 ≤ s) (h2 : s ≤ 8) (h63 : n < 9223372036854775808) (ht : n < top s) (w : World) : Calls Tryd.prog 61 #[.int .i64 (n : Int), .int .i64 (s : Int)] w fun e w' => e = .returned (.bool true) ∧ w' = w := by
  refine (fits_any n s (by omega) (by omega) (by omega) (by omega) w).mono ?_
  rintro e w' ⟨rfl, rfl⟩
  exact ⟨by rw [decide_eq_true (by rw [Int.toNat_natCast]; omega)], rfl⟩

/-- A number taken: the error, and it. -/
def rnumC (R : List UInt8) (n : Int) : Int :=
  if n < 1 ∨ 8 < n then 10 else if (R.length : Int) < n then 12 else if 9223372036854775808 ≤ said (R.take n.toNat) then 10 else 0
def rnumV (R : List UInt8) (n : Int) : Nat := if rnumC R n = 0 then said (R.take n.toNat) else 0

theorem said_take_succ (s : ByteArray) (k : Nat) (h : k < s.size) : said (s.data.toList.take (k + 1)) = said (s.data.toList.take k) * 256 + s[k].toNat := by
  rw [List.take_succ_eq_append_getElem (by simpa using h), said_snoc]; rfl
theorem said_take_lt (s : ByteArray) (k : Nat) : said (s.data.toList.take k) < 256 ^ k := by
  have h1 := said_lt (s.data.toList.take k)
  have h2 : (s.data.toList.take k).length ≤ k := List.length_take_le _ _
  exact Nat.lt_of_lt_of_le h1 (Nat.pow_le_pow_right (by decide) h2)
theorem pow_7 (k : Nat) (h : k < 8) : 256 ^ k ≤ 72057594037927936 := Nat.le_trans (Nat.pow_le_pow_right (by decide) (show k ≤ 7 by omega)) (by decide)
theorem or64 (V b : Nat) (hV : V < 72057594037927936) (hb : b < 256) : bits .or .u64 ((V : Int) * 256) (b : Int) = ((V * 256 + b : Nat) : Int) := by
  have h := u64_or_nat (V * 256) b (by omega) (by omega)
  rw [nat_join 8 (V * 256) b (by omega) (by omega)] at h
  rw [← h]
  congr 1

theorem wrapb (b : Nat) (hb : b < 256) : IntKind.u64.wrap (b : Int) = b := by rw [IntKind.wrap_u64]; omega
theorem rnum_ok (s : ByteArray) (k V : Nat) (h1 : 1 ≤ k) (h2 : k ≤ 8) (h : k ≤ s.size) (hV : V = said (s.data.toList.take k)) (h63 : V < 9223372036854775808) : rnumV s.data.toList (k : Int) = V ∧ rnumC s.data.toList (k : Int) = 0 := by
  have hl : s.data.toList.length = s.size := by simp
  have hc : rnumC s.data.toList (k : Int) = 0 := by
    unfold rnumC
    rw [if_neg (by omega), if_neg (by rw [hl]; omega), if_neg (by rw [Int.toNat_natCast, ← hV]; omega)]
  exact ⟨by rw [rnumV, if_pos hc, Int.toNat_natCast, hV], hc⟩
theorem rnum_big (s : ByteArray) (k V : Nat) (h1 : 1 ≤ k) (h2 : k ≤ 8) (h : k ≤ s.size) (hV : V = said (s.data.toList.take k)) (h63 : 9223372036854775808 ≤ V) : rnumV s.data.toList (k : Int) = 0 ∧ rnumC s.data.toList (k : Int) = 10 := by
  have hl : s.data.toList.length = s.size := by simp
  have hc : rnumC s.data.toList (k : Int) = 10 := by
    unfold rnumC
    rw [if_neg (by omega), if_neg (by rw [hl]; omega), if_pos (by rw [Int.toNat_natCast, ← hV]; exact h63)]
  exact ⟨by rw [rnumV, if_neg (by rw [hc]; decide)], hc⟩

set_option maxRecDepth 100000 in
theorem firstNumber_size (s : ByteArray) (n : Int) (h : n < 1 ∨ 8 < n) (w : World) :
    Calls Tryd.prog 47 #[.string s, .int .i64 n] w fun e w' => e = .returned (.tuple #[.int .i64 0, .iface 98 (.agg #[.int .i64 10])]) ∧ w' = w := by
  go_enter Tryd.func47, Tryd.ntmps47
  go_wp2_with (go_at_call 60; refine (sizeRight_no _ h _).mono ?_; rintro e w' ⟨rfl, rfl⟩)
  go_ret2
  exact ⟨rfl, rfl⟩
set_option maxRecDepth 100000 in
theorem firstNumber_short (s : ByteArray) (_hs : s.size ≤ 140737488355328) (n : Int) (h1 : 1 ≤ n) (h2 : n ≤ 8) (h : (s.size : Int) < n) (w : World) :
    Calls Tryd.prog 47 #[.string s, .int .i64 n] w fun e w' => e = .returned (.tuple #[.int .i64 0, .iface 98 (.agg #[.int .i64 12])]) ∧ w' = w := by
  go_enter Tryd.func47, Tryd.ntmps47
  go_wp2_with (go_at_call 60; refine (sizeRight_yes _ h1 h2 _).mono ?_; rintro e w' ⟨rfl, rfl⟩)
  go_ret2
  exact ⟨rfl, rfl⟩
set_option maxRecDepth 100000 in
set_option maxHeartbeats 1000000 in
theorem firstNumber_yes (s : ByteArray) (hs : s.size ≤ 140737488355328) (n : Nat) (h1 : 1 ≤ n) (h2 : n ≤ 8) (h : n ≤ s.size) (w : World) :
    Calls Tryd.prog 47 #[.string s, .int .i64 (n : Int)] w fun e w' => e = .returned (.tuple #[.int .i64 (rnumV s.data.toList n), errOf (rnumC s.data.toList n)]) ∧ w' = w := by
  go_enter Tryd.func47, Tryd.ntmps47
  go_wp2_with (go_at_call 60; refine (sizeRight_yes _ (by omega) (by omega) _).mono ?_; rintro e w' ⟨rfl, rfl⟩)
  go_loop [6, 21] (fun t i => ∃ k V : Nat, k ≤ n ∧ i = .int .i64 k ∧ Hid (V = said (s.data.toList.take k)) ∧ t = .int .u64 V) (fun _ i => n - (intOf i).toNat)
  case atStart => exact ⟨0, 0, Nat.zero_le _, rfl, by simp [Hid, said], rfl⟩
  case round =>
    obtain ⟨k, V, hk, rfl, hV, rfl⟩ := hrel
    by_cases hlt : k < n
    · have hVl : V < 72057594037927936 := by rw [hV.out]; exact Nat.lt_of_lt_of_le (said_take_lt s k) (pow_7 k (by omega))
      have hks : k < s.size := by omega
      have hn : Hid (V * 256 + s[k].toNat = said (s.data.toList.take (k + 1))) := by rw [said_take_succ s k hks, ← hV.out]; rfl
      have hwr := wrapb s[k].toNat (s[k].toNat_lt)
      have hor := or64 V s[k].toNat hVl (s[k].toNat_lt)
      go_wp2
      go_round
      case rel => exact ⟨k + 1, V * 256 + s[k].toNat, by omega, by go_num, hn.out, by go_num⟩
      case measure => simp [intOf]; omega
    · have hkn : k = n := by omega
      subst hkn
      by_cases h63 : V < 9223372036854775808
      · have ht : V < top k := by
          rw [hV.out]
          have := said_take_lt s k
          unfold top
          split
          · rw [← hV.out]; exact h63
          · exact this
        have HE := hide (rnum_ok s k V h1 h2 h hV.out h63)
        have HT := hide ht
        clear ht
        go_wp2_with (go_at_call 61; refine (fits_true V k h1 h2 h63 HT.out _).mono ?_; rintro e w' ⟨rfl, rfl⟩)
        go_ret2
        exact ⟨by rw [HE.out.1, HE.out.2]; rfl, rfl⟩
      · have hVl : V < 18446744073709551616 := by
          rw [hV.out]
          exact Nat.lt_of_lt_of_le (said_take_lt s k) (Nat.le_trans (Nat.pow_le_pow_right (by decide) h2) (by decide))
        have HE := hide (rnum_big s k V h1 h2 h hV.out (by omega))
        have hneg : wrap64 (V : Int) < 0 := by unfold wrap64; omega
        go_wp2_with (go_at_call 61; refine (fits_neg _ _ hneg _).mono ?_; rintro e w' ⟨rfl, rfl⟩)
        go_ret2
        exact ⟨by rw [HE.out.1, HE.out.2]; rfl, rfl⟩
end Go.Proofs.YtonoobjpafhogaaDoor
