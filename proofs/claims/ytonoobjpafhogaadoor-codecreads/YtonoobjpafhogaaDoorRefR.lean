/-
  The document's Reader by its contracts: NewReader, wrong, said, Num, Text, Raw, Left, Done. Conditions: the numbers are ints; a string is no longer than 2^47.
-/
import Derived.Test.YtonoobjpafhogaaDoorRd2
import Derived.Test.YtonoobjpafhogaaDoorRefB
namespace Go.Proofs.YtonoobjpafhogaaDoor
open Go.RowKit

theorem refNewReader_any (s : ByteArray) (w : World) :
    Calls Tryd.prog 20 #[.string s] w fun e w' => e = .returned (.pointer (some ⟨w.heap.size, 0, none⟩)) ∧ RAt 79 w' w.heap.size s.data.toList (.int .i64 0) ∧ Below w.heap.size w w' ∧ w'.heap.size = w.heap.size + 1 := by
  have h : RAt 79 (w.alloc (.cells #[.string s, .int .i64 0] 79)) w.heap.size s.data.toList (.int .i64 0) := by
    unfold RAt
    rw [str_of]
    exact heap_alloc_new w _
  have H := hide h
  clear h
  go_enter Tryd.func20, Tryd.ntmps20
  go_wp2
  go_ret
  exact ⟨rfl, H.out, (Below.refl _ _).alloc (Nat.le_refl _) _, by simp⟩

theorem rwrong_any (w : World) (b : Nat) (E c : Int) (R : List UInt8) (h : RAt 79 w b R (.int .i64 E)) :
    Calls Tryd.prog 57 #[.pointer (some ⟨b, 0, none⟩), .int .i64 c] w fun e w' => e = .returned (.tuple #[]) ∧ RAt 79 w' b R (.int .i64 (wrongE E c)) ∧ Kept (fun j => j = b) w w' := by
  have H := hide h
  obtain ⟨h0, h1, f0, f1⟩ := h.cell
  clear h
  by_cases hE : E = 0
  · subst hE
    have e : wrongE 0 c = c := by simp [wrongE]
    rw [e]
    go_enter Tryd.func57, Tryd.ntmps57
    go_wp2
    go_end0
    exact ⟨rfl, H.out.set1, kept_one _ _ _ _⟩
  · have e : wrongE E c = E := by simp [wrongE, hE]
    have hb : (E == 0) = false := by simpa using hE
    rw [e]
    clear hE
    go_enter Tryd.func57, Tryd.ntmps57
    go_wp2
    go_end0
    exact ⟨rfl, H.out, Kept.refl _ _⟩

theorem fold_ge (l : List UInt8) (a : Nat) : a * 256 ^ l.length ≤ l.foldl (fun a b => a * 256 + b.toNat) a := by
  induction l generalizing a with
  | nil => simp
  | cons b l ih =>
    have h1 := ih (a * 256 + b.toNat)
    have h3 : (a * 256) * 256 ^ l.length ≤ (a * 256 + b.toNat) * 256 ^ l.length := Nat.mul_le_mul_right _ (by omega)
    rw [List.foldl_cons, List.length_cons, Nat.pow_succ, Nat.mul_comm (256 ^ l.length) 256, ← Nat.mul_assoc]
    exact Nat.le_trans h3 h1
theorem said_cons (b : UInt8) (l : List UInt8) : b.toNat * 256 ^ l.length ≤ said (b :: l) ∧ said (b :: l) < (b.toNat + 1) * 256 ^ l.length := by
  have e : said (b :: l) = l.foldl (fun a b => a * 256 + b.toNat) b.toNat := by simp [said]
  rw [e]
  exact ⟨fold_ge l _, fold_lt l _⟩
theorem said_first (s : ByteArray) (h : 0 < s.size) (k : Nat) (hk : 0 < k) (hk2 : k ≤ s.size) : s[0].toNat * 256 ^ (k - 1) ≤ said (s.data.toList.take k) ∧ said (s.data.toList.take k) < (s[0].toNat + 1) * 256 ^ (k - 1) := by
  obtain ⟨d⟩ := s
  obtain ⟨l⟩ := d
  cases l with
  | nil => simp [ByteArray.size] at h
  | cons b l =>
    obtain ⟨m, rfl⟩ : ∃ m, k = m + 1 := ⟨k - 1, by omega⟩
    have h2 : m ≤ l.length := by simp [ByteArray.size] at hk2; omega
    have hs := said_cons b (l.take m)
    rw [List.length_take, Nat.min_eq_left h2] at hs
    exact hs
theorem said_big (s : ByteArray) (h : s.size = 8) (h0 : 127 < (s[0]'(by omega)).toNat) : 9223372036854775808 ≤ said s.data.toList := by
  have hs := (said_first s (by omega) 8 (by omega) (by omega)).1
  rw [List.take_of_length_le (by simp; omega)] at hs
  have : 128 * 256 ^ (8 - 1) ≤ (s[0]'(by omega)).toNat * 256 ^ (8 - 1) := Nat.mul_le_mul_right _ h0
  omega
theorem said_small (s : ByteArray) (h : s.size ≤ 8) (h0 : ∀ h8 : s.size = 8, (s[0]'(by omega)).toNat ≤ 127) (k : Nat) (hk : k < s.size) : said (s.data.toList.take k) < 36028797018963968 := by
  by_cases h8 : s.size = 8
  · by_cases hk0 : k = 0
    · subst hk0; simp [said]
    · have hs := (said_first s (by omega) k (by omega) (by omega)).2
      have h1 : ((s[0]'(by omega)).toNat + 1) * 256 ^ (k - 1) ≤ 128 * 256 ^ 6 := Nat.mul_le_mul (by have := h0 h8; omega) (Nat.pow_le_pow_right (by decide) (by omega))
      have : (128 : Nat) * 256 ^ 6 = 36028797018963968 := by decide
      omega
  · have hs := said_take_lt s k
    have : 256 ^ k ≤ 256 ^ 6 := Nat.pow_le_pow_right (by decide) (by omega)
    have h6 : (256 : Nat) ^ 6 = 281474976710656 := by decide
    omega
theorem wrapB (b : Nat) (hb : b < 256) : wrap64 (b : Int) = b := by unfold wrap64; omega

set_option maxRecDepth 100000 in
set_option maxHeartbeats 1000000 in
theorem said_no (s : ByteArray) (h : s.size = 8) (hp : 0 < s.size) (h0 : 127 < (s[0]'hp).toNat) (w : World) :
    Calls Tryd.prog 58 #[.string s] w fun e w' => e = .returned (.tuple #[.int .i64 0, .bool false]) ∧ w' = w := by
  have hsz : ((s.size : Int) == 8) = true := by simp [h]
  have h0' : (127 : Int) < ((s[0]'hp).toNat : Int) := by omega
  clear h
  go_enter Tryd.func58, Tryd.ntmps58
  go_wp2
  go_ret2
  exact ⟨rfl, rfl⟩
set_option maxRecDepth 100000 in
set_option maxHeartbeats 1000000 in
theorem said_loop8 (s : ByteArray) (h : s.size = 8) (hp : 0 < s.size) (h0 : (s[0]'hp).toNat ≤ 127) (w : World) :
    Calls Tryd.prog 58 #[.string s] w fun e w' => e = .returned (.tuple #[.int .i64 (said s.data.toList), .bool true]) ∧ w' = w := by
  have hsz : ((s.size : Int) == 8) = true := by simp [h]
  have hle : s.size ≤ 8 := by omega
  have h0' : ((s[0]'hp).toNat : Int) ≤ 127 := by omega
  have HS : Hid (∀ k, k < s.size → said (s.data.toList.take k) < 36028797018963968) := fun k hk => said_small s (by omega) (fun _ => h0) k hk
  have HW : Hid (s.data.toList.take s.size = s.data.toList) := List.take_of_length_le (by simp)
  clear h
  go_enter Tryd.func58, Tryd.ntmps58
  go_wp2
  go_loop [4, 5] (fun t i => ∃ k V : Nat, k ≤ s.size ∧ i = .int .i64 k ∧ Hid (V = said (s.data.toList.take k)) ∧ t = .int .i64 V) (fun _ i => s.size - (intOf i).toNat)
  case atStart => exact ⟨0, 0, Nat.zero_le _, rfl, by simp [Hid, said], rfl⟩
  case round =>
    obtain ⟨k, V, hk, rfl, hV, rfl⟩ := hrel
    by_cases hlt : k < s.size
    · have hVl : V < 36028797018963968 := by rw [hV.out]; exact HS.out k hlt
      have hn : Hid (V * 256 + s[k].toNat = said (s.data.toList.take (k + 1))) := by rw [said_take_succ s k hlt, ← hV.out]; rfl
      have hb := wrapB s[k].toNat (s[k].toNat_lt)
      have hb2 : s[k].toNat < 256 := s[k].toNat_lt
      go_wp2
      go_round
      case rel => exact ⟨k + 1, V * 256 + s[k].toNat, by omega, by go_num, hn.out, by go_num⟩
      case measure => simp [intOf]; omega
    · have hks : k = s.size := by omega
      subst hks
      go_wp2
      go_ret2
      exact ⟨by rw [hV.out, HW.out]; rfl, rfl⟩
set_option maxRecDepth 100000 in
set_option maxHeartbeats 1000000 in
theorem said_loop (s : ByteArray) (h : s.size < 8) (w : World) :
    Calls Tryd.prog 58 #[.string s] w fun e w' => e = .returned (.tuple #[.int .i64 (said s.data.toList), .bool true]) ∧ w' = w := by
  have hsz : ((s.size : Int) == 8) = false := by rw [beq_eq_false_iff_ne]; omega
  have HS : Hid (∀ k, k < s.size → said (s.data.toList.take k) < 36028797018963968) := fun k hk => said_small s (by omega) (fun h8 => absurd h8 (by omega)) k hk
  have HW : Hid (s.data.toList.take s.size = s.data.toList) := List.take_of_length_le (by simp)
  go_enter Tryd.func58, Tryd.ntmps58
  go_wp2
  go_loop [4, 5] (fun t i => ∃ k V : Nat, k ≤ s.size ∧ i = .int .i64 k ∧ Hid (V = said (s.data.toList.take k)) ∧ t = .int .i64 V) (fun _ i => s.size - (intOf i).toNat)
  case atStart => exact ⟨0, 0, Nat.zero_le _, rfl, by simp [Hid, said], rfl⟩
  case round =>
    obtain ⟨k, V, hk, rfl, hV, rfl⟩ := hrel
    by_cases hlt : k < s.size
    · have hVl : V < 36028797018963968 := by rw [hV.out]; exact HS.out k hlt
      have hn : Hid (V * 256 + s[k].toNat = said (s.data.toList.take (k + 1))) := by rw [said_take_succ s k hlt, ← hV.out]; rfl
      have hb := wrapB s[k].toNat (s[k].toNat_lt)
      have hb2 : s[k].toNat < 256 := s[k].toNat_lt
      go_wp2
      go_round
      case rel => exact ⟨k + 1, V * 256 + s[k].toNat, by omega, by go_num, hn.out, by go_num⟩
      case measure => simp [intOf]; omega
    · have hks : k = s.size := by omega
      subst hks
      go_wp2
      go_ret2
      exact ⟨by rw [hV.out, HW.out]; rfl, rfl⟩
/-- What bytes say, by the document. -/
theorem said_any (s : ByteArray) (h : s.size ≤ 8) (w : World) :
    Calls Tryd.prog 58 #[.string s] w fun e w' => e = .returned (.tuple #[.int .i64 ((if said s.data.toList < 9223372036854775808 then said s.data.toList else 0 : Nat) : Int), .bool (decide (said s.data.toList < 9223372036854775808))]) ∧ w' = w := by
  by_cases h8 : s.size = 8
  · by_cases h0 : 127 < (s[0]'(by omega)).toNat
    · have hb := said_big s h8 h0
      rw [if_neg (by omega), decide_eq_false (by omega)]
      exact said_no s h8 (by omega) h0 w
    · have hs := (said_first s (by omega) 8 (by omega) (by omega)).2
      rw [List.take_of_length_le (by simp; omega)] at hs
      have : ((s[0]'(by omega)).toNat + 1) * 256 ^ (8 - 1) ≤ 128 * 256 ^ (8 - 1) := Nat.mul_le_mul_right _ (by omega)
      rw [if_pos (by omega), decide_eq_true (by omega)]
      exact said_loop8 s h8 (by omega) (by omega) w
  · have hs := said_lt s.data.toList
    have : 256 ^ s.data.toList.length ≤ 256 ^ 7 := Nat.pow_le_pow_right (by decide) (by simp; omega)
    have h7 : (256 : Nat) ^ 7 = 72057594037927936 := by decide
    rw [if_pos (by omega), decide_eq_true (by omega)]
    exact said_loop s (by omega) w
end Go.Proofs.YtonoobjpafhogaaDoor
