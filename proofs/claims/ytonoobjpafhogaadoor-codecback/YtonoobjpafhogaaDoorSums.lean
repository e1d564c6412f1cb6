/-
  codec.Sum and the document's Sum, each by its contract: the check of the bytes. No condition but that a string is no longer than an int can say.
-/
import Derived.Test.YtonoobjpafhogaaDoorProg
import Derived.Test.YtonoobjpafhogaaDoorCrc
import Derived.WalkKit
import Derived.WalkLawsBesides
import Derived.Laws.BitsAll
import Derived.Below
namespace Go.Proofs.YtonoobjpafhogaaDoor
open Go.RowKit

theorem and1 (X : Nat) (hX : X < 4294967296) : bits .and .u32 (X : Int) 1 = ((X % 2 : Nat) : Int) := by
  have := u32_and_nat X 1 hX (by decide)
  rw [nat_mask1] at this; exact this
theorem xorP (X : Nat) (hX : X < 4294967296) : bits .xor .u32 ((X : Int) / 2) 3988292384 = ((X / 2 ^^^ 3988292384 : Nat) : Int) := by
  have := u32_xor_nat (X / 2) 3988292384 (by omega) (by decide)
  rw [← this]; congr 1
theorem half_odd (X : Nat) (h : X % 2 = 1) : Crc.half X = X / 2 ^^^ 3988292384 := by simp [Crc.half, h]
theorem half_even (X : Nat) (h : X % 2 = 0) : Crc.half X = X / 2 := by simp [Crc.half, h]

set_option maxHeartbeats 1000000 in
theorem sumByte_any (x b : Nat) (hx : x < 4294967296) (hb : b < 256) (w : World) :
    Calls Tryd.prog 36 #[.int .u32 x, .int .u8 b] w fun e w' => e = .returned (.int .u32 (Crc.byte x b : Nat)) ∧ w' = w := by
  have h0 : bits .xor .u32 (x : Int) (b : Int) = ((x ^^^ b : Nat) : Int) := u32_xor_nat x b hx (by omega)
  have hlt : x ^^^ b < 4294967296 := Nat.xor_lt_two_pow (n := 32) (by omega) (by omega)
  go_enter Tryd.func36, Tryd.ntmps36
  go_wp2
  clear h0
  go_loop [0, 10] (fun t i => ∃ k X : Nat, k ≤ 8 ∧ i = .int .i64 k ∧ Hid (X = Crc.steps k (x ^^^ b)) ∧ X < 4294967296 ∧ t = .int .u32 X) (fun _ i => 8 - (intOf i).toNat)
  case atStart => exact ⟨0, _, by omega, rfl, rfl, hlt, rfl⟩
  case round =>
    obtain ⟨k, X, hk, rfl, hX, hXl, rfl⟩ := hrel
    have h1 := and1 X hXl
    have h2 := xorP X hXl
    have hn : Hid (Crc.half X = Crc.steps (k + 1) (x ^^^ b)) := by rw [hX.out, Crc.steps_succ]; rfl
    have hl : Hid (Crc.half X < 4294967296) := Crc.half_lt X hXl
    by_cases hlt8 : k < 8
    · rcases Nat.mod_two_eq_zero_or_one X with ho | ho
      · have hb0 : (((X % 2 : Nat) : Int) != 0) = false := by rw [ho]; rfl
        have ho' : Hid (X % 2 = 0) := ho
        clear ho
        go_wp2
        go_round
        case rel => exact ⟨k + 1, X / 2, by omega, by go_num, by rw [← hn.out, half_even X ho'.out]; rfl, by omega, by go_num⟩
        case measure => simp [intOf]; omega
      · have hb0 : (((X % 2 : Nat) : Int) != 0) = true := by rw [ho]; rfl
        have ho' : Hid (X % 2 = 1) := ho
        clear ho
        go_wp2
        go_round
        case rel => exact ⟨k + 1, X / 2 ^^^ 3988292384, by omega, by go_num, by rw [← hn.out, half_odd X ho'.out]; rfl, by rw [← half_odd X ho'.out]; exact hl.out, rfl⟩
        case measure => simp [intOf]; omega
    · have h8 : k = 8 := by omega
      subst h8
      go_wp2
      go_ret
      exact ⟨by rw [hX.out]; rfl, rfl⟩

/-- The bytes of a string as numbers. -/
def nats (s : ByteArray) : List Nat := s.data.toList.map (·.toNat)
theorem nats_lt (s : ByteArray) : ∀ b ∈ nats s, b < 256 := by
  intro b hb
  obtain ⟨c, _, rfl⟩ := List.mem_map.1 hb
  exact c.toNat_lt
theorem nats_length (s : ByteArray) : (nats s).length = s.size := by simp [nats]
theorem nats_take_succ (s : ByteArray) (k : Nat) (h : k < s.size) : (nats s).take (k + 1) = (nats s).take k ++ [s[k].toNat] := by
  rw [List.take_succ_eq_append_getElem (by simpa [nats] using h)]
  simp [nats]; rfl
theorem run_take_succ (x : Nat) (s : ByteArray) (k : Nat) (h : k < s.size) : Crc.run x ((nats s).take (k + 1)) = Crc.byte (Crc.run x ((nats s).take k)) s[k].toNat := by
  rw [nats_take_succ s k h, Crc.run_append]; rfl
theorem run_take_lt (s : ByteArray) (k : Nat) : Crc.run 4294967295 ((nats s).take k) < 4294967296 :=
  Crc.run_lt _ _ (by decide) (fun b hb => nats_lt s b (List.mem_of_mem_take hb))
theorem sum_of_run (s : ByteArray) (X : Nat) (h : X = Crc.run 4294967295 ((nats s).take s.size)) : X ^^^ 4294967295 = Crc.sum (nats s) := by
  rw [h, List.take_of_length_le (by rw [nats_length]; exact Nat.le_refl _)]; rfl

theorem notX (X : Nat) (hX : X < 4294967296) : bits .xor .u32 4294967295 (X : Int) = ((X ^^^ 4294967295 : Nat) : Int) := by
  rw [Nat.xor_comm]; exact u32_xor_nat 4294967295 X (by decide) hX
theorem notX' (X : Nat) (hX : X < 4294967296) : bits .xor .u32 (X : Int) 4294967295 = ((X ^^^ 4294967295 : Nat) : Int) :=
  u32_xor_nat X 4294967295 hX (by decide)
theorem xorBm (X b : Nat) (hX : X < 4294967296) (hb : b < 256) : bits .xor .u32 (X : Int) ((b : Int) % 4294967296) = ((X ^^^ b : Nat) : Int) := by
  rw [show ((b : Int) % 4294967296) = b from by omega]; exact u32_xor_nat X b hX (by omega)
theorem xor_lt (X b : Nat) (hX : X < 4294967296) (hb : b < 256) : X ^^^ b < 4294967296 :=
  Nat.xor_lt_two_pow (n := 32) (by omega) (by omega)

set_option maxHeartbeats 1000000 in
theorem sum_any (s : ByteArray) (hs : s.size ≤ maxLen) (w : World) :
    Calls Tryd.prog 10 #[.string s] w fun e w' => e = .returned (.int .u32 (Crc.sum (nats s) : Nat)) ∧ w' = w := by
  unfold maxLen at hs
  go_enter Tryd.func10, Tryd.ntmps10
  go_wp2
  go_loop [3, 7] (fun t i => ∃ k X : Nat, k ≤ s.size ∧ i = .int .i64 k ∧ Hid (X = Crc.run 4294967295 ((nats s).take k)) ∧ X < 4294967296 ∧ t = .int .u32 X) (fun _ i => s.size - (intOf i).toNat)
  case atStart => exact ⟨0, 4294967295, Nat.zero_le _, rfl, by simp [Hid, Crc.run_nil], by decide, rfl⟩
  case round =>
    obtain ⟨k, X, hk, rfl, hX, hXl, rfl⟩ := hrel
    by_cases hlt : k < s.size
    · have hn : Hid (Crc.byte X s[k].toNat = Crc.run 4294967295 ((nats s).take (k + 1))) := by rw [hX.out, run_take_succ _ s k hlt]; rfl
      have hl : Hid (Crc.byte X s[k].toNat < 4294967296) := Crc.byte_lt _ _ hXl (s[k].toNat_lt)
      go_wp2_with (go_at_call 36; refine (sumByte_any X s[k].toNat hXl (s[k].toNat_lt) _).mono ?_; rintro e w' ⟨rfl, rfl⟩)
      go_round
      case rel => exact ⟨k + 1, _, by omega, by go_num, hn.out, hl.out, rfl⟩
      case measure => simp [intOf]; omega
    · have h8 : k = s.size := by omega
      subst h8
      have hsg : IntKind.u32.signed = false := rfl
      have hmx : IntKind.u32.max = 4294967295 := rfl
      have hnot := notX X hXl
      have hfin : Hid (X ^^^ 4294967295 = Crc.sum (nats s)) := sum_of_run s X hX.out
      go_wp2
      go_ret
      exact ⟨by rw [← hfin.out]; rfl, rfl⟩

set_option maxHeartbeats 1000000 in
theorem refSum_any (s : ByteArray) (hs : s.size ≤ maxLen) (w : World) :
    Calls Tryd.prog 11 #[.string s] w fun e w' => e = .returned (.int .u32 (Crc.sum (nats s) : Nat)) ∧ w' = w := by
  unfold maxLen at hs
  go_enter Tryd.func11, Tryd.ntmps11
  go_wp2
  go_loop [3, 4] (fun t i => ∃ k X : Nat, k ≤ s.size ∧ i = .int .i64 k ∧ Hid (X = Crc.run 4294967295 ((nats s).take k)) ∧ X < 4294967296 ∧ t = .int .u32 X) (fun _ i => s.size - (intOf i).toNat)
  case atStart => exact ⟨0, 4294967295, Nat.zero_le _, rfl, by simp [Hid, Crc.run_nil], by decide, rfl⟩
  case round =>
    obtain ⟨k, X, hk, rfl, hX, hXl, rfl⟩ := hrel
    by_cases hlt : k < s.size
    · have hn : Hid (Crc.byte X s[k].toNat = Crc.run 4294967295 ((nats s).take (k + 1))) := by rw [hX.out, run_take_succ _ s k hlt]; rfl
      have hl : Hid (Crc.byte X s[k].toNat < 4294967296) := Crc.byte_lt _ _ hXl (s[k].toNat_lt)
      have h0 := xorBm X s[k].toNat hXl (s[k].toNat_lt)
      have hx0 : Hid (X ^^^ s[k].toNat < 4294967296) := xor_lt X s[k].toNat hXl (s[k].toNat_lt)
      go_wp2
      clear h0
      go_loop [3, 5] (fun t i => ∃ m Y : Nat, m ≤ 8 ∧ i = .int .i64 m ∧ Hid (Y = Crc.steps m (X ^^^ s[k].toNat)) ∧ Y < 4294967296 ∧ t = .int .u32 Y) (fun _ i => 8 - (intOf i).toNat)
      case atStart => exact ⟨0, _, by omega, rfl, rfl, hx0.out, rfl⟩
      case round =>
        obtain ⟨m, Y, hm, rfl, hY, hYl, rfl⟩ := hrel
        have h2 := xorP Y hYl
        have hny : Hid (Crc.half Y = Crc.steps (m + 1) (X ^^^ s[k].toNat)) := by rw [hY.out, Crc.steps_succ]; rfl
        have hly : Hid (Crc.half Y < 4294967296) := Crc.half_lt Y hYl
        by_cases hlt8 : m < 8
        · rcases Nat.mod_two_eq_zero_or_one Y with ho | ho
          · have hb0 : ((Y : Int) % 2 == 1) = false := by rw [beq_eq_false_iff_ne]; omega
            have ho' : Hid (Y % 2 = 0) := ho
            clear ho
            go_wp2
            go_round
            case rel => exact ⟨m + 1, Y / 2, by omega, by go_num, by rw [← hny.out, half_even Y ho'.out]; rfl, by omega, by go_num⟩
            case measure => simp [intOf]; omega
          · have hb0 : ((Y : Int) % 2 == 1) = true := by rw [beq_iff_eq]; omega
            have ho' : Hid (Y % 2 = 1) := ho
            clear ho
            go_wp2
            go_round
            case rel => exact ⟨m + 1, Y / 2 ^^^ 3988292384, by omega, by go_num, by rw [← hny.out, half_odd Y ho'.out]; rfl, by rw [← half_odd Y ho'.out]; exact hly.out, rfl⟩
            case measure => simp [intOf]; omega
        · have h8 : m = 8 := by omega
          subst h8
          have hYe : Hid (Y = Crc.byte X s[k].toNat) := hY.out
          go_wp2
          go_round
          case rel => exact ⟨k + 1, Y, by omega, by go_num, hYe.out.trans hn.out, hYl, rfl⟩
          case measure => simp [intOf]; omega
    · have h8 : k = s.size := by omega
      subst h8
      have hnot := notX' X hXl
      have hfin : Hid (X ^^^ 4294967295 = Crc.sum (nats s)) := sum_of_run s X hX.out
      go_wp2
      go_ret
      exact ⟨by rw [← hfin.out]; rfl, rfl⟩
end Go.Proofs.YtonoobjpafhogaaDoor
