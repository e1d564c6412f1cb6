/-
  CodecTurned, walked: of any string, any place and any pattern it answers true; nothing that was there has turned. Conditions: the numbers are ints; the cell of errors.errorType holds the handle of 'error'.
-/
import Derived.Test.YtonoobjpafhogaaDoorAwake
import Derived.Test.YtonoobjpafhogaaDoorScript
import Derived.Lib.ConvBytes
import Derived.BigRegion
import Derived.Laws.BytesArg
import Derived.Laws.BitsAll
namespace Go.Proofs.YtonoobjpafhogaaDoor
open Go.RowKit

/-- Bytes in a row of the call's own. -/
structure Bt (wr : World) (B : Nat) (l : List Nat) : Prop where
  cell : ∀ j, j < l.length → wr.cell? ⟨B, j, none⟩ = some (.int .u8 ((l.getD j 0 : Nat) : Int))
  free : ∀ j, j < l.length → wr.frozen? ⟨B, j, none⟩ = false

theorem i64_and_nat (a b : Nat) (ha : a < 9223372036854775808) (hb : b < 9223372036854775808) : bits .and .i64 (a : Int) (b : Int) = ((a &&& b : Nat) : Int) := by
  have hx : a &&& b ≤ a := Nat.and_le_left
  have e : bits .and .i64 (a : Int) (b : Int) = IntKind.i64.wrap ((BitVec.ofInt 64 (a : Int) &&& BitVec.ofInt 64 (b : Int)).toNat : Int) := rfl
  rw [e, BitVec.toNat_and, ofInt_u64 a (by omega), ofInt_u64 b (by omega), IntKind.wrap_i64]
  omega
theorem and_bit (P k : Nat) (hP : P < 4294967296) : bits .and .i64 ((1 + (P : Int)) / 2 ^ k) 1 = (((1 + P) / 2 ^ k % 2 : Nat) : Int) := by
  have e : (1 + (P : Int)) / 2 ^ k = (((1 + P) / 2 ^ k : Nat) : Int) := by
    rw [Int.natCast_ediv, Int.natCast_add, Int.natCast_pow]; rfl
  have hl : (1 + P) / 2 ^ k ≤ 1 + P := Nat.div_le_self _ _
  rw [e]
  have h := i64_and_nat ((1 + P) / 2 ^ k) 1 (by omega) (by decide)
  rw [nat_mask1] at h
  exact h
theorem xor8 (b m : Nat) (hb : b < 256) (hm : m < 8) : bits .xor .u8 (b : Int) (2 ^ m % 256) = ((b ^^^ 2 ^ m : Nat) : Int) := by
  have h2 : 2 ^ m < 256 := Nat.lt_of_le_of_lt (Nat.pow_le_pow_right (by decide) (show m ≤ 7 by omega)) (by decide)
  have e : ((2 : Int) ^ m % 256) = ((2 ^ m : Nat) : Int) := by
    have e2 : ((2 ^ m : Nat) : Int) = (2 : Int) ^ m := by simp
    rw [← e2]
    exact Int.emod_eq_of_lt (Int.natCast_nonneg _) (Int.ofNat_lt.2 h2)
  rw [e]
  exact u8_xor_nat b (2 ^ m) hb h2
theorem mod_step (T k : Nat) : T % 2 ^ (k + 1) = (T % 2 ^ k) ^^^ (if T / 2 ^ k % 2 = 1 then 2 ^ k else 0) := by
  apply Nat.eq_of_testBit_eq
  intro i
  rw [Nat.testBit_xor, Nat.testBit_mod_two_pow, Nat.testBit_mod_two_pow]
  have hbit : (T / 2 ^ k % 2 = 1) ↔ T.testBit k = true := by
    rw [Nat.testBit_eq_decide_div_mod_eq]
    simp
  by_cases hb : T.testBit k = true
  · rw [if_pos (hbit.2 hb), Nat.testBit_two_pow]
    by_cases h1 : i < k
    · simp [h1, show i < k + 1 by omega, show ¬ k = i by omega]
    · by_cases h2 : k = i
      · subst h2
        simp [hb]
      · simp [h1, h2, show ¬ i < k + 1 by omega]
  · rw [if_neg (fun h => hb (hbit.1 h))]
    by_cases h1 : i < k
    · simp [h1, show i < k + 1 by omega]
    · by_cases h2 : k = i
      · subst h2
        simp at hb
        simp [hb]
      · simp [h1, show ¬ i < k + 1 by omega]
theorem shift_xor (a b K : Nat) : (a ^^^ b) * 2 ^ K = a * 2 ^ K ^^^ b * 2 ^ K := by
  rw [← Nat.shiftLeft_eq, ← Nat.shiftLeft_eq, ← Nat.shiftLeft_eq, Nat.shiftLeft_xor_distrib]
theorem step_zero (T k K : Nat) (h : T / 2 ^ k % 2 = 0) : T % 2 ^ (k + 1) * 2 ^ K = T % 2 ^ k * 2 ^ K := by
  rw [mod_step, if_neg (by omega)]
  simp
theorem step_one (T k K : Nat) (h : T / 2 ^ k % 2 = 1) : T % 2 ^ (k + 1) * 2 ^ K = T % 2 ^ k * 2 ^ K ^^^ 2 ^ (K + k) := by
  rw [mod_step, if_pos h, shift_xor, ← Nat.pow_add, Nat.add_comm k K]

/-- What the loop keeps. -/
structure Tn (s : ByteArray) (N B P K : Nat) (w wr : World) (k : Nat) (l : List Nat) : Prop where
  bt : Bt wr B l
  len : l.length = s.size
  lt : ∀ b ∈ l, b < 256
  eq : Crc.le l = Crc.le (nats s) ^^^ (((1 + P) % 2 ^ k) * 2 ^ K)
  below : Below N w wr
theorem Tn.skip {s : ByteArray} {N B P K : Nat} {w wr : World} {k : Nat} {l : List Nat} (h : Tn s N B P K w wr k l) (h0 : (1 + P) / 2 ^ k % 2 = 0) : Tn s N B P K w wr (k + 1) l :=
  ⟨h.bt, h.len, h.lt, by rw [step_zero _ _ _ h0]; exact h.eq, h.below⟩
theorem getD_mem {l : List Nat} {j : Nat} (h : j < l.length) : l.getD j 0 ∈ l := by
  rw [List.getD_eq_getElem?_getD, List.getElem?_eq_getElem h]; exact List.getElem_mem h
theorem Tn.turn {s : ByteArray} {N B P K : Nat} {w wr : World} {k : Nat} {l : List Nat} (h : Tn s N B P K w wr k l) (h1 : (1 + P) / 2 ^ k % 2 = 1) (j m : Nat) (hj : j < s.size) (hm : m < 8) (he : 8 * j + m = K + k) (hN : N ≤ B) :
    Tn s N B P K w (wr.setCell ⟨B, j, none⟩ (.int .u8 ((l.getD j 0 ^^^ 2 ^ m : Nat) : Int))).drew (k + 1) (l.set j (l.getD j 0 ^^^ 2 ^ m)) := by
  have hjl : j < l.length := by rw [h.len]; exact hj
  have h2 : 2 ^ m < 256 := Nat.lt_of_le_of_lt (Nat.pow_le_pow_right (by decide) (show m ≤ 7 by omega)) (by decide)
  refine ⟨⟨fun i hi => ?_, fun i hi => ?_⟩, by rw [List.length_set]; exact h.len, fun b hb => ?_, ?_, (h.below.setCell (p := ⟨B, j, none⟩) hN _).drew⟩
  · rw [List.length_set] at hi
    show (wr.setCell ⟨B, j, none⟩ _).cell? ⟨B, i, none⟩ = _
    by_cases hij : i = j
    · subst hij
      rw [World.cell?_setCell_same' _ _ _ (by rw [h.bt.cell i hi]; rfl)]
      simp [List.getD_eq_getElem?_getD, hjl]
    · have ho : (wr.setCell ⟨B, j, none⟩ (.int .u8 ((l.getD j 0 ^^^ 2 ^ m : Nat) : Int))).cell? ⟨B, i, none⟩ = wr.cell? ⟨B, i, none⟩ := by
        apply World.cell?_setCell_other
        intro e
        injection e
        omega
      rw [ho, h.bt.cell i hi]
      simp [List.getD_eq_getElem?_getD, Ne.symm hij]
  · rw [List.length_set] at hi
    show (wr.setCell ⟨B, j, none⟩ _).frozen? ⟨B, i, none⟩ = _
    rw [World.frozen?_setCell]
    exact h.bt.free i hi
  · rcases List.mem_or_eq_of_mem_set hb with hb | hb
    · exact h.lt b hb
    · rw [hb]
      exact Nat.xor_lt_two_pow (n := 8) (h.lt _ (getD_mem hjl)) h2
  · rw [Crc.le_set l j m hjl, h.eq, step_one _ _ _ h1, he, Nat.xor_assoc]
/-- The text that was turned has another check. -/
theorem Tn.sum {s : ByteArray} {N B P K : Nat} {w wr : World} {l : List Nat} (h : Tn s N B P K w wr 32 l) (hP : P < 4294967295) (hK : K + 32 ≤ 8 * s.size) : Crc.sum l ≠ Crc.sum (nats s) := by
  refine Crc.turned (nats s) l K (1 + P) (by rw [h.len, nats_length]) (by rw [nats_length]; omega) (by omega) (by omega) ?_
  rw [h.eq, Nat.mod_eq_of_lt (show 1 + P < 2 ^ 32 by omega)]
theorem nats_nums (l : List Nat) (h : ∀ b ∈ l, b < 256) : nats (strOfNums (l.map fun b : Nat => (b : Int))) = l := by
  unfold nats strOfNums
  simp only [List.map_map]
  conv => rhs; rw [← List.map_id l]
  apply List.map_congr_left
  intro b hb
  simp only [Function.comp, Int.toNat_natCast, UInt8.toNat_ofNat', id]
  exact Nat.mod_eq_of_lt (h b hb)
theorem Tn.conv {s : ByteArray} {N B P K cap : Nat} {w wr : World} {k : Nat} {l : List Nat} (h : Tn s N B P K w wr k l) :
    (convert 65 9 (.slice (some ⟨B, 0, none⟩) s.size cap)).run Tryd.prog wr = .ok (.string (strOfNums (l.map fun b : Nat => (b : Int)))) wr := by
  refine run_convert_bytes_arg wr 65 5 Tryd.underlying65 Tryd.underlying5 B 0 s.size cap (l.map fun b : Nat => (b : Int)) (by simp [h.len]) (fun i hi => ?_) 9 Tryd.underlying9
  rw [Nat.zero_add, h.bt.cell i (by rw [h.len]; exact hi)]
  have hi' : i < l.length := by rw [h.len]; exact hi
  simp [List.getD_eq_getElem?_getD, hi']
theorem Tn.start {s : ByteArray} {w w1 : World} {P K : Nat} (hb : Below w.heap.size w w1) : Tn s w.heap.size w1.heap.size P K w (Lib.bytesWorld w1 5 s) 0 (nats s) := by
  refine ⟨⟨fun j hj => ?_, fun j hj => ?_⟩, nats_length s, nats_lt s, by simp [Nat.mod_one], ?_⟩
  · rw [nats_length] at hj
    rw [Lib.bytesWorld_cell w1 5 s j hj]
    simp [nats, List.getD_eq_getElem?_getD, hj]
  · rw [nats_length] at hj
    have hn := Lib.bytesWorld_at_new w1 5 s
    have hsz : j < (Lib.bytesCells w1 5 s).size := by simp [Lib.bytesCells]; omega
    simp [World.frozen?, hn]
    omega
  · refine hb.trans ⟨rfl, rfl, rfl, by rw [Lib.bytesWorld_size]; omega, fun i hi => Lib.bytesWorld_at_old w1 5 s i (by have := hb.size; omega)⟩

set_option maxRecDepth 100000 in
set_option maxHeartbeats 2000000 in
theorem turned_walk (s : ByteArray) (at' pat : Int) (w : World) (h4 : 4 ≤ s.size) (h24 : s.size ≤ 16777216) (ha : -9223372036854775808 ≤ at' ∧ at' ≤ 9223372036854775807) (hp : -9223372036854775808 ≤ pat ∧ pat ≤ 9223372036854775807) (hg : HG w) :
    Calls Tryd.prog 8 #[.string s, .int .i64 at', .int .i64 pat] w fun e w' => e = .returned (.bool true) ∧ Below w.heap.size w w' := by
  have HGG := hide hg
  clear hg
  go_enter Tryd.func8, Tryd.ntmps8
  go_wp2_with fail
  refine (awake_any _ HGG.out).mono ?_
  rintro e w1 ⟨rfl, hb⟩
  have HB := hide hb
  clear hb
  have hcv := Lib.run_convert_string_bytes (P := Tryd.prog) w1 9 65 5 s Tryd.underlying9 Tryd.underlying65 Tryd.underlying5
  go_wp2_with fail
  refine (pick_any at' (8 * (s.size : Int) - 31) ha.1 ha.2 (by omega) (by omega) _).mono ?_
  rintro e w2 ⟨rfl, h2⟩
  subst h2
  go_wp2_with fail
  refine (pick_any pat 4294967295 hp.1 hp.2 (by decide) (by decide) _).mono ?_
  rintro e w2 ⟨rfl, h2⟩
  obtain ⟨K, hK, hKl⟩ : ∃ K : Nat, pickI at' (8 * (s.size : Int) - 31) = K ∧ K + 32 ≤ 8 * s.size := by
    have h1 : 0 ≤ pickI at' (8 * (s.size : Int) - 31) := Int.emod_nonneg _ (by omega)
    have h2 : pickI at' (8 * (s.size : Int) - 31) < 8 * (s.size : Int) - 31 := Int.emod_lt_of_pos _ (by omega)
    exact ⟨(pickI at' (8 * (s.size : Int) - 31)).toNat, by omega, by omega⟩
  obtain ⟨P, hP, hPl⟩ : ∃ P : Nat, pickI pat 4294967295 = P ∧ P < 4294967295 := by
    have h1 : 0 ≤ pickI pat 4294967295 := Int.emod_nonneg _ (by decide)
    have h2 : pickI pat 4294967295 < 4294967295 := Int.emod_lt_of_pos _ (by decide)
    exact ⟨(pickI pat 4294967295).toNat, by omega, by omega⟩
  rw [hK, hP]
  clear hK hP
  have M := hide (Tn.start (s := s) (P := P) (K := K) HB.out)
  generalize Lib.bytesWorld w1 5 s = W at h2 M hcv
  subst h2
  have hBN : Hid (w.heap.size ≤ w1.heap.size) := HB.out.size
  clear hcv
  go_wp2
  go_loopw [11] (fun i wr => ∃ (k : Nat) (l : List Nat), k ≤ 32 ∧ i = .int .i64 k ∧ Hid (Tn s w.heap.size w1.heap.size P K w wr k l)) (fun i _ => 32 - (intOf i).toNat)
  case atStart => exact ⟨0, nats s, by omega, rfl, M.out⟩
  case round =>
    obtain ⟨k, l, hk, rfl, hst⟩ := hrel
    by_cases hlt : k < 32
    · have hand := and_bit P k (by omega)
      rcases Nat.mod_two_eq_zero_or_one ((1 + P) / 2 ^ k) with ho | ho
      · have hb0 : ((((1 + P) / 2 ^ k % 2 : Nat) : Int) == 1) = false := by rw [ho]; rfl
        go_wp2
        go_roundw
        case rel => exact ⟨k + 1, l, by omega, by go_num, hst.out.skip ho⟩
        case measure => simp [intOf]; omega
      · have hb0 : ((((1 + P) / 2 ^ k % 2 : Nat) : Int) == 1) = true := by rw [ho]; rfl
        obtain ⟨j, hj⟩ : ∃ j : Nat, ((K : Int) + (k : Int)) / 8 = (j : Int) := ⟨(K + k) / 8, by omega⟩
        obtain ⟨m, hm⟩ : ∃ m : Nat, ((K : Int) + (k : Int)) % 8 = (m : Int) := ⟨(K + k) % 8, by omega⟩
        have hjl : j < s.size := by omega
        have hm8 : m < 8 := by omega
        have hc := hst.out.bt.cell j (by rw [hst.out.len]; exact hjl)
        have hf := hst.out.bt.free j (by rw [hst.out.len]; exact hjl)
        have hjI : (j : Int) < (s.size : Int) := by omega
        have hX := xor8 (l.getD j 0) m (hst.out.lt _ (getD_mem (by rw [hst.out.len]; exact hjl))) hm8
        have HN := hide (hst.out.turn ho j m hjl hm8 (by omega) hBN.out)
        generalize l.getD j 0 = c at hc hX HN
        have HC := hide hc
        go_wp2
        go_region
        go_wp2
        go_roundw
        case rel => exact ⟨k + 1, _, by omega, by go_num, HN.out⟩
        case measure => simp [intOf]; omega
    · have hk32 : k = 32 := by omega
      subst hk32
      have hcv := hst.out.conv (cap := grownCap w1 s.size 0 5)
      have hne := hst.out.sum hPl hKl
      have HNN := hide (nats_nums l hst.out.lt)
      have hsz : (strOfNums (l.map fun b : Nat => (b : Int))).size ≤ maxLen := by rw [strOfNums_size, List.length_map, hst.out.len]; unfold maxLen; omega
      have hneI : (((Crc.sum l : Nat) : Int) != ((Crc.sum (nats s) : Nat) : Int)) = true := by rw [bne_iff_ne]; omega
      have hssz : s.size ≤ maxLen := by unfold maxLen; omega
      generalize strOfNums (l.map fun b : Nat => (b : Int)) = S2 at hcv HNN hsz
      clear hne
      go_wp2_with fail
      refine (sum_any S2 hsz _).mono ?_
      rintro e w5 ⟨rfl, h5⟩
      subst h5
      rw [HNN.out]
      go_wp2_with fail
      refine (sum_any s hssz _).mono ?_
      rintro e w6 ⟨rfl, h6⟩
      subst h6
      go_wp2
      go_ret
      exact ⟨rfl, hst.out.below⟩

set_option maxRecDepth 100000 in
theorem codecTurned_any (s : ByteArray) (at' pat : Int) (w : World) (hs : s.size ≤ 140737488351232) (ha : -9223372036854775808 ≤ at' ∧ at' ≤ 9223372036854775807) (hp : -9223372036854775808 ≤ pat ∧ pat ≤ 9223372036854775807) (hg : HG w) :
    Calls Tryd.prog 8 #[.string s, .int .i64 at', .int .i64 pat] w fun e w' => e = .returned (.bool true) ∧ Below w.heap.size w w' := by
  by_cases h4 : s.size < 4
  · have HGG := hide hg
    clear hg
    go_enter Tryd.func8, Tryd.ntmps8
    go_wp2_with fail
    refine (awake_any _ HGG.out).mono ?_
    rintro e w1 ⟨rfl, hb⟩
    have HB := hide hb
    clear hb
    go_wp2
    go_ret
    exact ⟨rfl, HB.out⟩
  · by_cases h24 : 16777216 < s.size
    · have HGG := hide hg
      clear hg
      go_enter Tryd.func8, Tryd.ntmps8
      go_wp2_with fail
      refine (awake_any _ HGG.out).mono ?_
      rintro e w1 ⟨rfl, hb⟩
      have HB := hide hb
      clear hb
      go_wp2
      go_ret
      exact ⟨rfl, HB.out⟩
    · exact turned_walk s at' pat w (by omega) (by omega) ha hp hg
end Go.Proofs.YtonoobjpafhogaaDoor
