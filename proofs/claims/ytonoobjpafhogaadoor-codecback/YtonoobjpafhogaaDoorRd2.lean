/-
  The codec's Reader by its contracts: NewReader, Num, Text, Raw, Left, Done. Conditions: the numbers are ints; a string is no longer than 2^47; for Done behind an error: the cell of errors.errorType holds the handle of 'error'.
-/
import Derived.Test.YtonoobjpafhogaaDoorRd1
import Derived.Test.YtonoobjpafhogaaDoorWr
namespace Go.Proofs.YtonoobjpafhogaaDoor
open Go.RowKit

theorem firstNumber_any (s : ByteArray) (hs : s.size ≤ 140737488355328) (n : Int) (w : World) :
    Calls Tryd.prog 47 #[.string s, .int .i64 n] w fun e w' => e = .returned (.tuple #[.int .i64 (rnumV s.data.toList n), errOf (rnumC s.data.toList n)]) ∧ w' = w := by
  have hl : s.data.toList.length = s.size := by simp
  by_cases h : n < 1 ∨ 8 < n
  · have hc : rnumC s.data.toList n = 10 := by simp only [rnumC, if_pos h]
    have hv : rnumV s.data.toList n = 0 := by rw [rnumV, if_neg (by rw [hc]; decide)]
    rw [hc, hv]
    exact firstNumber_size s n h w
  · by_cases h2 : (s.size : Int) < n
    · have hc : rnumC s.data.toList n = 12 := by simp only [rnumC, if_neg h, hl, if_pos h2]
      have hv : rnumV s.data.toList n = 0 := by rw [rnumV, if_neg (by rw [hc]; decide)]
      rw [hc, hv]
      exact firstNumber_short s hs n (by omega) (by omega) h2 w
    · obtain ⟨m, rfl⟩ := Int.eq_ofNat_of_zero_le (show 0 ≤ n by omega)
      exact firstNumber_yes s hs m (by omega) (by omega) (by omega) w

set_option maxRecDepth 100000 in
theorem firstNumber16_short (s : ByteArray) (h : (s.size : Int) < 2) (w : World) :
    Calls Tryd.prog 64 #[.string s, .int .i64 2] w fun e w' => e = .returned (.tuple #[.int .u16 0, .iface 98 (.agg #[.int .i64 12])]) ∧ w' = w := by
  go_enter Tryd.func64, Tryd.ntmps64
  go_wp2_with (go_at_call 60; refine (sizeRight_yes _ (by omega) (by omega) _).mono ?_; rintro e w' ⟨rfl, rfl⟩)
  go_ret2
  exact ⟨rfl, rfl⟩
set_option maxRecDepth 100000 in
set_option maxHeartbeats 1000000 in
theorem firstNumber16_yes (s : ByteArray) (hs : s.size ≤ 140737488355328) (h : 2 ≤ s.size) (w : World) :
    Calls Tryd.prog 64 #[.string s, .int .i64 2] w fun e w' => e = .returned (.tuple #[.int .u16 (said (s.data.toList.take 2)), .nilIface]) ∧ w' = w := by
  go_enter Tryd.func64, Tryd.ntmps64
  go_wp2_with (go_at_call 60; refine (sizeRight_yes _ (by omega) (by omega) _).mono ?_; rintro e w' ⟨rfl, rfl⟩)
  go_loop [6, 21] (fun t i => ∃ k V : Nat, k ≤ 2 ∧ i = .int .i64 k ∧ Hid (V = said (s.data.toList.take k)) ∧ t = .int .u64 V) (fun _ i => 2 - (intOf i).toNat)
  case atStart => exact ⟨0, 0, Nat.zero_le _, rfl, by simp [Hid, said], rfl⟩
  case round =>
    obtain ⟨k, V, hk, rfl, hV, rfl⟩ := hrel
    by_cases hlt : k < 2
    · have hVl : V < 72057594037927936 := by rw [hV.out]; exact Nat.lt_of_lt_of_le (said_take_lt s k) (pow_7 k (by omega))
      have hks : k < s.size := by omega
      have hn : Hid (V * 256 + s[k].toNat = said (s.data.toList.take (k + 1))) := by rw [said_take_succ s k hks, ← hV.out]; rfl
      have hwr := wrapb s[k].toNat (s[k].toNat_lt)
      have hor := or64 V s[k].toNat hVl (s[k].toNat_lt)
      go_wp2
      go_round
      case rel => exact ⟨k + 1, V * 256 + s[k].toNat, by omega, by go_num, hn.out, by go_num⟩
      case measure => simp [intOf]; omega
    · have hkn : k = 2 := by omega
      subst hkn
      have hVl : V < 65536 := by rw [hV.out]; exact said_take_lt s 2
      go_wp2_with (go_at_call 70; refine (fits16 V hVl _).mono ?_; rintro e w' ⟨rfl, rfl⟩)
      go_ret2
      exact ⟨by rw [← hV.out]; rfl, rfl⟩

/-- A text taken: the error, and it. -/
def rtextC (R : List UInt8) (most : Int) : Int :=
  if R.length < 2 then 12 else if most < said (R.take 2) then 11 else if R.length - 2 < said (R.take 2) then 12 else 0
def rtextS (R : List UInt8) (most : Int) : List UInt8 := if rtextC R most = 0 then (R.drop 2).take (said (R.take 2)) else []

theorem ret_se {a b : ByteArray} {c d : Value} (h : a = b) (h' : c = d) : Ending.returned (.tuple #[.string a, c]) = .returned (.tuple #[.string b, d]) := by rw [h, h']
theorem said2_lt (R : List UInt8) : said (R.take 2) < 65536 := by
  have h1 := said_lt (R.take 2)
  have h2 : (R.take 2).length ≤ 2 := List.length_take_le _ _
  exact Nat.lt_of_lt_of_le h1 (Nat.pow_le_pow_right (n := 256) (by decide) h2)
theorem rtext_short {R : List UInt8} {most : Int} (h : R.length < 2) : rtextC R most = 12 ∧ rtextS R most = [] := by
  have hc : rtextC R most = 12 := by simp only [rtextC, if_pos h]
  exact ⟨hc, by rw [rtextS, if_neg (by rw [hc]; decide)]⟩
theorem rtext_long {R : List UInt8} {most : Int} (h : 2 ≤ R.length) (h2 : most < said (R.take 2)) : rtextC R most = 11 ∧ rtextS R most = [] := by
  have hc : rtextC R most = 11 := by rw [rtextC, if_neg (by omega), if_pos h2]
  exact ⟨hc, by rw [rtextS, if_neg (by rw [hc]; decide)]⟩
theorem rtext_raw {R : List UInt8} {most : Int} (h : 2 ≤ R.length) (h2 : ¬ most < said (R.take 2)) : rtextC R most = rawC (R.drop 2) (said (R.take 2) : Nat) ∧ rtextS R most = rawS (R.drop 2) (said (R.take 2) : Nat) := by
  have hl : (R.drop 2).length = R.length - 2 := List.length_drop
  by_cases h3 : R.length - 2 < said (R.take 2)
  · have hc : rtextC R most = 12 := by rw [rtextC, if_neg (by omega), if_neg h2, if_pos h3]
    refine ⟨by rw [hc, rawC, if_neg (by omega), if_pos (by rw [hl]; omega)], ?_⟩
    rw [rtextS, if_neg (by rw [hc]; decide), rawS, if_neg (by omega), if_pos (by rw [hl]; omega)]
  · have hc : rtextC R most = 0 := by rw [rtextC, if_neg (by omega), if_neg h2, if_neg h3]
    refine ⟨by rw [hc, rawC, if_neg (by omega), if_neg (by rw [hl]; omega)], ?_⟩
    rw [rtextS, if_pos hc, rawS, if_neg (by omega), if_neg (by rw [hl]; omega), Int.toNat_natCast]

set_option maxRecDepth 100000 in
set_option maxHeartbeats 1000000 in
theorem firstText_any (s : ByteArray) (hs : s.size ≤ 140737488355328) (most : Int) (w : World) :
    Calls Tryd.prog 53 #[.string s, .int .i64 most] w fun e w' => e = .returned (.tuple #[.string (str (rtextS s.data.toList most)), errOf (rtextC s.data.toList most)]) ∧ Below w.heap.size w w' := by
  have hl : s.data.toList.length = s.size := by simp
  by_cases h : s.size < 2
  · have HE := hide (rtext_short (R := s.data.toList) (most := most) (by omega))
    clear hl
    go_enter Tryd.func53, Tryd.ntmps53
    go_wp2_with (go_at_call 64; refine (firstNumber16_short s (by omega) _).mono ?_; rintro e w' ⟨rfl, rfl⟩)
    go_ret2
    exact ⟨by rw [HE.out.1, HE.out.2]; rfl, Below.refl _ _⟩
  · have h2 := said2_lt s.data.toList
    obtain ⟨V, hV⟩ : ∃ V, V = said (s.data.toList.take 2) := ⟨_, rfl⟩
    rw [← hV] at h2
    by_cases h3 : most < (V : Int)
    · have HE := hide (rtext_long (R := s.data.toList) (most := most) (by omega) (by rw [← hV]; exact h3))
      have HV := hide hV
      clear hl hV
      go_enter Tryd.func53, Tryd.ntmps53
      go_wp2_with (go_at_call 64; refine (firstNumber16_yes s hs (by omega) _).mono ?_; rintro e w' ⟨rfl, rfl⟩; rw [← HV.out])
      go_ret2
      exact ⟨by rw [HE.out.1, HE.out.2]; rfl, Below.refl _ _⟩
    · have HE := hide (rtext_raw (R := s.data.toList) (most := most) (by omega) (by rw [← hV]; exact h3))
      rw [← hV] at HE
      have HV := hide hV
      have hsz : (s.extract 2 s.size).size ≤ 140737488355328 := by simp; omega
      clear hl hV
      have HT : Hid (List.take (s.size - 2) (List.drop 2 s.data.toList) = List.drop 2 s.data.toList) := List.take_of_length_le (by simp)
      go_enter Tryd.func53, Tryd.ntmps53
      go_wp2_with (first | (go_at_call 64; refine (firstNumber16_yes s hs (by omega) _).mono ?_; rintro e w' ⟨rfl, rfl⟩; rw [← HV.out]) | (go_at_call 49; refine (firstBytes_any _ V hsz _).mono ?_; rintro e w' ⟨rfl, hb⟩))
      go_ret2
      exact ⟨by rw [HE.out.1, HE.out.2, HT.out]; rfl, hb⟩

/-- A Reader at block b: what is left, and its second field. -/
def RAt (T : TypeId) (w : World) (b : Nat) (R : List UInt8) (x : Value) : Prop := w.heap[b]? = some (.cells #[.string (str R), x] T (0, 0))
theorem RAt.cell {T : TypeId} {w : World} {b : Nat} {R : List UInt8} {x : Value} (h : RAt T w b R x) :
    w.cell? ⟨b, 0, none⟩ = some (.string (str R)) ∧ w.cell? ⟨b, 1, none⟩ = some x ∧ w.frozen? ⟨b, 0, none⟩ = false ∧ w.frozen? ⟨b, 1, none⟩ = false := by
  refine ⟨?_, ?_, ?_, ?_⟩
  · rw [cell_of_row w b 0 _ _ _ h]; rfl
  · rw [cell_of_row w b 1 _ _ _ h]; rfl
  · exact frozen_of_row w b 0 _ _ h
  · exact frozen_of_row w b 1 _ _ h
theorem RAt.lt {T : TypeId} {w : World} {b : Nat} {R : List UInt8} {x : Value} (h : RAt T w b R x) : b < w.heap.size := lt_of_block h
theorem RAt.kept {T : TypeId} {F : Nat → Prop} {w w' : World} {b : Nat} {R : List UInt8} {x : Value} (h : RAt T w b R x) (hk : Kept F w w') (hF : ¬ F b) : RAt T w' b R x := by
  unfold RAt
  rw [hk.block b h.lt hF]; exact h
theorem RAt.below {T : TypeId} {w w' : World} {b : Nat} {R : List UInt8} {x : Value} (h : RAt T w b R x) (hb : Below w.heap.size w w') : RAt T w' b R x :=
  h.kept (Kept.of_below (F := fun _ => False) hb) (fun h => h)
theorem RAt.set0 {T : TypeId} {w : World} {b : Nat} {R R' : List UInt8} {x : Value} (h : RAt T w b R x) : RAt T (w.setCell ⟨b, 0, none⟩ (.string (str R'))) b R' x := block_setCell h 0 _
theorem RAt.set1 {T : TypeId} {w : World} {b : Nat} {R : List UInt8} {x y : Value} (h : RAt T w b R x) : RAt T (w.setCell ⟨b, 1, none⟩ y) b R y := block_setCell h 1 _
theorem str_of (s : ByteArray) : str s.data.toList = s := by simp [str]
theorem exists_str (R : List UInt8) : ∃ s : ByteArray, str R = s ∧ R = s.data.toList := ⟨str R, rfl, (str_toList R).symm⟩

theorem newReader_any (s : ByteArray) (w : World) :
    Calls Tryd.prog 19 #[.string s] w fun e w' => e = .returned (.pointer (some ⟨w.heap.size, 0, none⟩)) ∧ RAt 77 w' w.heap.size s.data.toList (errOf 0) ∧ Below w.heap.size w w' ∧ w'.heap.size = w.heap.size + 1 := by
  have h : RAt 77 (w.alloc (.cells #[.string s, .nilIface] 77)) w.heap.size s.data.toList (errOf 0) := by
    unfold RAt
    rw [str_of]
    exact heap_alloc_new w _
  have H := hide h
  clear h
  go_enter Tryd.func19, Tryd.ntmps19
  go_wp2
  go_ret
  exact ⟨rfl, H.out, (Below.refl _ _).alloc (Nat.le_refl _) _, by simp⟩

/-- What is behind a take of k bytes, or of the error c. -/
def takeP (E : Int) (R : List UInt8) (k : Nat) (c : Int) : Int × List UInt8 × Bool :=
  if E ≠ 0 then (E, [], false) else if c ≠ 0 then (c, [], false) else (0, R.drop k, true)

theorem kept_two (w : World) (b i j : Nat) (u v : Value) : Kept (fun k => k = b) w ((w.setCell ⟨b, i, none⟩ u).setCell ⟨b, j, none⟩ v) :=
  ((Kept.refl (fun k => k = b) w).setCell (p := ⟨b, i, none⟩) rfl u).setCell (p := ⟨b, j, none⟩) rfl v
theorem kept_one (w : World) (b i : Nat) (u : Value) : Kept (fun k => k = b) w (w.setCell ⟨b, i, none⟩ u) :=
  (Kept.refl (fun k => k = b) w).setCell (p := ⟨b, i, none⟩) rfl u

set_option maxHeartbeats 1000000 in
theorem take_any (w : World) (b : Nat) (E c : Int) (R : List UInt8) (k : Nat) (hk : c = 0 → k ≤ R.length) (hR : R.length ≤ 140737488355328) (h : RAt 77 w b R (errOf E)) (n : Int) (hn : c = 0 → n = k) :
    Calls Tryd.prog 48 #[.pointer (some ⟨b, 0, none⟩), .int .i64 n, errOf c] w fun e w' => e = .returned (.bool (takeP E R k c).2.2) ∧ RAt 77 w' b (takeP E R k c).2.1 (errOf (takeP E R k c).1) ∧ Kept (fun j => j = b) w w' := by
  obtain ⟨h0, h1, f0, f1⟩ := h.cell
  have H := hide h
  clear h
  by_cases hE : E = 0
  · subst hE
    by_cases hc : c = 0
    · subst hc
      obtain rfl := hn rfl
      have hkk := hk rfl
      have e : takeP 0 R k 0 = (0, R.drop k, true) := by simp [takeP]
      rw [e]
      obtain ⟨s, hs1, hs2⟩ := exists_str R
      have hl : R.length = s.size := by rw [hs2]; simp
      have HX : Hid (s.extract k s.size = str (R.drop k)) := by rw [hs2]; exact extract_back s k
      rw [hs1] at h0
      rw [errOf_zero] at h1 H ⊢
      have hks : k ≤ s.size := by omega
      have hsz : s.size ≤ 140737488355328 := by omega
      clear e hk hn hs1 hs2 hl hkk hR
      go_enter Tryd.func48, Tryd.ntmps48
      go_wp2
      go_ret
      rw [HX.out]
      exact ⟨rfl, H.out.set1.set0, kept_two _ _ _ _ _ _⟩
    · have e : takeP 0 R k c = (c, [], false) := by simp [takeP, hc]
      rw [e, errOf_ne hc]
      rw [errOf_zero] at h1 H
      clear e hk hn hc
      go_enter Tryd.func48, Tryd.ntmps48
      go_wp2
      go_ret
      exact ⟨rfl, H.out.set1.set0 (R' := []), kept_two _ _ _ _ _ _⟩
  · have e : takeP E R k c = (E, [], false) := by simp [takeP, hE]
    rw [e, errOf_ne hE]
    rw [errOf_ne hE] at h1 H
    clear e hk hn hE
    go_enter Tryd.func48, Tryd.ntmps48
    go_wp2
    go_ret
    exact ⟨rfl, H.out.set0 (R' := []), kept_one _ _ _ _⟩

/-- What a Reader's Num, Raw and Text answer, and what is behind them. -/
def rNum (E : Int) (R : List UInt8) (n : Int) : Nat × Int × List UInt8 :=
  (if (takeP E R n.toNat (rnumC R n)).2.2 then rnumV R n else 0, (takeP E R n.toNat (rnumC R n)).1, (takeP E R n.toNat (rnumC R n)).2.1)
def rRaw (E : Int) (R : List UInt8) (n : Int) : List UInt8 × Int × List UInt8 :=
  (if (takeP E R n.toNat (rawC R n)).2.2 then rawS R n else [], (takeP E R n.toNat (rawC R n)).1, (takeP E R n.toNat (rawC R n)).2.1)
def rText (E : Int) (R : List UInt8) (most : Int) : List UInt8 × Int × List UInt8 :=
  (if (takeP E R (2 + (rtextS R most).length) (rtextC R most)).2.2 then rtextS R most else [], (takeP E R (2 + (rtextS R most).length) (rtextC R most)).1, (takeP E R (2 + (rtextS R most).length) (rtextC R most)).2.1)

theorem rnumC_zero {R : List UInt8} {n : Int} (h : rnumC R n = 0) : 1 ≤ n ∧ n ≤ 8 ∧ n ≤ R.length := by
  unfold rnumC at h
  split at h
  · cases h
  · split at h
    · cases h
    · omega
theorem rawC_zero {R : List UInt8} {n : Int} (h : rawC R n = 0) : 0 ≤ n ∧ n ≤ R.length := by
  unfold rawC at h
  split at h
  · cases h
  · split at h
    · cases h
    · omega
theorem rtextC_zero {R : List UInt8} {n : Int} (h : rtextC R n = 0) : 2 + (rtextS R n).length ≤ R.length ∧ (rtextS R n).length = said (R.take 2) ∧ (said (R.take 2) : Int) ≤ n := by
  have h' := h
  unfold rtextC at h
  split at h
  · cases h
  · split at h
    · cases h
    · split at h
      · cases h
      · rw [rtextS, if_pos h', List.length_take, List.length_drop]
        omega
theorem rtextS_length (R : List UInt8) (n : Int) : (rtextS R n).length ≤ R.length := by
  unfold rtextS
  split
  · rw [List.length_take, List.length_drop]; omega
  · simp
theorem ret_i {a b : Int} (h : a = b) : Ending.returned (.int .i64 a) = .returned (.int .i64 b) := by rw [h]
theorem ret_s {a b : ByteArray} (h : a = b) : Ending.returned (.string a) = .returned (.string b) := by rw [h]

set_option maxHeartbeats 1000000 in
theorem rNum_any (w : World) (b : Nat) (E : Int) (R : List UInt8) (n : Int) (hR : R.length ≤ 140737488355328) (h : RAt 77 w b R (errOf E)) :
    Calls Tryd.prog 30 #[.pointer (some ⟨b, 0, none⟩), .int .i64 n] w fun e w' => e = .returned (.int .i64 (rNum E R n).1) ∧ RAt 77 w' b (rNum E R n).2.2 (errOf (rNum E R n).2.1) ∧ Kept (fun j => j = b) w w' := by
  obtain ⟨s, hs1, hs2⟩ := exists_str R
  have hl : R.length = s.size := by rw [hs2]; simp
  obtain ⟨h0, h1, f0, f1⟩ := h.cell
  rw [hs1] at h0
  have H := hide h
  have HN : Hid (rNum E R n = (if (takeP E R n.toNat (rnumC R n)).2.2 then rnumV R n else 0, (takeP E R n.toNat (rnumC R n)).1, (takeP E R n.toNat (rnumC R n)).2.1)) := rfl
  have hsz : s.size ≤ 140737488355328 := by omega
  have HS := hide hs2
  clear h hs1 hs2 hl h1 f0 f1
  go_enter Tryd.func30, Tryd.ntmps30
  go_wp2_with fail
  refine (firstNumber_any s hsz n _).mono ?_
  rintro e w1 ⟨rfl, hw1⟩
  subst hw1
  rw [← HS.out]
  go_wp2_with fail
  refine (take_any _ b E (rnumC R n) R n.toNat (fun hc => by have := rnumC_zero hc; omega) hR H.out n (fun hc => by have := rnumC_zero hc; omega)).mono ?_
  rintro e w2 ⟨rfl, h2, k2⟩
  have H2 := hide h2
  have K2 := hide k2
  clear h2 k2
  generalize hT : takeP E R n.toNat (rnumC R n) = T at H2 HN
  obtain ⟨E', R', ok⟩ := T
  have HT := hide hT
  clear hT
  cases ok
  · go_wp2
    go_ret
    rw [HN.out]
    exact ⟨rfl, H2.out, K2.out⟩
  · go_wp2
    go_ret
    rw [HN.out]
    exact ⟨rfl, H2.out, K2.out⟩

set_option maxHeartbeats 1000000 in
theorem rRaw_any (w : World) (b : Nat) (E : Int) (R : List UInt8) (n : Int) (hR : R.length ≤ 140737488355328) (h : RAt 77 w b R (errOf E)) :
    Calls Tryd.prog 31 #[.pointer (some ⟨b, 0, none⟩), .int .i64 n] w fun e w' => e = .returned (.string (str (rRaw E R n).1)) ∧ RAt 77 w' b (rRaw E R n).2.2 (errOf (rRaw E R n).2.1) ∧ Kept (fun j => j = b) w w' := by
  obtain ⟨s, hs1, hs2⟩ := exists_str R
  have hl : R.length = s.size := by rw [hs2]; simp
  obtain ⟨h0, h1, f0, f1⟩ := h.cell
  rw [hs1] at h0
  have H := hide h
  have HN : Hid (rRaw E R n = (if (takeP E R n.toNat (rawC R n)).2.2 then rawS R n else [], (takeP E R n.toNat (rawC R n)).1, (takeP E R n.toNat (rawC R n)).2.1)) := rfl
  have hsz : s.size ≤ 140737488355328 := by omega
  have HS := hide hs2
  clear h hs1 hs2 hl h1 f0 f1
  go_enter Tryd.func31, Tryd.ntmps31
  go_wp2_with fail
  refine (firstBytes_any s n hsz _).mono ?_
  rintro e w1 ⟨rfl, hb1⟩
  have HB := hide hb1
  clear hb1
  rw [← HS.out]
  go_wp2_with fail
  refine (take_any _ b E (rawC R n) R n.toNat (fun hc => by have := rawC_zero hc; omega) hR (H.out.below HB.out) n (fun hc => by have := rawC_zero hc; omega)).mono ?_
  rintro e w2 ⟨rfl, h2, k2⟩
  have H2 := hide h2
  have K2 := hide ((Kept.of_below HB.out).trans k2)
  clear h2 k2
  generalize hT : takeP E R n.toNat (rawC R n) = T at H2 HN
  obtain ⟨E', R', ok⟩ := T
  have HT := hide hT
  clear hT
  cases ok
  · go_wp2
    go_ret
    rw [HN.out]
    exact ⟨rfl, H2.out, K2.out⟩
  · go_wp2
    go_ret
    rw [HN.out]
    exact ⟨rfl, H2.out, K2.out⟩

set_option maxHeartbeats 1000000 in
theorem rText_any (w : World) (b : Nat) (E : Int) (R : List UInt8) (n : Int) (hR : R.length ≤ 140737488355328) (h : RAt 77 w b R (errOf E)) :
    Calls Tryd.prog 35 #[.pointer (some ⟨b, 0, none⟩), .int .i64 n] w fun e w' => e = .returned (.string (str (rText E R n).1)) ∧ RAt 77 w' b (rText E R n).2.2 (errOf (rText E R n).2.1) ∧ Kept (fun j => j = b) w w' := by
  obtain ⟨s, hs1, hs2⟩ := exists_str R
  have hl : R.length = s.size := by rw [hs2]; simp
  obtain ⟨h0, h1, f0, f1⟩ := h.cell
  rw [hs1] at h0
  have H := hide h
  have HN : Hid (rText E R n = (if (takeP E R (2 + (rtextS R n).length) (rtextC R n)).2.2 then rtextS R n else [], (takeP E R (2 + (rtextS R n).length) (rtextC R n)).1, (takeP E R (2 + (rtextS R n).length) (rtextC R n)).2.1)) := rfl
  have hsz : s.size ≤ 140737488355328 := by omega
  have HS := hide hs2
  have hts := rtextS_length R n
  have htsz : (str (rtextS R n)).size = (rtextS R n).length := str_size _
  clear h hs1 hs2 hl h1 f0 f1
  go_enter Tryd.func35, Tryd.ntmps35
  go_wp2_with fail
  refine (firstText_any s hsz n _).mono ?_
  rintro e w1 ⟨rfl, hb1⟩
  have HB := hide hb1
  clear hb1
  rw [← HS.out]
  go_wp2_with fail
  refine (take_any _ b E (rtextC R n) R (2 + (rtextS R n).length) (fun hc => by have := rtextC_zero hc; omega) hR (H.out.below HB.out) _ (fun hc => by have := rtextC_zero hc; omega)).mono ?_
  rintro e w2 ⟨rfl, h2, k2⟩
  have H2 := hide h2
  have K2 := hide ((Kept.of_below HB.out).trans k2)
  clear h2 k2
  generalize hT : takeP E R (2 + (rtextS R n).length) (rtextC R n) = T at H2 HN
  obtain ⟨E', R', ok⟩ := T
  have HT := hide hT
  clear hT
  cases ok
  · go_wp2
    go_ret
    rw [HN.out]
    exact ⟨rfl, H2.out, K2.out⟩
  · go_wp2
    go_ret
    rw [HN.out]
    exact ⟨rfl, H2.out, K2.out⟩

theorem rLeft_any (w : World) (b : Nat) (x : Value) (R : List UInt8) (h : RAt 77 w b R x) :
    Calls Tryd.prog 22 #[.pointer (some ⟨b, 0, none⟩)] w fun e w' => e = .returned (.int .i64 R.length) ∧ w' = w := by
  obtain ⟨h0, h1, f0, f1⟩ := h.cell
  have hl : (str R).size = R.length := str_size R
  clear h h1 f0 f1
  go_enter Tryd.func22, Tryd.ntmps22
  go_wp2
  go_ret
  exact ⟨rfl, rfl⟩

/-- Done of a Reader. -/
def rDone (E : Int) (R : List UInt8) : Int := if E = 0 ∧ 0 < R.length then 13 else E
theorem rDone_any (w : World) (b : Nat) (E : Int) (R : List UInt8) (hg : HG w) (h : RAt 77 w b R (errOf E)) :
    Calls Tryd.prog 24 #[.pointer (some ⟨b, 0, none⟩)] w fun e w' => e = .returned (.int .i64 (rDone E R)) ∧ Below w.heap.size w w' := by
  obtain ⟨h0, h1, f0, f1⟩ := h.cell
  have hl : (str R).size = R.length := str_size R
  have HGG := hide hg
  clear h f0 f1 hg
  by_cases hE : E = 0
  · subst hE
    rw [errOf_zero] at h1
    by_cases hr : 0 < R.length
    · have e : rDone 0 R = 13 := by simp only [rDone, hr, and_self, if_true]
      rw [e]
      clear e
      go_enter Tryd.func24, Tryd.ntmps24
      go_wp2
      go_ret
      exact ⟨rfl, Below.refl _ _⟩
    · have e : rDone 0 R = 0 := by simp only [rDone, hr, and_false, if_false]
      rw [e]
      clear e
      go_enter Tryd.func24, Tryd.ntmps24
      go_wp2_with (go_at_call 44; refine (codeOf_nil _).mono ?_; rintro e w' ⟨rfl, hb⟩)
      go_ret
      exact ⟨rfl, hb⟩
  · rw [errOf_ne hE] at h1
    have e : rDone E R = E := by simp only [rDone, hE, false_and, if_false]
    rw [e]
    clear e hE
    go_enter Tryd.func24, Tryd.ntmps24
    go_wp2_with (go_at_call 44; refine (codeOf_fault E _ HGG.out).mono ?_; rintro e w' ⟨rfl, hb⟩)
    go_ret
    exact ⟨rfl, hb⟩
end Go.Proofs.YtonoobjpafhogaaDoor
