/-
  The document's Reader by its contracts, going on: Num, Text, Raw, Left, Done. Conditions: the numbers are ints; a string is no longer than 2^47.
-/
import Derived.Test.YtonoobjpafhogaaDoorRefR
namespace Go.Proofs.YtonoobjpafhogaaDoor
open Go.RowKit

/-- What is behind a take of the document's Reader. -/
def refTakeP (E : Int) (R : List UInt8) (k : Nat) (c : Int) : Int × List UInt8 × Bool :=
  if E ≠ 0 then (E, R, false) else if c ≠ 0 then (c, R, false) else (0, R.drop k, true)
theorem refTake_err {E c : Int} {R : List UInt8} {k : Nat} (hc : c ≠ 0) : refTakeP E R k c = (wrongE E c, R, false) := by
  unfold refTakeP wrongE
  by_cases hE : E = 0
  · simp [hE, hc]
  · simp [hE]
theorem refTake_kept {E c : Int} {R : List UInt8} {k : Nat} (hE : E ≠ 0) : refTakeP E R k c = (E, R, false) := by simp [refTakeP, hE]
theorem refTake_ok {R : List UInt8} {k : Nat} : refTakeP 0 R k 0 = (0, R.drop k, true) := by simp [refTakeP]
theorem wrongE_ne (E c : Int) (hc : c ≠ 0) : wrongE E c ≠ 0 := by unfold wrongE; split <;> assumption

theorem ext_toList (s : ByteArray) (m : Nat) : (s.extract 0 m).data.toList = s.data.toList.take m := by rw [extract_front, str_toList]
theorem said_ext_yes (s : ByteArray) (m V : Nat) (h8 : m ≤ 8) (hV : V = said (s.data.toList.take m)) (hl : V < 9223372036854775808) (w : World) :
    Calls Tryd.prog 58 #[.string (s.extract 0 m)] w fun e w' => e = .returned (.tuple #[.int .i64 V, .bool true]) ∧ w' = w := by
  refine (said_any (s.extract 0 m) (by simp; omega) w).mono ?_
  rintro e w' ⟨rfl, rfl⟩
  rw [ext_toList, ← hV, if_pos hl, decide_eq_true hl]
  exact ⟨rfl, rfl⟩
theorem said_ext_no (s : ByteArray) (m V : Nat) (h8 : m ≤ 8) (hV : V = said (s.data.toList.take m)) (hl : 9223372036854775808 ≤ V) (w : World) :
    Calls Tryd.prog 58 #[.string (s.extract 0 m)] w fun e w' => e = .returned (.tuple #[.int .i64 0, .bool false]) ∧ w' = w := by
  refine (said_any (s.extract 0 m) (by simp; omega) w).mono ?_
  rintro e w' ⟨rfl, rfl⟩
  rw [ext_toList, ← hV, if_neg (by omega), decide_eq_false (by omega)]
  exact ⟨rfl, rfl⟩

set_option maxRecDepth 100000 in
set_option maxHeartbeats 1000000 in
theorem refRNum_any (w : World) (b : Nat) (E : Int) (R : List UInt8) (n : Int) (hR : R.length ≤ 140737488355328) (h : RAt 79 w b R (.int .i64 E)) :
    Calls Tryd.prog 41 #[.pointer (some ⟨b, 0, none⟩), .int .i64 n] w fun e w' => e = .returned (.int .i64 ((if (refTakeP E R n.toNat (rnumC R n)).2.2 then rnumV R n else 0 : Nat) : Int)) ∧ RAt 79 w' b (refTakeP E R n.toNat (rnumC R n)).2.1 (.int .i64 (refTakeP E R n.toNat (rnumC R n)).1) ∧ Kept (fun j => j = b) w w' := by
  obtain ⟨s, hs1, hs2⟩ := exists_str R
  have hl : R.length = s.size := by rw [hs2]; simp
  obtain ⟨h0, h1, f0, f1⟩ := h.cell
  rw [hs1] at h0
  have H := hide h
  have HS := hide hs2
  have hsz : s.size ≤ 140737488355328 := by omega
  clear h hs1 hs2
  by_cases hn : n < 1 ∨ 8 < n
  · have hc : rnumC R n = 10 := by simp only [rnumC, if_pos hn]
    rw [hc, refTake_err (by decide)]
    clear hc hl hR
    by_cases hn1 : n < 1
    · go_enter Tryd.func41, Tryd.ntmps41
      go_wp2_with (go_at_call 57; refine (rwrong_any _ b E 10 R H.out).mono ?_; rintro e w1 ⟨rfl, x1, y1⟩; have X1 := hide x1; have Y1 := hide y1; clear x1 y1)
      go_ret
      exact ⟨rfl, X1.out, Y1.out⟩
    · have hn2 : 8 < n := by omega
      go_enter Tryd.func41, Tryd.ntmps41
      go_wp2_with (go_at_call 57; refine (rwrong_any _ b E 10 R H.out).mono ?_; rintro e w1 ⟨rfl, x1, y1⟩; have X1 := hide x1; have Y1 := hide y1; clear x1 y1)
      go_ret
      exact ⟨rfl, X1.out, Y1.out⟩
  · have hn1 : 1 ≤ n := by omega
    have hn2 : n ≤ 8 := by omega
    by_cases hsh : (s.size : Int) < n
    · have hc : rnumC R n = 12 := by simp only [rnumC, if_neg hn, hl, if_pos hsh]
      rw [hc, refTake_err (by decide)]
      clear hc hl hR hn
      go_enter Tryd.func41, Tryd.ntmps41
      go_wp2_with (go_at_call 57; refine (rwrong_any _ b E 12 R H.out).mono ?_; rintro e w1 ⟨rfl, x1, y1⟩; have X1 := hide x1; have Y1 := hide y1; clear x1 y1)
      go_ret
      exact ⟨rfl, X1.out, Y1.out⟩
    · obtain ⟨m, rfl⟩ := Int.eq_ofNat_of_zero_le (show 0 ≤ n by omega)
      have hm1 : 1 ≤ m := by omega
      have hm8 : m ≤ 8 := by omega
      have hms : m ≤ s.size := by omega
      obtain ⟨V, hV⟩ : ∃ V, V = said (s.data.toList.take m) := ⟨_, rfl⟩
      have HV := hide hV
      by_cases hbig : V < 9223372036854775808
      · obtain ⟨e1, e2⟩ := rnum_ok s m V hm1 hm8 hms hV hbig
        rw [← HS.out] at e1 e2
        rw [e1, e2, Int.toNat_natCast]
        by_cases hE : E = 0
        · subst hE
          rw [refTake_ok]
          have HX : Hid (s.extract m s.size = str (R.drop m)) := by rw [HS.out]; exact extract_back s m
          clear e1 e2 hl hR hn hV
          go_enter Tryd.func41, Tryd.ntmps41
          go_wp2_with (go_at_call 58; refine (said_ext_yes s m V hm8 HV.out hbig _).mono ?_; rintro e w1 ⟨rfl, hw1⟩; subst hw1)
          go_ret
          rw [HX.out]
          exact ⟨rfl, H.out.set0, kept_one _ _ _ _⟩
        · rw [refTake_kept hE]
          have hEb : (E != 0) = true := by simpa using hE
          clear e1 e2 hl hR hn hV hE
          go_enter Tryd.func41, Tryd.ntmps41
          go_wp2_with (go_at_call 58; refine (said_ext_yes s m V hm8 HV.out hbig _).mono ?_; rintro e w1 ⟨rfl, hw1⟩; subst hw1)
          go_ret
          exact ⟨rfl, H.out, Kept.refl _ _⟩
      · obtain ⟨e1, e2⟩ := rnum_big s m V hm1 hm8 hms hV (by omega)
        rw [← HS.out] at e1 e2
        rw [e2, refTake_err (by decide)]
        have hEb : (wrongE E 10 != 0) = true := by simpa using wrongE_ne E 10 (by decide)
        clear e1 e2 hl hR hn hV
        go_enter Tryd.func41, Tryd.ntmps41
        go_wp2_with (first | (go_at_call 58; refine (said_ext_no s m V hm8 HV.out (by omega) _).mono ?_; rintro e w1 ⟨rfl, hw1⟩; subst hw1) | (go_at_call 57; refine (rwrong_any _ b E 10 R H.out).mono ?_; rintro e w2 ⟨rfl, x1, y1⟩; have c1 := x1.cell.2.1; have X1 := hide x1; have Y1 := hide y1; clear x1 y1))
        go_ret
        exact ⟨rfl, X1.out, Y1.out⟩

set_option maxRecDepth 100000 in
set_option maxHeartbeats 1000000 in
theorem refRRaw_any (w : World) (b : Nat) (E : Int) (R : List UInt8) (n : Int) (hR : R.length ≤ 140737488355328) (h : RAt 79 w b R (.int .i64 E)) :
    Calls Tryd.prog 43 #[.pointer (some ⟨b, 0, none⟩), .int .i64 n] w fun e w' => e = .returned (.string (str (if (refTakeP E R n.toNat (rawC R n)).2.2 then rawS R n else []))) ∧ RAt 79 w' b (refTakeP E R n.toNat (rawC R n)).2.1 (.int .i64 (refTakeP E R n.toNat (rawC R n)).1) ∧ Kept (fun j => j = b) w w' := by
  obtain ⟨s, hs1, hs2⟩ := exists_str R
  have hl : R.length = s.size := by rw [hs2]; simp
  obtain ⟨h0, h1, f0, f1⟩ := h.cell
  rw [hs1] at h0
  have H := hide h
  have HS := hide hs2
  have hsz : s.size ≤ 140737488355328 := by omega
  clear h hs1 hs2
  by_cases hn : n < 0
  · have hc : rawC R n = 10 := by simp only [rawC, if_pos hn]
    rw [hc, refTake_err (by decide)]
    have hEb : (wrongE E 10 != 0) = true := by simpa using wrongE_ne E 10 (by decide)
    clear hc hl hR
    go_enter Tryd.func43, Tryd.ntmps43
    go_wp2_with (go_at_call 57; refine (rwrong_any _ b E 10 R H.out).mono ?_; rintro e w1 ⟨rfl, x1, y1⟩; have c1 := x1.cell.2.1; have X1 := hide x1; have Y1 := hide y1; clear x1 y1)
    go_ret
    exact ⟨rfl, X1.out, Y1.out⟩
  · by_cases hsh : (s.size : Int) < n
    · have hc : rawC R n = 12 := by simp only [rawC, if_neg hn, hl, if_pos hsh]
      rw [hc, refTake_err (by decide)]
      have hEb : (wrongE E 12 != 0) = true := by simpa using wrongE_ne E 12 (by decide)
      clear hc hl hR
      go_enter Tryd.func43, Tryd.ntmps43
      go_wp2_with (go_at_call 57; refine (rwrong_any _ b E 12 R H.out).mono ?_; rintro e w1 ⟨rfl, x1, y1⟩; have c1 := x1.cell.2.1; have X1 := hide x1; have Y1 := hide y1; clear x1 y1)
      go_ret
      exact ⟨rfl, X1.out, Y1.out⟩
    · obtain ⟨m, rfl⟩ := Int.eq_ofNat_of_zero_le (show 0 ≤ n by omega)
      have hms : m ≤ s.size := by omega
      have hc : rawC R (m : Int) = 0 := by simp only [rawC, if_neg hn, hl, if_neg hsh]
      have hv : rawS R (m : Int) = R.take m := by simp only [rawS, if_neg hn, hl, if_neg hsh, Int.toNat_natCast]
      rw [hc, hv, Int.toNat_natCast]
      by_cases hE : E = 0
      · subst hE
        rw [refTake_ok]
        have HX : Hid (s.extract m s.size = str (R.drop m)) := by rw [HS.out]; exact extract_back s m
        have HY : Hid (s.extract 0 m = str (R.take m)) := by rw [HS.out]; exact extract_front s m
        clear hc hv hl hR hn
        go_enter Tryd.func43, Tryd.ntmps43
        go_wp2
        go_ret
        rw [HX.out]
        exact ⟨ret_s HY.out, H.out.set0, kept_one _ _ _ _⟩
      · rw [refTake_kept hE]
        have hEb : (E != 0) = true := by simpa using hE
        clear hc hv hl hR hn hE
        go_enter Tryd.func43, Tryd.ntmps43
        go_wp2
        go_ret
        exact ⟨rfl, H.out, Kept.refl _ _⟩

set_option maxRecDepth 100000 in
set_option maxHeartbeats 2000000 in
theorem refRText_any (w : World) (b : Nat) (E : Int) (R : List UInt8) (n : Int) (hR : R.length ≤ 140737488355328) (h : RAt 79 w b R (.int .i64 E)) :
    Calls Tryd.prog 42 #[.pointer (some ⟨b, 0, none⟩), .int .i64 n] w fun e w' => e = .returned (.string (str (if (refTakeP E R (2 + (rtextS R n).length) (rtextC R n)).2.2 then rtextS R n else []))) ∧ RAt 79 w' b (refTakeP E R (2 + (rtextS R n).length) (rtextC R n)).2.1 (.int .i64 (refTakeP E R (2 + (rtextS R n).length) (rtextC R n)).1) ∧ Kept (fun j => j = b) w w' := by
  obtain ⟨s, hs1, hs2⟩ := exists_str R
  have hl : R.length = s.size := by rw [hs2]; simp
  obtain ⟨h0, h1, f0, f1⟩ := h.cell
  rw [hs1] at h0
  have H := hide h
  have HS := hide hs2
  have hsz : s.size ≤ 140737488355328 := by omega
  clear h hs1 hs2
  by_cases h2 : s.size < 2
  · obtain ⟨hc, _⟩ := rtext_short (R := R) (most := n) (by omega)
    rw [hc, refTake_err (by decide)]
    clear hc hl hR
    go_enter Tryd.func42, Tryd.ntmps42
    go_wp2_with (go_at_call 57; refine (rwrong_any _ b E 12 R H.out).mono ?_; rintro e w1 ⟨rfl, x1, y1⟩; have X1 := hide x1; have Y1 := hide y1; clear x1 y1)
    go_ret
    exact ⟨rfl, X1.out, Y1.out⟩
  · have hV65 := said2_lt R
    obtain ⟨V, hV⟩ : ∃ V, V = said (R.take 2) := ⟨_, rfl⟩
    rw [← hV] at hV65
    have HV : Hid (V = said (s.data.toList.take 2)) := by rw [hV, HS.out]; rfl
    have hs2' : 2 ≤ s.size := by omega
    by_cases h3 : n < (V : Int)
    · obtain ⟨hc, _⟩ := rtext_long (R := R) (most := n) (by omega) (by rw [← hV]; exact h3)
      rw [hc, refTake_err (by decide)]
      have hEb : (wrongE E 11 != 0) = true := by simpa using wrongE_ne E 11 (by decide)
      clear hc hl hR hV h2
      go_enter Tryd.func42, Tryd.ntmps42
      go_wp2_with (first | (go_at_call 58; refine (said_ext_yes s 2 V (by decide) HV.out (by omega) _).mono ?_; rintro e w1 ⟨rfl, hw1⟩; subst hw1) | (go_at_call 57; refine (rwrong_any _ b E 11 R H.out).mono ?_; rintro e w2 ⟨rfl, x1, y1⟩; have c1 := x1.cell.2.1; have X1 := hide x1; have Y1 := hide y1; clear x1 y1))
      go_ret
      exact ⟨rfl, X1.out, Y1.out⟩
    · by_cases h4 : (s.size : Int) - 2 < (V : Int)
      · have hc : rtextC R n = 12 := by rw [rtextC, if_neg (by omega), if_neg (by rw [← hV]; exact h3), if_pos (by rw [← hV]; omega)]
        rw [hc, refTake_err (by decide)]
        have hEb : (wrongE E 12 != 0) = true := by simpa using wrongE_ne E 12 (by decide)
        clear hc hl hR hV h2
        go_enter Tryd.func42, Tryd.ntmps42
        go_wp2_with (first | (go_at_call 58; refine (said_ext_yes s 2 V (by decide) HV.out (by omega) _).mono ?_; rintro e w1 ⟨rfl, hw1⟩; subst hw1) | (go_at_call 57; refine (rwrong_any _ b E 12 R H.out).mono ?_; rintro e w2 ⟨rfl, x1, y1⟩; have c1 := x1.cell.2.1; have X1 := hide x1; have Y1 := hide y1; clear x1 y1))
        go_ret
        exact ⟨rfl, X1.out, Y1.out⟩
      · have hc : rtextC R n = 0 := by rw [rtextC, if_neg (by omega), if_neg (by rw [← hV]; exact h3), if_neg (by rw [← hV]; omega)]
        have hv : rtextS R n = (R.drop 2).take V := by rw [rtextS, if_pos hc, ← hV]
        have hvl : ((R.drop 2).take V).length = V := by rw [List.length_take, List.length_drop]; omega
        rw [hc, hv, hvl]
        by_cases hE : E = 0
        · subst hE
          rw [refTake_ok]
          have HX : Hid (s.extract (2 + V) s.size = str (R.drop (2 + V))) := by rw [HS.out]; exact extract_back s (2 + V)
          have HY : Hid (s.extract 2 (2 + V) = str ((R.drop 2).take V)) := by
            rw [HS.out]
            apply ByteArray.ext
            apply Array.ext'
            simp only [str, ByteArray.data_extract, Array.toList_extract, List.extract_eq_take_drop]
            rw [show 2 + V - 2 = V by omega]
          clear hc hv hvl hl hR hV h2
          go_enter Tryd.func42, Tryd.ntmps42
          go_wp2_with (go_at_call 58; refine (said_ext_yes s 2 V (by decide) HV.out (by omega) _).mono ?_; rintro e w1 ⟨rfl, hw1⟩; subst hw1)
          go_ret
          rw [HX.out]
          exact ⟨ret_s HY.out, H.out.set0, kept_one _ _ _ _⟩
        · rw [refTake_kept hE]
          have hEb : (E != 0) = true := by simpa using hE
          clear hc hv hvl hl hR hV h2 hE
          go_enter Tryd.func42, Tryd.ntmps42
          go_wp2_with (go_at_call 58; refine (said_ext_yes s 2 V (by decide) HV.out (by omega) _).mono ?_; rintro e w1 ⟨rfl, hw1⟩; subst hw1)
          go_ret
          exact ⟨rfl, H.out, Kept.refl _ _⟩

/-- What is left, by the document. -/
def refLeft (E : Int) (R : List UInt8) : Nat := if E = 0 then R.length else 0
theorem refLeft_any (w : World) (b : Nat) (E : Int) (R : List UInt8) (h : RAt 79 w b R (.int .i64 E)) :
    Calls Tryd.prog 23 #[.pointer (some ⟨b, 0, none⟩)] w fun e w' => e = .returned (.int .i64 (refLeft E R)) ∧ w' = w := by
  obtain ⟨h0, h1, f0, f1⟩ := h.cell
  have hl : (str R).size = R.length := str_size R
  clear h f0 f1
  by_cases hE : E = 0
  · subst hE
    have e : refLeft 0 R = R.length := by simp [refLeft]
    rw [e]
    go_enter Tryd.func23, Tryd.ntmps23
    go_wp2
    go_ret
    exact ⟨rfl, rfl⟩
  · have e : refLeft E R = 0 := by simp [refLeft, hE]
    have hEb : (E != 0) = true := by simpa using hE
    rw [e]
    clear hE
    go_enter Tryd.func23, Tryd.ntmps23
    go_wp2
    go_ret
    exact ⟨rfl, rfl⟩
theorem refRDone_any (w : World) (b : Nat) (E : Int) (R : List UInt8) (h : RAt 79 w b R (.int .i64 E)) :
    Calls Tryd.prog 25 #[.pointer (some ⟨b, 0, none⟩)] w fun e w' => e = .returned (.int .i64 (rDone E R)) ∧ w' = w := by
  obtain ⟨h0, h1, f0, f1⟩ := h.cell
  clear h f0 f1
  by_cases hE : E = 0
  · subst hE
    by_cases hr : 0 < R.length
    · have e : rDone 0 R = 13 := by simp only [rDone, hr, and_self, if_true]
      have hne : R ≠ [] := by intro h; simp [h] at hr
      have hnl : (str R).toList.isEmpty = false := by rw [ByteArray.toList_eq, str_toList]; simpa using hne
      rw [e]
      clear e
      go_enter Tryd.func25, Tryd.ntmps25
      go_wp2
      go_ret
      exact ⟨rfl, rfl⟩
    · have e : rDone 0 R = 0 := by simp only [rDone, hr, and_false, if_false]
      obtain rfl : R = [] := List.eq_nil_of_length_eq_zero (by omega)
      rw [e]
      clear e
      have hnl : (str []).toList.isEmpty = true := by decide +kernel
      go_enter Tryd.func25, Tryd.ntmps25
      go_wp2
      go_ret
      exact ⟨rfl, rfl⟩
  · have e : rDone E R = E := by simp only [rDone, hE, false_and, if_false]
    have hb : (E == 0) = false := by simpa using hE
    rw [e]
    clear e hE
    go_enter Tryd.func25, Tryd.ntmps25
    go_wp2
    go_ret
    exact ⟨rfl, rfl⟩
end Go.Proofs.YtonoobjpafhogaaDoor
