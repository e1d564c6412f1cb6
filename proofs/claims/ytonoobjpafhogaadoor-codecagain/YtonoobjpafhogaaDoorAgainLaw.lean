/-
  CodecAgain, walked: of any string and any script it answers true; nothing that was there has turned. Conditions: the numbers are ints, each text and the script are no longer than a process can hold; the cell of errors.errorType holds the handle of 'error'.
-/
import Derived.Test.YtonoobjpafhogaaDoorAgain
namespace Go.Proofs.YtonoobjpafhogaaDoor
open Go.RowKit

theorem ag_start {w w2 w3 w4 : World} {s : ByteArray} {rb wb : Nat} (hs : s.size ≤ 140737488351232) (hg : HG w) (HB2 : Below w.heap.size w w2)
    (X3 : RAt 77 w3 rb s.data.toList (errOf 0)) (Y3 : Below rb w2 w3) (Z3 : w3.heap.size = rb + 1) (E3 : w2.heap.size = rb)
    (X4 : WAt 73 (fun k => k = wb) w4 wb (roomOf (s.size : Int)) (errOf 0) []) (Y4 : Below wb w3 w4) (Z4 : w4.heap.size = wb + 1) (E4 : w3.heap.size = wb) :
    Ag s.data.toList w.heap.size rb wb w w4 0 s.data.toList := by
  have n0 := hg.pos
  have n2 := HB2.size
  have y3 : Below w2.heap.size w2 w3 := by rw [E3]; exact Y3
  have y4 : Below w3.heap.size w3 w4 := by rw [E4]; exact Y4
  have ball : Below w.heap.size w w4 := HB2.trans ((y3.mono (by omega)).trans (y4.mono (by omega)))
  have hr : roomOf (s.size : Int) = s.data.toList.length := by simp [roomOf]
  rw [hr] at X4
  exact ⟨X3.below y4, fun _ => ⟨_, [], X4, by omega, fun k hk => by omega, rfl⟩, .inl rfl, fun h => absurd rfl h, by omega, by simpa using hs, Nat.le_refl _, hg.below ball n0, n0, by omega, ball⟩

/-- Behind an error a Reader answers nothing more. -/
theorem takeP_wrong {E : Int} {R : List UInt8} {k : Nat} {c : Int} (h : E ≠ 0) : takeP E R k c = (E, [], false) := by simp [takeP, h]

set_option maxRecDepth 100000 in
set_option maxHeartbeats 4000000 in
theorem codecAgain_some (s : ByteArray) (hs : s.size ≤ 140737488351232) (sb so len cap : Nat) (f : Nat → OpD) (w : World) (hlen : len ≤ 140737488351232) (hok : ∀ i, i < len → OpOk (f i)) (hsb : sb < w.heap.size) (hat : ∀ i, i < len → OpAt w sb so i (f i)) (hg : HG w) :
    Calls Tryd.prog 7 #[.string s, .slice (some ⟨sb, so, none⟩) len cap] w fun e w' => e = .returned (.bool true) ∧ Below w.heap.size w w' := by
  have HOK := hide hok; have HAT := hide hat
  have HGG := hide hg
  have hpos := hg.pos
  clear hok hat hg
  go_enter Tryd.func7, Tryd.ntmps7
  go_wp2_with fail
  refine (size2_some sb so len cap f _ hlen HOK.out HAT.out).mono ?_
  rintro e w1 ⟨N1, rfl, hNb, _, hb1⟩
  obtain ⟨hn0, hn1⟩ := hNb
  have HB1 := hide hb1
  clear hb1
  go_wp2_with fail
  refine (add2_any (s.size : Int) N1 (by omega) (by omega) hn0 (by omega) _).mono ?_
  rintro e w1' ⟨rfl, hw1'⟩
  subst hw1'
  generalize addI (s.size : Int) N1 = T
  by_cases hbig : 2147483647 < T
  · go_wp2
    go_ret
    exact ⟨rfl, HB1.out⟩
  go_wp2_with fail
  refine (awake_any _ (HGG.out.below HB1.out hpos)).mono ?_
  rintro e w2 ⟨rfl, hb2⟩
  have HB2 : Hid (Below w.heap.size w w2) := HB1.out.trans (hb2.mono HB1.out.size)
  clear hb2 HB1
  go_wp2_with fail
  refine (newReader_any s _).mono ?_
  rintro e w3 ⟨rfl, x3, y3, z3⟩
  generalize e3 : w2.heap.size = rb at x3 y3 z3 ⊢
  have X3 := hide x3; have Y3 := hide y3; have Z3 := hide z3; have E3 := hide e3
  clear x3 y3 z3 e3
  go_wp2_with fail
  refine (newWriter_at (s.size : Int) (by omega) _).mono ?_
  rintro e w4 ⟨rfl, x4, y4, z4⟩
  generalize e4 : w3.heap.size = wb at x4 y4 z4 ⊢
  have M := hide (ag_start hs HGG.out HB2.out X3.out Y3.out Z3.out E3.out x4 y4 z4 e4)
  clear x4 y4 z4 e4 X3 Y3 Z3 E3 HB2 HGG
  go_wp2
  go_loopw [8] (fun i wr => ∃ k : Nat, k ≤ len ∧ i = .int .i64 k ∧ ∃ R, Hid (Ag s.data.toList w.heap.size rb wb w wr 0 R)) (fun i _ => len - (intOf i).toNat)
  case atStart => exact ⟨0, Nat.zero_le _, rfl, _, M.out⟩
  case round =>
    obtain ⟨k, hk, rfl, R, hst⟩ := hrel
    by_cases hlt : k < len
    · obtain ⟨a1, a2, a3, a4, a5⟩ := (HAT.out k hlt).below hst.out.below hsb
      have HO := hide (HOK.out k hlt)
      go_wp2_with fail
      refine (again_any _ _ _ _ _ _ R (f k) HO.out hst.out).mono ?_
      rintro e w5 ⟨rfl, E5, R5, h5⟩
      have H5 := hide h5
      have hcode := h5.code
      clear h5 a1 a2 a3 a4 a5
      go_wp2_with fail
      refine (rLeft_any _ _ _ R5 H5.out.rd).mono ?_
      rintro e w6 ⟨rfl, h6⟩
      subst h6
      go_wp2_with fail
      refine (rDone_any _ _ E5 R5 H5.out.hg H5.out.rd).mono ?_
      rintro e w7 ⟨rfl, h7⟩
      have H7 := hide (H5.out.quiet h7)
      clear h7 H5
      by_cases hE : E5 = 0
      · subst hE
        obtain ⟨F, S, q1, q2, q3, q4⟩ := H7.out.wt rfl
        have Q1 := hide q1
        have hd : rDone 0 R5 = 0 ∨ rDone 0 R5 = 13 := by unfold rDone; split <;> simp
        have hll : S.length + R5.length = s.size := by
          have := congrArg List.length q4
          rw [List.length_append] at this
          simp at this
          omega
        have HX : Hid (s.extract 0 S.length = str S) := by
          unfold Hid
          rw [extract_front, q4, List.take_left]
        have HDS : Hid (doneS 0 S = S) := by simp [doneS, Hid]
        clear q1 q2 q3 q4
        rcases hd with hd | hd
        all_goals
          rw [hd]
          clear hd
          go_wp2_with fail
          refine (wDone_any F _ wb _ 0 S H7.out.hg Q1.out).mono ?_
          rintro e w8 ⟨rfl, h8⟩
          rw [HDS.out]
          have H8 := hide (H7.out.quiet h8)
          clear h8
          have hx := HX.out
          have hsub : (s.size : Int) - (R5.length : Int) = (S.length : Int) := by omega
          have hls : S.length ≤ s.size := by omega
          have hll' := hide hll
          clear hll
          go_wp2
          go_roundw
          case rel => exact ⟨k + 1, by omega, by go_num, R5, H8.out⟩
          case measure => simp [intOf]; omega
      · obtain rfl : R5 = [] := H7.out.no hE
        rcases hcode with h0 | rfl | rfl | rfl
        · exact absurd h0 hE
        · have hd : rDone 10 [] = 10 := rfl
          rw [hd]
          clear hd hE
          have cN : rNum 10 [] 1 = (0, 10, []) := by decide +kernel
          have cR : rRaw 10 [] 0 = ([], 10, []) := by decide +kernel
          have HN := hide cN; have HR := hide cR
          clear cN cR
          go_wp2_with fail
          refine (rNum_any _ rb 10 [] 1 (by decide) H7.out.rd).mono ?_
          rintro e w8 ⟨rfl, x8, y8⟩
          rw [HN.out] at x8 ⊢
          have X8 := hide x8; have Y8 := hide y8
          clear x8 y8
          go_wp2_with fail
          refine (rRaw_any _ rb 10 [] 0 (by decide) X8.out).mono ?_
          rintro e w9 ⟨rfl, x9, y9⟩
          rw [HR.out] at x9 ⊢
          have X9 := hide x9
          have B9 : Hid (Below w.heap.size w w9 ∧ HG w9 ∧ w.heap.size ≤ w9.heap.size) := by
            have hb : Below w.heap.size w7 w9 := (Y8.out.trans y9).below H7.out.ns (fun i hi => by rw [hi]; exact H7.out.lo)
            exact ⟨H7.out.below.trans hb, H7.out.hg.below hb H7.out.npos, Nat.le_trans H7.out.ns hb.size⟩
          clear x9 y9 X8 Y8 H7
          have hem : (str []).toList.isEmpty = true := by decide +kernel
          go_wp2_with fail
          refine (rDone_any _ rb 10 [] B9.out.2.1 X9.out).mono ?_
          rintro e w10 ⟨rfl, h10⟩
          have B10 : Hid (Below w.heap.size w w10) := B9.out.1.trans (h10.mono B9.out.2.2)
          clear h10 B9
          have hd : rDone 10 [] = 10 := rfl
          go_wp2
          go_ret
          exact ⟨rfl, B10.out⟩
        · have hd : rDone 11 [] = 11 := rfl
          rw [hd]
          clear hd hE
          have cN : rNum 11 [] 1 = (0, 11, []) := by decide +kernel
          have cR : rRaw 11 [] 0 = ([], 11, []) := by decide +kernel
          have HN := hide cN; have HR := hide cR
          clear cN cR
          go_wp2_with fail
          refine (rNum_any _ rb 11 [] 1 (by decide) H7.out.rd).mono ?_
          rintro e w8 ⟨rfl, x8, y8⟩
          rw [HN.out] at x8 ⊢
          have X8 := hide x8; have Y8 := hide y8
          clear x8 y8
          go_wp2_with fail
          refine (rRaw_any _ rb 11 [] 0 (by decide) X8.out).mono ?_
          rintro e w9 ⟨rfl, x9, y9⟩
          rw [HR.out] at x9 ⊢
          have X9 := hide x9
          have B9 : Hid (Below w.heap.size w w9 ∧ HG w9 ∧ w.heap.size ≤ w9.heap.size) := by
            have hb : Below w.heap.size w7 w9 := (Y8.out.trans y9).below H7.out.ns (fun i hi => by rw [hi]; exact H7.out.lo)
            exact ⟨H7.out.below.trans hb, H7.out.hg.below hb H7.out.npos, Nat.le_trans H7.out.ns hb.size⟩
          clear x9 y9 X8 Y8 H7
          have hem : (str []).toList.isEmpty = true := by decide +kernel
          go_wp2_with fail
          refine (rDone_any _ rb 11 [] B9.out.2.1 X9.out).mono ?_
          rintro e w10 ⟨rfl, h10⟩
          have B10 : Hid (Below w.heap.size w w10) := B9.out.1.trans (h10.mono B9.out.2.2)
          clear h10 B9
          have hd : rDone 11 [] = 11 := rfl
          go_wp2
          go_ret
          exact ⟨rfl, B10.out⟩
        · have hd : rDone 12 [] = 12 := rfl
          rw [hd]
          clear hd hE
          have cN : rNum 12 [] 1 = (0, 12, []) := by decide +kernel
          have cR : rRaw 12 [] 0 = ([], 12, []) := by decide +kernel
          have HN := hide cN; have HR := hide cR
          clear cN cR
          go_wp2_with fail
          refine (rNum_any _ rb 12 [] 1 (by decide) H7.out.rd).mono ?_
          rintro e w8 ⟨rfl, x8, y8⟩
          rw [HN.out] at x8 ⊢
          have X8 := hide x8; have Y8 := hide y8
          clear x8 y8
          go_wp2_with fail
          refine (rRaw_any _ rb 12 [] 0 (by decide) X8.out).mono ?_
          rintro e w9 ⟨rfl, x9, y9⟩
          rw [HR.out] at x9 ⊢
          have X9 := hide x9
          have B9 : Hid (Below w.heap.size w w9 ∧ HG w9 ∧ w.heap.size ≤ w9.heap.size) := by
            have hb : Below w.heap.size w7 w9 := (Y8.out.trans y9).below H7.out.ns (fun i hi => by rw [hi]; exact H7.out.lo)
            exact ⟨H7.out.below.trans hb, H7.out.hg.below hb H7.out.npos, Nat.le_trans H7.out.ns hb.size⟩
          clear x9 y9 X8 Y8 H7
          have hem : (str []).toList.isEmpty = true := by decide +kernel
          go_wp2_with fail
          refine (rDone_any _ rb 12 [] B9.out.2.1 X9.out).mono ?_
          rintro e w10 ⟨rfl, h10⟩
          have B10 : Hid (Below w.heap.size w w10) := B9.out.1.trans (h10.mono B9.out.2.2)
          clear h10 B9
          have hd : rDone 12 [] = 12 := rfl
          go_wp2
          go_ret
          exact ⟨rfl, B10.out⟩
    · go_wp2
      go_ret
      exact ⟨rfl, hst.out.below⟩

set_option maxRecDepth 100000 in
set_option maxHeartbeats 4000000 in
theorem codecAgain_none (s : ByteArray) (hs : s.size ≤ 140737488351232) (ao : Option Addr) (cap : Nat) (w : World) (hg : HG w) :
    Calls Tryd.prog 7 #[.string s, .slice ao 0 cap] w fun e w' => e = .returned (.bool true) ∧ Below w.heap.size w w' := by
  have HSC : Hid (Scr w ao 0 (fun _ => ⟨0, 0, 0, 0, ByteArray.empty⟩)) := ⟨by omega, fun i hi => absurd hi (by omega), .inl rfl⟩
  have HGG := hide hg
  have hpos := hg.pos
  clear hg
  go_enter Tryd.func7, Tryd.ntmps7
  go_wp2_with fail
  refine (size2_any ao 0 cap _ _ HSC.out).mono ?_
  rintro e w1 ⟨N1, rfl, hNb, _, hb1⟩
  obtain ⟨hn0, hn1⟩ := hNb
  have HB1 := hide hb1
  clear hb1
  go_wp2_with fail
  refine (add2_any (s.size : Int) N1 (by omega) (by omega) hn0 (by omega) _).mono ?_
  rintro e w1' ⟨rfl, hw1'⟩
  subst hw1'
  generalize addI (s.size : Int) N1 = T
  by_cases hbig : 2147483647 < T
  · go_wp2
    go_ret
    exact ⟨rfl, HB1.out⟩
  go_wp2_with fail
  refine (awake_any _ (HGG.out.below HB1.out hpos)).mono ?_
  rintro e w2 ⟨rfl, hb2⟩
  have HB2 : Hid (Below w.heap.size w w2) := HB1.out.trans (hb2.mono HB1.out.size)
  clear hb2 HB1
  go_wp2_with fail
  refine (newReader_any s _).mono ?_
  rintro e w3 ⟨rfl, x3, y3, z3⟩
  generalize e3 : w2.heap.size = rb at x3 y3 z3 ⊢
  have X3 := hide x3; have Y3 := hide y3; have Z3 := hide z3; have E3 := hide e3
  clear x3 y3 z3 e3
  go_wp2_with fail
  refine (newWriter_at (s.size : Int) (by omega) _).mono ?_
  rintro e w4 ⟨rfl, x4, y4, z4⟩
  generalize e4 : w3.heap.size = wb at x4 y4 z4 ⊢
  have M := hide (ag_start hs HGG.out HB2.out X3.out Y3.out Z3.out E3.out x4 y4 z4 e4)
  clear x4 y4 z4 e4 X3 Y3 Z3 E3 HB2 HGG
  go_wp2
  refine wp_loop_rounds 1 ?_
  rw [rounds_succ]
  go_wp2
  go_ret
  exact ⟨rfl, M.out.below⟩

theorem codecAgain_any (s : ByteArray) (hs : s.size ≤ 140737488351232) (ao : Option Addr) (len cap : Nat) (f : Nat → OpD) (w : World) (hsc : Scr w ao len f) (hg : HG w) :
    Calls Tryd.prog 7 #[.string s, .slice ao len cap] w fun e w' => e = .returned (.bool true) ∧ Below w.heap.size w w' := by
  obtain ⟨hl, hok, h0 | ⟨b, off, rfl, hb, hat⟩⟩ := hsc
  · subst h0
    exact codecAgain_none s hs ao cap w hg
  · exact codecAgain_some s hs b off len cap f w hl hok hb hat hg
end Go.Proofs.YtonoobjpafhogaaDoor
