/-
  SyntaxPlaces answers true. Conditions: what the library's variable holds lies below; texts no longer than a process can hold.
-/
import Derived.Test.YtlmhofjiobmodaaGreatDoorQ48
namespace Go.Proofs.YtlmhofjiobmodaaGreatDoor
open Go.RowKit Go.Lib

theorem bound_of {a b : Nat} (h : ¬ 2147483647 < thrI (thrI (addI a b))) : a + b ≤ 2147483647 := by
  have h0 : 0 ≤ addI (a : Int) (b : Int) := (addI_in (by omega) (by omega)).1
  have h1 := thrI_le (thrI_in h0).1 (by omega)
  have h2 := thrI_le h0 h1
  unfold addI at h2
  split at h2 <;> omega
set_option maxRecDepth 100000 in
set_option maxHeartbeats 8000000 in
theorem syntaxPlaces_any (s R : By) (w : World) (hs : s.length ≤ 140737488351232) (hm : R.length ≤ 140737488351232) (hev : ErrV w.heap.size w) :
    Calls Tryz.prog 7 #[.string ⟨s.toArray⟩, .string ⟨R.toArray⟩] w fun e w' => e = .returned (.bool true) ∧ Below w.heap.size w w' := by
  have hsz := bs_size s
  have hsR := bs_size R
  have hA1 := addI_in (n := (s.length : Int)) (m := (R.length : Int)) (by omega) (by omega)
  have hA2 := thrI_in hA1.1
  have HD0 := hide (fun W => add2_any s.length R.length W (by omega) (by omega) (by omega) (by omega))
  have HD1 := hide (fun W => thrice_any (addI s.length R.length) W hA1.1 (by omega))
  have HD2 := hide (fun W => thrice_any (thrI (addI s.length R.length)) W hA2.1 (by omega))
  have HBD := hide (bound_of (a := s.length) (b := R.length))
  generalize thrI (thrI (addI (s.length : Int) (R.length : Int))) = A3 at *
  generalize thrI (addI (s.length : Int) (R.length : Int)) = A2 at *
  generalize addI (s.length : Int) (R.length : Int) = A1 at *
  clear hA1 hA2
  have HAW := hide (awake_any w hev)
  by_cases hA : 2147483647 < A3
  · go_enter Tryz.func7, Tryz.ntmps7
    go_wp2_with (first | (go_at_call 9; refine (HD0.out _).mono ?_; rintro e wz ⟨rfl, hwz⟩; have hwz := hwz.symm; subst hwz) | (go_at_call 8; refine (HD1.out _).mono ?_; clear HD1; rintro e wz ⟨rfl, hwz⟩; have hwz := hwz.symm; subst hwz) | (go_at_call 8; refine (HD2.out _).mono ?_; rintro e wz ⟨rfl, hwz⟩; have hwz := hwz.symm; subst hwz))
    go_ret
    exact ⟨rfl, Below.refl _ _⟩
  · have HLL := hide (HBD.out hA)
    go_enter Tryz.func7, Tryz.ntmps7
    go_upto_region 4 with (first | (go_at_call 9; refine (HD0.out _).mono ?_; rintro e wz ⟨rfl, hwz⟩; have hwz := hwz.symm; subst hwz) | (go_at_call 8; refine (HD1.out _).mono ?_; clear HD1; rintro e wz ⟨rfl, hwz⟩; have hwz := hwz.symm; subst hwz) | (go_at_call 8; refine (HD2.out _).mono ?_; rintro e wz ⟨rfl, hwz⟩; have hwz := hwz.symm; subst hwz) | (go_at_call 10; refine HAW.out.mono ?_; rintro e w1 ⟨rfl, x1⟩; have X1 := hide x1; clear x1))
    have HEV := hide (hev.up X1.out)
    clear HAW HD0 HD2 HBD hev hA hs hm
    have HPC := hide (fun V (y : Below w1.heap.size w1 V) => parse_code s V (HEV.out.up y))
    cases hsc : scanQ s with
    | error cn =>
      obtain ⟨c, n⟩ := cn
      obtain ⟨hpc, hc1, hc2⟩ := parC_scan hsc
      have hc0 := scan_err_ne hsc
      have hcb : (c != 0) = true := by simpa using hc0
      have hcb2 : (c == 0) = false := by simpa using hc0
      have HS := hide (scan_errc hsc w1 HEV.out)
      rw [hpc] at HPC
      clear hsc hpc hc0
      go_upto_region 5 with (go_at_call 16; refine HS.out.mono ?_; rintro e w2 ⟨rfl, x2⟩; have X2 := hide x2; clear x2)
      have HP := hide (HPC.out _ X2.out)
      clear HS HPC
      go_wp2_with (fail)
      refine HP.out.mono ?_
      rintro e w3 ⟨⟨ao, m, cp, rfl⟩, x3⟩
      have X3 := hide (bt (bt (bt X1.out X2.out (Nat.le_refl _)) x3 (Nat.le_refl _)) (show Below w3.heap.size w3 (w3.alloc (.cells #[.slice ao m cp] 36)) from al (Below.refl _ _) _) (Nat.le_refl _))
      clear x3 HP
      go_wp2
      go_ret
      exact ⟨rfl, X3.out⟩
    | ok L =>
      have HSC := hide hsc
      have HS := hide (scan_okc hsc w1 HEV.out)
      have HG := hide (scan_good hsc)
      clear hsc
      go_wp2_with (fail)
      refine HS.out.mono ?_
      rintro e w2 ⟨⟨tv, rfl, ho⟩, x2⟩
      obtain ⟨ao, cap, hv, hav⟩ := own_shape ho
      obtain ⟨g, hg⟩ := hav HG.out.pos
      subst hg
      subst hv
      have HO := hide ho
      have X2 := hide x2
      clear ho x2 HS hav
      go_upto_region 5 with fail
      have HP := hide (HPC.out _ X2.out)
      clear HPC
      go_wp2_with (fail)
      refine HP.out.mono ?_
      rintro e w3 ⟨⟨ao, m, cp, rfl⟩, x3⟩
      have X3 := hide (bt x3 (show Below w3.heap.size w3 (w3.alloc (.cells #[.slice ao m cp] 36)) from al (Below.refl _ _) _) (Nat.le_refl _))
      clear x3 HP
      rcases parC_some HSC.out with e0 | ⟨e, k, hpp, e0, he, hk⟩
      · rw [e0]
        clear e0
        go_wp2
        go_ret
        exact ⟨rfl, bt (bt X1.out X2.out (Nat.le_refl _)) X3.out (Nat.le_refl _)⟩
      · rw [e0]
        clear e0
        have HPP := hide hpp
        have HK := hide hk
        go_upto_region 6 with fail
        generalize w3.alloc (.cells #[.slice ao m cp] 36) = w4 at *
        have HCE : Hid (∀ V, Below w4.heap.size w4 V → ∀ i, i < L.length → V.cell? ⟨g, i * 6, none⟩ = some (.int .i64 (tok L i).k) ∧ V.cell? ⟨g, i * 6 + 1, none⟩ = some (.string ⟨(tok L i).t.toArray⟩) ∧ V.cell? ⟨g, i * 6 + 5, none⟩ = some (.int .i64 (tok L i).p)) := fun V y i hi => tk_cells (own_below HO.out (bt X3.out y (Nat.le_refl _))) hi
        have HOW := hide (own_below HO.out X3.out)
        have XA := hide (bt (bt X1.out X2.out (Nat.le_refl _)) X3.out (Nat.le_refl _))
        have HEV4 := hide (HEV.out.up (bt X2.out X3.out (Nat.le_refl _)))
        have HUP : Hid (∀ i, i < k → (tok L i).p ≠ (tok L k).p) := fun i hi => by
          have := (scan_upT HSC.out).up i k hi (by have := HK.out; omega)
          omega
        have HPL : Hid (∀ i, i < L.length → ∃ n : Nat, (tok L i).p = (n : Int) ∧ n ≤ s.length) := fun i hi => by
          obtain ⟨h1, h2⟩ := scan_place HSC.out i hi
          exact ⟨(tok L i).p.toNat, by omega, by omega⟩
        obtain ⟨N, hN, hN2⟩ := HPL.out k hk
        rw [hN] at HUP ⊢
        have HNN := hide hN
        have HN2 := hide hN2
        clear HO X1 X2 X3 HEV hpp hk hN hN2
        rcases he with rfl | rfl | rfl
        · go_upto_region 12 with fail
          go_wp2
          go_loopg [12] (L.length + 1) (fun gg x12 wr => ∃ j : Nat, x12 = .int .i64 (j : Nat) ∧ j ≤ k ∧ Hid (wr = w4) ∧ L.length - j < gg)
          case atStart => exact ⟨0, rfl, by omega, hide rfl, by omega⟩
          case round =>
            obtain ⟨j, rfl, hj, hw, hg⟩ := hrel
            have hw2 := hw.out.symm
            clear hw
            subst hw2
            have HGG := hide hg
            clear hg
            have h1 : (j : Int) < (L.length : Int) := by have := HK.out; omega
            obtain ⟨_, _, c5⟩ := HCE.out _ (Below.refl _ _) j (by have := HK.out; omega)
            have fw : IntKind.i64.wrap ((j : Int) + 1) = ((j + 1 : Nat) : Int) := by have := HG.out.few; have := HK.out; simp [IntKind.wrap, IntKind.bits, IntKind.signed]; omega
            by_cases hjk : j < k
            · have hne := HUP.out j hjk
              have hb : ((tok L j).p != (N : Int)) = true := by simpa using hne
              generalize (tok L j).p = pj at *
              have HJ := hide hjk
              clear hne hjk
              go_wp2
              go_roundg (L.length - (j + 1) + 1)
              case measure => have := HGG.out; have := HJ.out; have := HK.out; omega
              case rel => exact ⟨j + 1, by first | rfl | (rw [show wrap64 ((j : Int) + 1) = ((j + 1 : Nat) : Int) from fw]), by have := HJ.out; omega, hide rfl, by omega⟩
            · obtain rfl : j = k := by omega
              rw [HNN.out] at c5
              have hb : ((N : Int) != (N : Int)) = false := by simp
              have hne2 : ((j : Int) == (L.length : Int)) = false := by simp; omega
              have HCU := hide (parC_cut HSC.out HK.out (.inl rfl) HPP.out)
              rw [HNN.out, Int.toNat_natCast] at HCU
              have hn3 : (N : Int) ≤ (s.length : Int) := by have := HN2.out; omega
              have HPC : Hid (Calls Tryz.prog 11 #[.string ((⟨s.toArray⟩ : ByteArray).extract 0 N)] w4 fun e w' => (∃ ao m cp, e = .returned (.tuple #[.agg #[.slice ao m cp], .int .i64 (parC (s.take N)).1, .int .i64 (parC (s.take N)).2])) ∧ Below w4.heap.size w4 w') := by
                unfold Hid
                rw [cut_str]
                exact parse_code _ w4 HEV4.out
              go_wp2_with (fail)
              refine HPC.out.mono ?_
              rintro e w5 ⟨⟨ao5, m5, cp5, rfl⟩, x5⟩
              have X5 := hide (bt x5 (show Below w5.heap.size w5 (w5.alloc (.cells #[.slice ao5 m5 cp5] 36)) from al (Below.refl _ _) _) (Nat.le_refl _))
              clear x5 HPC c5
              go_upto_region 20 with fail
              generalize w5.alloc (.cells #[.slice ao5 m5 cp5] 36) = w6 at *
              rcases HCU.out with e0 | e0
              all_goals
                rw [e0]
                clear e0
                by_cases hlast : j + 1 = L.length
                · have hl1 : (((j + 1 : Nat) : Int) == (L.length : Int)) = true := by simp; omega
                  go_wp2
                  go_ret
                  exact ⟨rfl, bt XA.out X5.out (Nat.le_refl _)⟩
                · have hl1 : (((j + 1 : Nat) : Int) == (L.length : Int)) = false := by simp; omega
                  have hl2 : ((j + 1 : Nat) : Int) < (L.length : Int) := by omega
                  have HJ1 : Hid (j + 1 < L.length) := by have := HK.out; unfold Hid; omega
                  clear hlast
                  obtain ⟨n1, hn1, hn2⟩ := HPL.out (j + 1) HJ1.out
                  have HMO := hide (parC_more HSC.out HK.out HJ1.out (.inl rfl) HPP.out R)
                  rw [HNN.out, hn1, Int.toNat_natCast] at HMO
                  obtain ⟨_, _, c5⟩ := HCE.out w6 X5.out (j + 1) HJ1.out
                  rw [hn1] at c5
                  have hsl := scan_ok_len HSC.out
                  have hr := HLL.out
                  have hn4 : (n1 : Int) ≤ (s.length : Int) := by omega
                  have hex : ((⟨s.toArray⟩ : ByteArray).extract 0 n1).size = n1 := by
                    rw [cut_str, bs_size, List.length_take]
                    omega
                  obtain ⟨T, hT⟩ : ∃ T : ByteArray, T = (⟨s.toArray⟩ : ByteArray).extract 0 n1 ++ ⟨#[10]⟩ ++ ⟨R.toArray⟩ := ⟨_, rfl⟩
                  have HTT := hide hT
                  have HSC2 : Hid (Calls Tryz.prog 16 #[.string T] w6 fun e w' => (∃ ao n cp c q, e = .returned (.tuple #[.slice ao n cp, .int .i64 c, .int .i64 q]) ∧ (c = 0 → parC (s.take n1 ++ 10 :: R) = (90, (N : Int)))) ∧ Below w6.heap.size w6 w') := by
                    unfold Hid
                    rw [hT, cat_str]
                    refine (scan_code _ w6 (HEV4.out.up X5.out)).mono ?_
                    rintro e w' ⟨⟨ao, n, cp, c, q', h1, h2, h3⟩, h4⟩
                    refine ⟨⟨ao, n, cp, c, q', h1, fun hc => ?_⟩, h4⟩
                    rcases HMO.out with hx | hx
                    · exact absurd hc (h2 hx)
                    · exact hx
                  have HPT : Hid (∀ V, Below w6.heap.size w6 V → Calls Tryz.prog 11 #[.string T] V fun e w' => (∃ ao m cp, e = .returned (.tuple #[.agg #[.slice ao m cp], .int .i64 (parC (s.take n1 ++ 10 :: R)).1, .int .i64 (parC (s.take n1 ++ 10 :: R)).2])) ∧ Below V.heap.size V w') := fun V y => by
                    rw [hT, cat_str]
                    exact parse_code _ V ((HEV4.out.up X5.out).up y)
                  clear hT hn1 hn2
                  go_upto_region 25 with fail
                  rw [← HTT.out]
                  clear HTT hex c5
                  go_upto_region 26 with (go_at_call 16; refine HSC2.out.mono ?_; rintro e w7 ⟨⟨ao7, n7, cp7, c, q7, rfl, hc⟩, x7⟩; have HC := hide hc; have X7 := hide x7; clear x7 hc)
                  clear HSC2
                  have HPZ := hide (HPT.out w7 X7.out)
                  generalize hpc : parC (s.take n1 ++ 10 :: R) = pc at *
                  clear hpc HPT
                  go_wp2_with (fail)
                  refine HPZ.out.mono ?_
                  rintro e w8 ⟨⟨ao8, n8, cp8, rfl⟩, x8⟩
                  have X8 := hide (bt (bt (bt XA.out X5.out (Nat.le_refl _)) X7.out (Nat.le_refl _)) (bt x8 (show Below w8.heap.size w8 (w8.alloc (.cells #[.slice ao8 n8 cp8] 36)) from al (Below.refl _ _) _) (Nat.le_refl _)) (Nat.le_refl _))
                  clear x8 HPZ
                  by_cases hc0 : c = 0
                  · have := HC.out hc0
                    subst hc0
                    subst this
                    go_wp2
                    go_ret
                    exact ⟨rfl, X8.out⟩
                  · have hcb : (c != 0) = true := by simpa using hc0
                    go_wp2
                    go_ret
                    exact ⟨rfl, X8.out⟩
        · go_upto_region 12 with fail
          go_wp2
          go_loopg [12] (L.length + 1) (fun gg x12 wr => ∃ j : Nat, x12 = .int .i64 (j : Nat) ∧ j ≤ k ∧ Hid (wr = w4) ∧ L.length - j < gg)
          case atStart => exact ⟨0, rfl, by omega, hide rfl, by omega⟩
          case round =>
            obtain ⟨j, rfl, hj, hw, hg⟩ := hrel
            have hw2 := hw.out.symm
            clear hw
            subst hw2
            have HGG := hide hg
            clear hg
            have h1 : (j : Int) < (L.length : Int) := by have := HK.out; omega
            obtain ⟨_, _, c5⟩ := HCE.out _ (Below.refl _ _) j (by have := HK.out; omega)
            have fw : IntKind.i64.wrap ((j : Int) + 1) = ((j + 1 : Nat) : Int) := by have := HG.out.few; have := HK.out; simp [IntKind.wrap, IntKind.bits, IntKind.signed]; omega
            by_cases hjk : j < k
            · have hne := HUP.out j hjk
              have hb : ((tok L j).p != (N : Int)) = true := by simpa using hne
              generalize (tok L j).p = pj at *
              have HJ := hide hjk
              clear hne hjk
              go_wp2
              go_roundg (L.length - (j + 1) + 1)
              case measure => have := HGG.out; have := HJ.out; have := HK.out; omega
              case rel => exact ⟨j + 1, by first | rfl | (rw [show wrap64 ((j : Int) + 1) = ((j + 1 : Nat) : Int) from fw]), by have := HJ.out; omega, hide rfl, by omega⟩
            · obtain rfl : j = k := by omega
              rw [HNN.out] at c5
              have hb : ((N : Int) != (N : Int)) = false := by simp
              have hne2 : ((j : Int) == (L.length : Int)) = false := by simp; omega
              have HDE := hide (deeper_any (R := R) HSC.out HK.out HPP.out (by have := HLL.out; omega) HEV4.out HOW.out)
              go_wp2_with (go_at_call 26; refine HDE.out.mono ?_; rintro e w5 ⟨rfl, x5⟩; have X5 := hide (bt XA.out x5 (Nat.le_refl _)); clear x5)
              go_ret
              exact ⟨rfl, X5.out⟩
        · go_upto_region 12 with fail
          go_wp2
          go_loopg [12] (L.length + 1) (fun gg x12 wr => ∃ j : Nat, x12 = .int .i64 (j : Nat) ∧ j ≤ k ∧ Hid (wr = w4) ∧ L.length - j < gg)
          case atStart => exact ⟨0, rfl, by omega, hide rfl, by omega⟩
          case round =>
            obtain ⟨j, rfl, hj, hw, hg⟩ := hrel
            have hw2 := hw.out.symm
            clear hw
            subst hw2
            have HGG := hide hg
            clear hg
            have h1 : (j : Int) < (L.length : Int) := by have := HK.out; omega
            obtain ⟨_, _, c5⟩ := HCE.out _ (Below.refl _ _) j (by have := HK.out; omega)
            have fw : IntKind.i64.wrap ((j : Int) + 1) = ((j + 1 : Nat) : Int) := by have := HG.out.few; have := HK.out; simp [IntKind.wrap, IntKind.bits, IntKind.signed]; omega
            by_cases hjk : j < k
            · have hne := HUP.out j hjk
              have hb : ((tok L j).p != (N : Int)) = true := by simpa using hne
              generalize (tok L j).p = pj at *
              have HJ := hide hjk
              clear hne hjk
              go_wp2
              go_roundg (L.length - (j + 1) + 1)
              case measure => have := HGG.out; have := HJ.out; have := HK.out; omega
              case rel => exact ⟨j + 1, by first | rfl | (rw [show wrap64 ((j : Int) + 1) = ((j + 1 : Nat) : Int) from fw]), by have := HJ.out; omega, hide rfl, by omega⟩
            · obtain rfl : j = k := by omega
              rw [HNN.out] at c5
              have hb : ((N : Int) != (N : Int)) = false := by simp
              have hne2 : ((j : Int) == (L.length : Int)) = false := by simp; omega
              have HCU := hide (parC_cut HSC.out HK.out (.inr rfl) HPP.out)
              rw [HNN.out, Int.toNat_natCast] at HCU
              have hn3 : (N : Int) ≤ (s.length : Int) := by have := HN2.out; omega
              have HPC : Hid (Calls Tryz.prog 11 #[.string ((⟨s.toArray⟩ : ByteArray).extract 0 N)] w4 fun e w' => (∃ ao m cp, e = .returned (.tuple #[.agg #[.slice ao m cp], .int .i64 (parC (s.take N)).1, .int .i64 (parC (s.take N)).2])) ∧ Below w4.heap.size w4 w') := by
                unfold Hid
                rw [cut_str]
                exact parse_code _ w4 HEV4.out
              go_wp2_with (fail)
              refine HPC.out.mono ?_
              rintro e w5 ⟨⟨ao5, m5, cp5, rfl⟩, x5⟩
              have X5 := hide (bt x5 (show Below w5.heap.size w5 (w5.alloc (.cells #[.slice ao5 m5 cp5] 36)) from al (Below.refl _ _) _) (Nat.le_refl _))
              clear x5 HPC c5
              go_upto_region 20 with fail
              generalize w5.alloc (.cells #[.slice ao5 m5 cp5] 36) = w6 at *
              rcases HCU.out with e0 | e0
              all_goals
                rw [e0]
                clear e0
                by_cases hlast : j + 1 = L.length
                · have hl1 : (((j + 1 : Nat) : Int) == (L.length : Int)) = true := by simp; omega
                  go_wp2
                  go_ret
                  exact ⟨rfl, bt XA.out X5.out (Nat.le_refl _)⟩
                · have hl1 : (((j + 1 : Nat) : Int) == (L.length : Int)) = false := by simp; omega
                  have hl2 : ((j + 1 : Nat) : Int) < (L.length : Int) := by omega
                  have HJ1 : Hid (j + 1 < L.length) := by have := HK.out; unfold Hid; omega
                  clear hlast
                  obtain ⟨n1, hn1, hn2⟩ := HPL.out (j + 1) HJ1.out
                  have HMO := hide (parC_more HSC.out HK.out HJ1.out (.inr rfl) HPP.out R)
                  rw [HNN.out, hn1, Int.toNat_natCast] at HMO
                  obtain ⟨_, _, c5⟩ := HCE.out w6 X5.out (j + 1) HJ1.out
                  rw [hn1] at c5
                  have hsl := scan_ok_len HSC.out
                  have hr := HLL.out
                  have hn4 : (n1 : Int) ≤ (s.length : Int) := by omega
                  have hex : ((⟨s.toArray⟩ : ByteArray).extract 0 n1).size = n1 := by
                    rw [cut_str, bs_size, List.length_take]
                    omega
                  obtain ⟨T, hT⟩ : ∃ T : ByteArray, T = (⟨s.toArray⟩ : ByteArray).extract 0 n1 ++ ⟨#[10]⟩ ++ ⟨R.toArray⟩ := ⟨_, rfl⟩
                  have HTT := hide hT
                  have HSC2 : Hid (Calls Tryz.prog 16 #[.string T] w6 fun e w' => (∃ ao n cp c q, e = .returned (.tuple #[.slice ao n cp, .int .i64 c, .int .i64 q]) ∧ (c = 0 → parC (s.take n1 ++ 10 :: R) = (92, (N : Int)))) ∧ Below w6.heap.size w6 w') := by
                    unfold Hid
                    rw [hT, cat_str]
                    refine (scan_code _ w6 (HEV4.out.up X5.out)).mono ?_
                    rintro e w' ⟨⟨ao, n, cp, c, q', h1, h2, h3⟩, h4⟩
                    refine ⟨⟨ao, n, cp, c, q', h1, fun hc => ?_⟩, h4⟩
                    rcases HMO.out with hx | hx
                    · exact absurd hc (h2 hx)
                    · exact hx
                  have HPT : Hid (∀ V, Below w6.heap.size w6 V → Calls Tryz.prog 11 #[.string T] V fun e w' => (∃ ao m cp, e = .returned (.tuple #[.agg #[.slice ao m cp], .int .i64 (parC (s.take n1 ++ 10 :: R)).1, .int .i64 (parC (s.take n1 ++ 10 :: R)).2])) ∧ Below V.heap.size V w') := fun V y => by
                    rw [hT, cat_str]
                    exact parse_code _ V ((HEV4.out.up X5.out).up y)
                  clear hT hn1 hn2
                  go_upto_region 25 with fail
                  rw [← HTT.out]
                  clear HTT hex c5
                  go_upto_region 26 with (go_at_call 16; refine HSC2.out.mono ?_; rintro e w7 ⟨⟨ao7, n7, cp7, c, q7, rfl, hc⟩, x7⟩; have HC := hide hc; have X7 := hide x7; clear x7 hc)
                  clear HSC2
                  have HPZ := hide (HPT.out w7 X7.out)
                  generalize hpc : parC (s.take n1 ++ 10 :: R) = pc at *
                  clear hpc HPT
                  go_wp2_with (fail)
                  refine HPZ.out.mono ?_
                  rintro e w8 ⟨⟨ao8, n8, cp8, rfl⟩, x8⟩
                  have X8 := hide (bt (bt (bt XA.out X5.out (Nat.le_refl _)) X7.out (Nat.le_refl _)) (bt x8 (show Below w8.heap.size w8 (w8.alloc (.cells #[.slice ao8 n8 cp8] 36)) from al (Below.refl _ _) _) (Nat.le_refl _)) (Nat.le_refl _))
                  clear x8 HPZ
                  by_cases hc0 : c = 0
                  · have := HC.out hc0
                    subst hc0
                    subst this
                    go_wp2
                    go_ret
                    exact ⟨rfl, X8.out⟩
                  · have hcb : (c != 0) = true := by simpa using hc0
                    go_wp2
                    go_ret
                    exact ⟨rfl, X8.out⟩
end Go.Proofs.YtlmhofjiobmodaaGreatDoor
