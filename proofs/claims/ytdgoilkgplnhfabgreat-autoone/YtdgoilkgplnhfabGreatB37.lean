/-
  AutoOne answers true. Conditions: lists no longer than a process can hold; a number of the machine's kind.
-/
import Derived.Test.YtdgoilkgplnhfabGreatB36
import Derived.Test.YtdgoilkgplnhfabGreatB20
namespace Go.Proofs.YtdgoilkgplnhfabGreat
open Go.RowKit Go.Lib
theorem LeP.shape {bs : By} {NZ OZ : List Int} {base : Nat} {e : Ending} {w : World} (h : LeP bs NZ OZ base e w) : ∃ (cs : By) (xa : Option Addr) (xn xc : Nat) (oa : Option Addr) (on oc : Nat) (m : Int), e = .returned (.tuple #[.agg #[.string ⟨cs.toArray⟩, .slice xa xn xc, .slice oa on oc], .int .i64 m]) := by
  rcases h with ⟨_, rfl⟩ | ⟨_, _, _, _, _, _, h⟩
  · exact ⟨[], none, 0, 0, none, 0, 0, 60, rfl⟩
  · exact h.shape
theorem LeP.ok {bs cs : By} {NZ OZ : List Int} {base : Nat} {w : World} {xa oa : Option Addr} {xn xc on oc : Nat} (h : LeP bs NZ OZ base (.returned (.tuple #[.agg #[.string ⟨cs.toArray⟩, .slice xa xn xc, .slice oa on oc], .int .i64 0])) w) :
    ∃ NX OU, xn = NX.length ∧ on = OU.length ∧ OwnN w base (.slice xa NX.length xc) NX ∧ OwnN w base (.slice oa OU.length oc) OU ∧ MayA cs NX OU ∧ (dfA cs NX OU).Right ∧ OU.length ≤ 256 := by
  rcases h with ⟨_, e⟩ | ⟨NX0, OU0, _, _, _, _, ⟨bs', xa', xn', xc', oa', on', oc', e, NX', OU', d⟩ | ⟨e, _⟩⟩
  · injection e with e; injection e with e; simp at e
  · injection e with e
    injection e with e
    simp only [auV, Array.mk.injEq, List.cons.injEq, Value.agg.injEq, Value.string.injEq, Value.slice.injEq] at e
    obtain ⟨⟨e1, ⟨rfl, rfl, rfl⟩, ⟨rfl, rfl, rfl⟩, -⟩, -⟩ := e
    have e2 : cs = bs' := by simpa using e1
    subst e2
    have o1 := d.rws.own 0 (by simp)
    have o2 := d.rws.own 1 (by simp)
    obtain ⟨a1, k1, h1, _⟩ := own_shape (show w.ownsRow _ 3 1 _ NX'.length (nCells NX') from o1)
    obtain ⟨a2, k2, h2, _⟩ := own_shape (show w.ownsRow _ 3 1 _ OU'.length (nCells OU') from o2)
    injection h1 with h11 h12 h13
    injection h2 with h21 h22 h23
    subst h12 h22
    exact ⟨NX', OU', rfl, rfl, o1, o2, d.may, d.rt, d.n⟩
  · injection e with e; injection e with e; simp at e
theorem LeP.same {cs : By} {NX OU NB OB : List Nat} {base : Nat} {e : Ending} {w : World} (hM : MayA cs NX OU) (hr : (dfA cs NX OU).Right) (hn : OU.length ≤ 256) (hl : ∀ t, Txt t → (dfA cs NB OB).lab 0 t = (dfA cs NX OU).lab 0 t) (hZ : MayZ cs (zN NB) (zN OB))
    (h : LeP cs (zN NB) (zN OB) base e w) : ∃ (xa : Option Addr) (xc : Nat) (oa : Option Addr) (oc : Nat), e = .returned (.tuple #[.agg #[.string ⟨cs.toArray⟩, .slice xa NX.length xc, .slice oa OU.length oc], .int .i64 0]) ∧ ZAt w xa (zN NX) ∧ ZAt w oa (zN OU) := by
  rcases h with ⟨h1, _⟩ | ⟨NB', OB', e1, e2, hM2, _, ⟨bs', xa, xn, xc, oa, on, oc, rfl, NX', OU', d⟩ | ⟨_, hno⟩⟩
  · exact absurd hZ h1
  · obtain rfl := zN_inj e1
    obtain rfl := zN_inj e2
    obtain ⟨rfl, rfl, rfl⟩ := one_lists hM d.may hr d.rt (fun t ht => (d.lb t ht).trans (hl t ht))
    have o1 := d.rws.own 0 (by simp)
    have o2 := d.rws.own 1 (by simp)
    obtain ⟨a1, k1, h1, _⟩ := own_shape (show w.ownsRow _ 3 1 _ NX.length (nCells NX) from o1)
    obtain ⟨a2, k2, h2, _⟩ := own_shape (show w.ownsRow _ 3 1 _ OU.length (nCells OU) from o2)
    injection h1 with h11 h12 h13
    injection h2 with h21 h22 h23
    subst h12 h22
    exact ⟨xa, xc, oa, oc, rfl, (OwnN.nat o1).raw, (OwnN.nat o2).raw⟩
  · obtain rfl := zN_inj e1
    obtain rfl := zN_inj e2
    have := hno (dfA cs NX OU) hr.toOk (fun t ht => (hl t ht).symm)
    have h3 : 257 ≤ OU.length := this
    omega
theorem NAt.atG {w : World} {b off i : Nat} {L : List Nat} (h : NAt w (some ⟨b, off, none⟩) L) (hi : i < L.length) : w.cell? ⟨b, off + i, none⟩ = some (.int .i64 ((gN L i : Nat) : Int)) := by
  obtain ⟨b', off', e, _, c⟩ := h.get hi
  simp only [Option.some.injEq, Addr.mk.injEq] at e
  obtain ⟨rfl, rfl, _⟩ := e
  rw [gN_lt hi]; exact c
theorem may_two {bs : By} {NX OU NB OB : List Nat} (h : MayZ bs (zN NX) (zN OU)) (h0 : 0 < OU.length) (hB : MayA bs NB OB) (e : NB.length / OB.length = NX.length / OU.length) : MayZ bs (zN NB) (zN OB) := by
  have l1 : (zN NB).length = NB.length := by unfold zN; rw [List.length_map]
  have l2 : (zN OB).length = OB.length := by unfold zN; rw [List.length_map]
  have l3 : (zN NX).length = NX.length := by unfold zN; rw [List.length_map]
  have l4 : (zN OU).length = OU.length := by unfold zN; rw [List.length_map]
  have h4 := h.2.2.2.1
  rw [l3, l4] at h4
  have h5 : NX.length / OU.length = mxL (ntL bs) + 1 := by rw [h4]; exact Nat.mul_div_cancel_left _ h0
  refine ⟨hB.bl, by rw [l2]; exact hB.n0, by rw [l2]; exact hB.n1, by rw [l1, l2, ← h5, ← e]; exact hB.wl, List.any_eq_false.2 (fun z hz => ?_), List.any_eq_false.2 (fun z hz => ?_)⟩
  · obtain ⟨x, hx, rfl⟩ := List.mem_map.1 hz
    have := hB.nl x hx
    unfold noneB
    simp
    omega
  · obtain ⟨x, hx, rfl⟩ := List.mem_map.1 hz
    have := hB.lb x hx
    unfold nlB Lab
    simp
    omega
theorem wrap_fit (x : Int) : Fit (IntKind.i64.wrap x) := by
  unfold Fit
  simp only [IntKind.wrap, IntKind.bits, IntKind.signed]
  simp
  omega
theorem told_true {P : Prop} {e : Ending} (h : TellsB P e) (hp : P) : e = .returned (.bool true) := by
  obtain ⟨b, rfl, hb⟩ := h
  rw [hb.2 hp]
set_option maxRecDepth 100000 in
set_option maxHeartbeats 16000000 in
theorem autoOne_any (bs : By) (na oa : Option Addr) (nc oc : Nat) (NZ OZ : List Int) (tn : Int) (w : World) (hn : NZ.length ≤ 17592186043904) (ho : OZ.length ≤ 17592186043904) (htn : Fit tn) (hna : ZAt w na NZ) (hoa : ZAt w oa OZ) :
    Calls Tryz.prog 3 #[auV bs na NZ.length nc oa OZ.length oc, .int .i64 tn] w fun e w' => e = .returned (.bool true) ∧ Below w.heap.size w w' := by
  obtain ⟨w2, hw2⟩ : ∃ w2, w2 = w.alloc (.cells #[.string ⟨bs.toArray⟩, .slice na NZ.length nc, .slice oa OZ.length oc] 24) := ⟨_, rfl⟩
  have X2 : Below w.heap.size w w2 := by rw [hw2]; exact al (Below.refl _ _) _
  have TA : Hid (At3 w2 w.heap.size bs (.slice na NZ.length nc) (.slice oa OZ.length oc)) := by unfold Hid; rw [hw2]; exact At3.new _ _ _ _
  have ZA := hide (hna.below X2)
  have ZO := hide (hoa.below X2)
  have HX := hide X2
  have HTN := hide htn
  have HBY := hide (beyond_any bs na oa NZ.length nc OZ.length oc bs na oa NZ.length nc OZ.length oc 0 w2)
  have HI : Hid ((Tryz.prog.info? 24).map (·.size) = some 3) := by unfold Hid; kernel_rfl
  clear X2 hna hoa htn
  unfold auV at HBY ⊢
  go_enter Tryz.func3, Tryz.ntmps3
  go_upto_region 1 with fail
  rw [← hw2]
  clear hw2
  obtain ⟨-, c0, c1, c2⟩ := TA.out
  go_wp2_with (fail)
  refine HBY.out.mono ?_
  rintro e w3 ⟨⟨bb, rfl⟩, x3⟩
  have X := hide x3
  clear HBY x3 c0 c1 c2
  replace TA := hide (TA.out.below X.out)
  replace ZA := hide (ZA.out.below X.out)
  replace ZO := hide (ZO.out.below X.out)
  replace HX := hide (bt HX.out X.out (Nat.le_refl _))
  cases bb with
  | true =>
    go_wp2
    go_ret
    exact ⟨rfl, HX.out⟩
  | false =>
    as_aux_lemma =>
    have HK := hide (known_any w3)
    go_upto_region 4 with (go_at_call 5; refine HK.out.mono ?_; rintro e w4 ⟨rfl, x4⟩; replace X := hide x4; clear x4)
    clear HK
    replace TA := hide (TA.out.below X.out)
    replace ZA := hide (ZA.out.below X.out)
    replace ZO := hide (ZO.out.below X.out)
    replace HX := hide (bt HX.out X.out (Nat.le_refl _))
    have HK := hide (least_any bs na oa nc oc NZ OZ w4 (by omega) (by omega) ZA.out ZO.out)
    unfold auV at HK
    obtain ⟨-, c0, c1, c2⟩ := TA.out
    go_upto_region 5 with (go_at_call 6; refine HK.out.mono ?_; rintro e w5 ⟨hP, x⟩; obtain ⟨cs, xa, xn, xc, xo, on, xd, m, he⟩ := hP.shape; subst he; have HP := hide hP; replace X := hide x; clear x hP)
    clear HK c0 c1 c2 TA ZA ZO
    replace HX := hide (bt HX.out X.out (Nat.le_refl _))
    obtain ⟨w6, hwm⟩ : ∃ w6, w6 = w5.alloc (.cells #[.string ⟨cs.toArray⟩, .slice xa xn xc, .slice xo on xd] 24) := ⟨_, rfl⟩
    have T6 : Hid (At3 w6 w5.heap.size cs (.slice xa xn xc) (.slice xo on xd)) := by unfold Hid; rw [hwm]; exact At3.new _ _ _ _
    have Y : Hid (Below w5.heap.size w5 w6) := by unfold Hid; rw [hwm]; exact al (Below.refl _ _) _
    rw [← hwm]
    clear hwm
    obtain ⟨p6, hpn⟩ : ∃ p6, p6 = w5.heap.size := ⟨_, rfl⟩
    rw [← hpn] at T6 ⊢
    clear hpn
    replace HX := hide (bt HX.out Y.out (Nat.le_refl _))
    by_cases hm : m = 0
    · subst hm
      obtain ⟨NX, OU, rfl, rfl, o1, o2, hM, hR, h256⟩ := HP.out.ok
      have O1 : Hid (NAt w6 xa NX) := OwnN.nat (own_below o1 Y.out)
      have O2 : Hid (NAt w6 xo OU) := OwnN.nat (own_below o2 Y.out)
      have HM := hide hM
      have HR := hide hR
      clear HP o1 o2 hM hR X Y
      have HC : Hid (∀ V, Below w6.heap.size w6 V → At3 V p6 cs (.slice xa NX.length xc) (.slice xo OU.length xd) ∧ NAt V xa NX ∧ NAt V xo OU) := fun V x => ⟨T6.out.below x, O1.out.below x, O2.out.below x⟩
      clear O1 O2
      have hn0 := HM.out.n0
      have hnx : NX.length ≤ 16777216 := HM.out.nxl
      obtain ⟨W, hW⟩ : ∃ W, Hid (W = NX.length / OU.length) := ⟨_, rfl⟩
      have hW1 : W ≤ 256 := by rw [hW.out]; exact HM.out.w1
      have HWL : Hid (NX.length = OU.length * W) := by unfold Hid; rw [hW.out]; exact HM.out.wl
      have hq : (NX.length : Int).tdiv (OU.length : Int) = (W : Int) := by rw [Int.tdiv_eq_ediv_of_nonneg (by omega), hW.out]; rfl
      have hw1 : IntKind.i64.wrap (W : Int) = (W : Int) := w64_n _ (by omega)
      have h0 : ¬ (OU.length : Int) = 0 := by omega
      obtain ⟨-, c0, c1, c2⟩ := T6.out
      obtain ⟨i3, hi3, hz30, hz31, hz32⟩ := info_parts Tryz.info3n
      go_upto_region 10 with fail
      have F7 := hide ((Fr.start w6).box 24 [.string ⟨cs.toArray⟩, .slice none 0 0, .slice none 0 0] (by unfold maxLen; simp))
      obtain ⟨w7, hw7⟩ : ∃ w7, w7 = w6.alloc (.cells #[.string ⟨cs.toArray⟩, .slice none 0 0, .slice none 0 0] 24) := ⟨_, rfl⟩
      replace F7 : Hid (Fr w6 ((.slice (some ⟨w6.heap.size, 0, none⟩) 3 3, 24, [.string ⟨cs.toArray⟩, .slice none 0 0, .slice none 0 0]) :: []) w7) := by rw [hw7]; exact F7
      rw [← hw7]
      clear hw7
      obtain ⟨gb, hgb⟩ : ∃ gb, gb = w6.heap.size := ⟨_, rfl⟩
      rw [← hgb] at F7 ⊢
      have HGB := hide hgb
      clear hgb c0 c1 c2 hq hw1 h0
      go_upto_region 11 with (at_make; refine wpList_make_full _ rfl (.tmp 52) (.tmp 52) 22 rfl w6.heap.size 3 i3 (.int .i64 0) 1 Tryz.underlying22 hi3 hz30 hz31 .i64 .i64 _ _ OU.length rfl rfl rfl rfl (by rw [hz32]; omega) (by unfold maxLen; omega) F7.out.bel.size ?_; intro w8 m1 m2; have F8 := hide (F7.out.mkN m1 m2); clear m1 m2)
      obtain ⟨gt, hgt⟩ : ∃ gt, gt = w7.heap.size := ⟨_, rfl⟩
      rw [← hgt] at F8 ⊢
      clear hgt F7
      obtain ⟨m, hm⟩ : ∃ m : Nat, OU.length = m + 1 := ⟨OU.length - 1, by omega⟩
      have HMM := hide hm
      clear hm
      obtain ⟨p, hp⟩ : ∃ p : Nat, Hid (p = pkZ tn m) := ⟨_, rfl⟩
      have S0 := hide (OnT.start OU.length p)
      go_wp2
      go_loopg [12] (OU.length + 1) (fun g x wr => ∃ (i : Nat) (T : List Nat), x = .int .i64 ((i : Nat) + 1) ∧ i + 1 ≤ OU.length ∧ Hid (OnT OU.length p (i + 1) T) ∧ Hid (Fr w6 ((.slice (some ⟨gt, 0, none⟩) OU.length OU.length, 3, nCells T) :: (.slice (some ⟨gb, 0, none⟩) 3 3, 24, [.string ⟨cs.toArray⟩, .slice none 0 0, .slice none 0 0]) :: []) wr) ∧ OU.length - i < g)
      case atStart => exact ⟨0, _, rfl, by omega, S0, F8, by omega⟩
      case round =>
        clear S0 F8
        obtain ⟨i, T, rfl, hi1, S, F, hg⟩ := hrel
        have HG := hide hg
        clear hg
        have hTl := S.out.1
        by_cases hi : i + 1 < OU.length
        · have hi' : (i : Int) + 1 < (OU.length : Int) := by omega
          have hm0 : 0 < m := by have := HMM.out; omega
          have hpm : p < m := by rw [hp.out]; exact pkZ_lt _ hm0
          have hm256 : m ≤ 256 := by have := HMM.out; omega
          have HPK : Hid (∀ V, Calls Tryz.prog 7 #[.int .i64 tn, .int .i64 (m : Nat)] V fun e w' => e = .returned (.int .i64 (p : Nat)) ∧ w' = V) := fun V => by rw [hp.out]; exact pick_any tn m HTN.out hm0 (by omega) V
          have f1 : IntKind.i64.wrap ((i : Int) + 1 - 1) = (i : Int) := by rw [show (i : Int) + 1 - 1 = (i : Int) by omega]; exact w64_n _ (by omega)
          have f1' : IntKind.i64.wrap (i : Int) = (i : Int) := w64_n _ (by omega)
          have f2 : IntKind.i64.wrap ((OU.length : Int) - 1) = (m : Int) := by rw [show (OU.length : Int) - 1 = (m : Int) by have := HMM.out; omega]; exact w64_n _ (by omega)
          have f3 : IntKind.i64.wrap ((i : Int) + (p : Int)) = (i : Int) + (p : Int) := by rw [show (i : Int) + (p : Int) = ((i + p : Nat) : Int) by simp]; exact w64_n _ (by omega)
          have f4 : ((i : Int) + (p : Int)).tmod (m : Int) = (((i + p) % m : Nat) : Int) := by rw [Int.tmod_eq_emod_of_nonneg (by omega)]; simp
          have f4' : ((i : Int) + (p : Int)) % (m : Int) = (((i + p) % m : Nat) : Int) := by simp
          have hr := Nat.mod_lt (i + p) hm0
          have S2 := hide (S.out.next (by omega) hi)
          rw [show i + 1 - 1 + p = i + p by omega, show OU.length - 1 = m by have := HMM.out; omega] at S2
          generalize (i + p) % m = r at *
          have f5 : IntKind.i64.wrap (1 + (r : Int)) = 1 + (r : Int) := by rw [show 1 + (r : Int) = ((1 + r : Nat) : Int) by simp]; exact w64_n _ (by omega)
          have f6 : IntKind.i64.wrap ((i : Int) + 1) = (i : Int) + 1 := by rw [show (i : Int) + 1 = ((i + 1 : Nat) : Int) by simp]; exact w64_n _ (by omega)
          have f7 : IntKind.i64.wrap ((i : Int) + 1 + 1) = (i : Int) + 1 + 1 := by rw [show (i : Int) + 1 + 1 = ((i + 1 + 1 : Nat) : Int) by simp]; exact w64_n _ (by omega)
          have hzm : ¬ (m : Int) = 0 := by omega
          have hlt : ((i : Int) + 1).toNat = i + 1 := by omega
          have hlz : (0 : Int) ≤ (i : Int) + 1 := by omega
          obtain ⟨s2, s3⟩ := F.out.slotN (i := 0) (by simp) rfl (k := i + 1) (by omega)
          have F2 := hide (F.out.storeN (i := 0) (by simp) rfl (i + 1) (1 + r))
          rw [show ((1 + r : Nat) : Int) = 1 + (r : Int) by simp] at F2
          clear S F
          go_wp2_with (go_at_call 7; refine (HPK.out _).mono ?_; rintro e wz ⟨rfl, hwz⟩; have hwz := hwz.symm; subst hwz)
          go_roundg (OU.length - (i + 1) + 1)
          case measure => have := HG.out; omega
          case rel => exact ⟨i + 1, _, by first | rfl | go_num | (congr 1; omega), by omega, S2, F2, by omega⟩
        · have hi' : ¬ (i : Int) + 1 < (OU.length : Int) := by omega
          have HA : Hid (OnA OU.length p T) := ⟨S.out.1, fun j hj => S.out.done (by omega) hj, fun h => by rw [show OU.length - 1 = m by have := HMM.out; omega, hp.out]; exact pkZ_lt _ (by have := HMM.out; omega)⟩
          clear S HG hi hi1 hp
          obtain ⟨L1, hL1⟩ : ∃ L1 : Nat, Hid (L1 = (OU.length + 1) * W) := ⟨_, rfl⟩
          have hLe : L1 ≤ 65792 := by
            rw [hL1.out]
            exact Nat.le_trans (Nat.mul_le_mul (show OU.length + 1 ≤ 257 by omega) hW1) (by decide)
          have g1 : IntKind.i64.wrap ((OU.length : Int) + 1) = (OU.length : Int) + 1 := by rw [show (OU.length : Int) + 1 = ((OU.length + 1 : Nat) : Int) by simp]; exact w64_n _ (by omega)
          have g2 : IntKind.i64.wrap (((OU.length : Int) + 1) * (W : Int)) = (L1 : Int) := by rw [show ((OU.length : Int) + 1) * (W : Int) = (L1 : Int) by rw [hL1.out]; simp]; exact w64_n _ (by omega)
          go_upto_region 16 with (at_make; refine wpList_make_full _ rfl (.tmp 76) (.tmp 76) 22 rfl w6.heap.size 3 i3 (.int .i64 0) 1 Tryz.underlying22 hi3 hz30 hz31 .i64 .i64 _ _ L1 rfl rfl rfl rfl (by rw [hz32]; omega) (by unfold maxLen; omega) F.out.bel.size ?_; intro w9 m1 m2; have F9 := hide (F.out.mkN m1 m2); clear m1 m2)
          obtain ⟨gn, hgn⟩ : ∃ gn, gn = wr.heap.size := ⟨_, rfl⟩
          rw [← hgn] at F9 ⊢
          clear hgn F
          go_upto_region 17 with (at_make; refine wpList_make_full _ rfl (.tmp 79) (.tmp 79) 22 rfl w6.heap.size 3 i3 (.int .i64 0) 1 Tryz.underlying22 hi3 hz30 hz31 .i64 .i64 _ _ (OU.length + 1) rfl rfl (by first | rfl | simp) (by first | rfl | simp) (by rw [hz32]; omega) (by unfold maxLen; omega) F9.out.bel.size ?_; intro w10 m1 m2; have F10 := hide (F9.out.mkN m1 m2); clear m1 m2)
          obtain ⟨go, hgo⟩ : ∃ go, go = w9.heap.size := ⟨_, rfl⟩
          rw [← hgo] at F10 ⊢
          clear hgo F9 g1 g2
          have S0 : Hid (OnN OU.length W T NX OU (List.replicate L1 0) (List.replicate (OU.length + 1) 0) 0 0) := by unfold Hid; rw [hL1.out]; exact OnN.start hn0
          have HNX : Hid (∀ k, k < OU.length → ∀ d, d < W → gN NX (k * W + d) < OU.length ∧ k * W + d < NX.length) := fun k hk d hd => by
            have h1 : k * W + d < NX.length := by rw [HWL.out]; exact at_lt hk hd
            exact ⟨by rw [gN_lt h1]; exact HM.out.nl _ (List.getElem_mem h1), h1⟩
          go_wp2
          go_loopg [15] (OU.length + 1) (fun g x wr => ∃ (i : Nat) (NB OB : List Nat), x = .int .i64 (i : Nat) ∧ i ≤ OU.length ∧ Hid (OnN OU.length W T NX OU NB OB i 0) ∧ Hid (Fr w6 ((.slice (some ⟨go, 0, none⟩) (OU.length + 1) (OU.length + 1), 3, nCells OB) :: (.slice (some ⟨gn, 0, none⟩) L1 L1, 3, nCells NB) :: (.slice (some ⟨gt, 0, none⟩) OU.length OU.length, 3, nCells T) :: (.slice (some ⟨gb, 0, none⟩) 3 3, 24, [.string ⟨cs.toArray⟩, .slice none 0 0, .slice none 0 0]) :: []) wr) ∧ OU.length - i < g)
          case atStart => exact ⟨0, _, _, rfl, by omega, S0, F10, by omega⟩
          case round =>
            clear S0 F10
            obtain ⟨i, NB, OB, rfl, hi1, S, F, hg⟩ := hrel
            have HG := hide hg
            clear hg
            by_cases hi : i < OU.length
            · have hi' : (i : Int) < (OU.length : Int) := by omega
              go_wp2
              go_loopg [16] (W + 1) (fun g x wr => ∃ (c : Nat) (NB : List Nat), x = .int .i64 (c : Nat) ∧ c ≤ W ∧ Hid (OnN OU.length W T NX OU NB OB i c) ∧ Hid (Fr w6 ((.slice (some ⟨go, 0, none⟩) (OU.length + 1) (OU.length + 1), 3, nCells OB) :: (.slice (some ⟨gn, 0, none⟩) L1 L1, 3, nCells NB) :: (.slice (some ⟨gt, 0, none⟩) OU.length OU.length, 3, nCells T) :: (.slice (some ⟨gb, 0, none⟩) 3 3, 24, [.string ⟨cs.toArray⟩, .slice none 0 0, .slice none 0 0]) :: []) wr) ∧ W - c < g)
              case atStart => exact ⟨0, NB, rfl, by omega, S, F, by omega⟩
              case round =>
                clear S F
                obtain ⟨c, NB, rfl, hc1, S, F, hg⟩ := hrel
                have HG2 := hide hg
                clear hg
                obtain ⟨T6, kx, ko⟩ := HC.out _ F.out.bel
                obtain ⟨-, c0, c1, c2⟩ := T6
                have ha := HA.out.lt hi
                have hTl := HA.out.len
                by_cases hc : c < W
                · have hc' : (c : Int) < (W : Int) := by omega
                  obtain ⟨hv, hz⟩ := HNX.out i hi c hc
                  have hu := HA.out.lt hv
                  have hat := S.out.at HA.out hi hc
                  have hNl := S.out.nl
                  rw [← hL1.out] at hNl
                  have S2 := hide (S.out.col HA.out hi hc hv)
                  obtain ⟨s0, _⟩ := F.out.slotN (i := 2) (by simp) rfl (k := i) (by omega)
                  obtain ⟨s1, _⟩ := F.out.slotN (i := 2) (by simp) rfl (k := gN NX (i * W + c)) (by omega)
                  obtain ⟨s2, s3⟩ := F.out.slotN (i := 1) (by simp) rfl (k := gN T i * W + c) (by omega)
                  obtain ⟨xb, xoff, rfl, -, -⟩ := kx.get hz
                  have sx := kx.atG hz
                  have F2 := hide ((F.out.storeN (i := 1) (by simp) rfl (gN T i * W + c) (gN T (gN NX (i * W + c)))).below (Below.refl _ _).drew)
                  clear kx ko S F
                  generalize gN T (gN NX (i * W + c)) = u at *
                  generalize gN NX (i * W + c) = v at *
                  generalize gN T i = a at *
                  have f1 : IntKind.i64.wrap ((a : Int) * (W : Int)) = ((a * W : Nat) : Int) := by rw [show (a : Int) * (W : Int) = ((a * W : Nat) : Int) by simp]; exact w64_n _ (by omega)
                  have f2 : IntKind.i64.wrap ((i : Int) * (W : Int)) = ((i * W : Nat) : Int) := by rw [show (i : Int) * (W : Int) = ((i * W : Nat) : Int) by simp]; exact w64_n _ (by omega)
                  generalize hy : a * W = y at *
                  generalize hzz : i * W = z at *
                  have f3 : IntKind.i64.wrap ((y : Int) + (c : Int)) = ((y + c : Nat) : Int) := by rw [show (y : Int) + (c : Int) = ((y + c : Nat) : Int) by simp]; exact w64_n _ (by omega)
                  have f4 : IntKind.i64.wrap ((z : Int) + (c : Int)) = ((z + c : Nat) : Int) := by rw [show (z : Int) + (c : Int) = ((z + c : Nat) : Int) by simp]; exact w64_n _ (by omega)
                  have h1 : (y : Int) + (c : Int) < (L1 : Int) := by omega
                  have h2 : (0 : Int) ≤ (y : Int) + (c : Int) := by omega
                  have h3 : ((y : Int) + (c : Int)).toNat = y + c := by omega
                  have h4 : (z : Int) + (c : Int) < (NX.length : Int) := by omega
                  have h5 : (0 : Int) ≤ (z : Int) + (c : Int) := by omega
                  have h6 : ((z : Int) + (c : Int)).toNat = z + c := by omega
                  have h7 : (v : Int) < (OU.length : Int) := by omega
                  clear hy hzz
                  go_upto_region 23 with fail
                  go_region
                  all_goals
                    go_wp2
                    go_roundg (W - (c + 1) + 1)
                    case measure => have := HG2.out; omega
                    case rel => exact ⟨c + 1, _, by first | rfl | go_num | (congr 1; omega), by omega, S2, F2, by omega⟩
                · have hc' : ¬ (c : Int) < (W : Int) := by omega
                  have hol := S.out.ol
                  have S2 := hide (S.out.out HA.out hi hc)
                  obtain ⟨s0, _⟩ := F.out.slotN (i := 2) (by simp) rfl (k := i) (by omega)
                  obtain ⟨s2, s3⟩ := F.out.slotN (i := 0) (by simp) rfl (k := gN T i) (by omega)
                  obtain ⟨ob, ooff, rfl, -, -⟩ := ko.get hi
                  have so := ko.atG hi
                  have F2 := hide ((F.out.storeN (i := 0) (by simp) rfl (gN T i) (gN OU i)).below (Below.refl _ _).drew)
                  clear kx ko S F
                  generalize gN T i = a at *
                  generalize gN OU i = o at *
                  have h7 : (a : Int) < (OU.length : Int) + 1 := by omega
                  go_upto_region 24 with fail
                  go_region
                  all_goals
                    go_wp2
                    go_roundg (OU.length - (i + 1) + 1)
                    case measure => have := HG.out; omega
                    case rel => exact ⟨i + 1, _, _, by first | rfl | go_num | (congr 1; omega), by omega, S2, F2, by omega⟩
            · have hi' : ¬ (i : Int) < (OU.length : Int) := by omega
              have S0 := hide (S.out.done hi)
              clear S HG hi hi1
              have HMW : Hid (m * W + W = OU.length * W ∧ L1 = OU.length * W + W) := by
                unfold Hid
                rw [hL1.out, HMM.out]
                exact ⟨(Nat.succ_mul m W).symm, Nat.succ_mul (m + 1) W⟩
              go_wp2
              go_loopg [17] (W + 1) (fun g x wr => ∃ (c : Nat) (NB : List Nat), x = .int .i64 (c : Nat) ∧ c ≤ W ∧ Hid (OnD OU.length W T NX OU NB OB c) ∧ Hid (Fr w6 ((.slice (some ⟨go, 0, none⟩) (OU.length + 1) (OU.length + 1), 3, nCells OB) :: (.slice (some ⟨gn, 0, none⟩) L1 L1, 3, nCells NB) :: (.slice (some ⟨gt, 0, none⟩) OU.length OU.length, 3, nCells T) :: (.slice (some ⟨gb, 0, none⟩) 3 3, 24, [.string ⟨cs.toArray⟩, .slice none 0 0, .slice none 0 0]) :: []) wr) ∧ W - c < g)
              case atStart => exact ⟨0, NB, rfl, by omega, S0, F, by omega⟩
              case round =>
                clear S0 F
                obtain ⟨c, NB, rfl, hc1, S, F, hg⟩ := hrel
                have HG := hide hg
                clear hg
                have hNl := S.out.nl
                rw [← hL1.out] at hNl
                have hol := S.out.ol
                by_cases hc : c < W
                · have hc' : (c : Int) < (W : Int) := by omega
                  have S2 := hide (S.out.next HA.out hc hn0)
                  rw [show OU.length - 1 = m by have := HMM.out; omega] at S2
                  obtain ⟨hmw, hl1⟩ := HMW.out
                  obtain ⟨s0, _⟩ := F.out.slotN (i := 1) (by simp) rfl (k := m * W + c) (by omega)
                  obtain ⟨s2, s3⟩ := F.out.slotN (i := 1) (by simp) rfl (k := OU.length * W + c) (by omega)
                  have F2 := hide (F.out.storeN (i := 1) (by simp) rfl (OU.length * W + c) (gN NB (m * W + c)))
                  have f0 : IntKind.i64.wrap ((OU.length : Int) - 1) = (m : Int) := by rw [show (OU.length : Int) - 1 = (m : Int) by have := HMM.out; omega]; exact w64_n _ (by have := HMM.out; omega)
                  clear S F
                  generalize gN NB (m * W + c) = u at *
                  have f1 : IntKind.i64.wrap ((m : Int) * (W : Int)) = ((m * W : Nat) : Int) := by rw [show (m : Int) * (W : Int) = ((m * W : Nat) : Int) by simp]; exact w64_n _ (by omega)
                  have f2 : IntKind.i64.wrap ((OU.length : Int) * (W : Int)) = ((OU.length * W : Nat) : Int) := by rw [show (OU.length : Int) * (W : Int) = ((OU.length * W : Nat) : Int) by simp]; exact w64_n _ (by omega)
                  generalize hy : m * W = y at *
                  generalize hzz : OU.length * W = z at *
                  have f3 : IntKind.i64.wrap ((y : Int) + (c : Int)) = ((y + c : Nat) : Int) := by rw [show (y : Int) + (c : Int) = ((y + c : Nat) : Int) by simp]; exact w64_n _ (by omega)
                  have f4 : IntKind.i64.wrap ((z : Int) + (c : Int)) = ((z + c : Nat) : Int) := by rw [show (z : Int) + (c : Int) = ((z + c : Nat) : Int) by simp]; exact w64_n _ (by omega)
                  have h1 : (y : Int) + (c : Int) < (L1 : Int) := by omega
                  have h2 : (0 : Int) ≤ (y : Int) + (c : Int) := by omega
                  have h3 : ((y : Int) + (c : Int)).toNat = y + c := by omega
                  have h4 : (z : Int) + (c : Int) < (L1 : Int) := by omega
                  have h5 : (0 : Int) ≤ (z : Int) + (c : Int) := by omega
                  have h6 : ((z : Int) + (c : Int)).toNat = z + c := by omega
                  clear hy hzz hmw hl1
                  go_wp2
                  go_roundg (W - (c + 1) + 1)
                  case measure => have := HG.out; omega
                  case rel => exact ⟨c + 1, _, by first | rfl | go_num | (congr 1; omega), by omega, S2, F2, by omega⟩
                · have hc' : ¬ (c : Int) < (W : Int) := by omega
                  obtain ⟨hD, hE⟩ := S.out.out HA.out hn0
                  rw [show OU.length - 1 = m by have := HMM.out; omega] at hD hE
                  have SD := hide hD
                  have SE := hide hE
                  have hm1 : m + 1 = OU.length := HMM.out.symm
                  have HM1 := hide hm1
                  obtain ⟨s0, _⟩ := F.out.slotN (i := 0) (by simp) rfl (k := m) (by omega)
                  obtain ⟨s2, s3⟩ := F.out.slotN (i := 0) (by simp) rfl (k := OU.length) (by omega)
                  have F2 := hide (F.out.storeN (i := 0) (by simp) rfl OU.length (gN OB m))
                  have f0 : IntKind.i64.wrap ((OU.length : Int) - 1) = (m : Int) := by rw [show (OU.length : Int) - 1 = (m : Int) by omega]; exact w64_n _ (by omega)
                  have h7 : (m : Int) < (OU.length : Int) + 1 := by omega
                  have h8 : (OU.length : Int) < (OU.length : Int) + 1 := by omega
                  have HCW := hide hc
                  clear S F hD hE hm1 hc hc1 HG
                  generalize OB.set OU.length (gN OB m) = OB2 at *
                  generalize gN OB m = u at *
                  go_upto_region 30 with fail
                  obtain ⟨w12, hw12⟩ : ∃ w12, w12 = wr.setCell ⟨go, OU.length, none⟩ (.int .i64 (u : Int)) := ⟨_, rfl⟩
                  rw [← hw12] at F2 ⊢
                  clear hw12 s0 s2 s3 f0 h7 h8 hc'
                  have SF := hide (OnF.start SD.out.lt)
                  go_wp2
                  go_loopg [18] (L1 + 1) (fun g x wr => ∃ (q : Nat) (NC : List Nat), x = .int .i64 (q : Nat) ∧ q ≤ L1 ∧ Hid (OnF OU.length NB NC q) ∧ Hid (Fr w6 ((.slice (some ⟨go, 0, none⟩) (OU.length + 1) (OU.length + 1), 3, nCells OB2) :: (.slice (some ⟨gn, 0, none⟩) L1 L1, 3, nCells NC) :: (.slice (some ⟨gt, 0, none⟩) OU.length OU.length, 3, nCells T) :: (.slice (some ⟨gb, 0, none⟩) 3 3, 24, [.string ⟨cs.toArray⟩, .slice none 0 0, .slice none 0 0]) :: []) wr) ∧ L1 - q < g)
                  case atStart => exact ⟨0, NB, rfl, by omega, SF, F2, by omega⟩
                  case round =>
                    clear SF F2
                    obtain ⟨q, NC, rfl, hq1, S, F, hg⟩ := hrel
                    have HG := hide hg
                    clear hg
                    have hCl : NC.length = L1 := by rw [S.out.1]; exact hNl
                    by_cases hq : q < L1
                    · have hq' : (q : Int) < (L1 : Int) := by omega
                      obtain ⟨s0, s1⟩ := F.out.slotN (i := 1) (by simp) rfl (k := q) (by omega)
                      have f0 : IntKind.i64.wrap ((OU.length : Int) - 1) = (m : Int) := by rw [show (OU.length : Int) - 1 = (m : Int) by have := HMM.out; omega]; exact w64_n _ (by have := HMM.out; omega)
                      have SK := hide S.out.skip
                      have ST : Hid (gN NC q = m → OnF OU.length NB (NC.set q OU.length) (q + 1)) := fun e => S.out.turn (by omega) (by rw [e]; have := HMM.out; omega)
                      have FT := hide (F.out.storeN (i := 1) (by simp) rfl q OU.length)
                      clear S
                      generalize gN NC q = v at *
                      by_cases hv : v = m
                      · subst hv
                        have ST2 := hide (ST.out rfl)
                        clear ST
                        by_cases hn1 : 1 < OU.length
                        · have hn1' : (1 : Int) < (OU.length : Int) := by omega
                          have HPK := hide (fun V => pick_any (IntKind.i64.wrap (tn + (q : Int))) 2 (wrap_fit _) (by decide) (by decide) V)
                          have hlt2 := pkZ_lt (IntKind.i64.wrap (tn + (q : Int))) (show 0 < 2 by decide)
                          generalize hcc : IntKind.i64.wrap (tn + (q : Int)) = cc at *
                          generalize pkZ cc 2 = b at *
                          by_cases hb : b = 1
                          · subst hb
                            go_wp2_with (go_at_call 7; refine (HPK.out _).mono ?_; rintro e wz ⟨rfl, hwz⟩; have hwz := hwz.symm; subst hwz)
                            go_roundg (L1 - (q + 1) + 1)
                            case measure => have := HG.out; omega
                            case rel => exact ⟨q + 1, _, by first | rfl | go_num | (congr 1; omega), by omega, ST2, FT, by omega⟩
                          · obtain rfl : b = 0 := by omega
                            go_wp2_with (go_at_call 7; refine (HPK.out _).mono ?_; rintro e wz ⟨rfl, hwz⟩; have hwz := hwz.symm; subst hwz)
                            go_roundg (L1 - (q + 1) + 1)
                            case measure => have := HG.out; omega
                            case rel => exact ⟨q + 1, _, by first | rfl | go_num | (congr 1; omega), by omega, SK, F, by omega⟩
                        · have hn1' : ¬ (1 : Int) < (OU.length : Int) := by omega
                          go_wp2
                          go_roundg (L1 - (q + 1) + 1)
                          case measure => have := HG.out; omega
                          case rel => exact ⟨q + 1, _, by first | rfl | go_num | (congr 1; omega), by omega, SK, F, by omega⟩
                      · have hv1 : ((v : Int) == (m : Int)) = false := by simp; omega
                        have hv2 : ¬ (v : Int) = (m : Int) := by omega
                        go_wp2
                        go_roundg (L1 - (q + 1) + 1)
                        case measure => have := HG.out; omega
                        case rel => exact ⟨q + 1, _, by first | rfl | go_num | (congr 1; omega), by omega, SK, F, by omega⟩
                    · have hq' : ¬ (q : Int) < (L1 : Int) := by omega
                      have HT : Hid (TwoD NX OU T NC OB2 W) := on_two rfl hn0 HA.out SD.out HCW.out (by rw [show OU.length - 1 = m by have := HMM.out; omega]; exact SE.out) S.out (fun k hk d hd => (HNX.out k hk d hd).1)
                      obtain ⟨hMB, hLB⟩ := on_lab HM.out h256 HA.out (by rw [← hW.out]; exact HT.out)
                      have HMB := hide hMB
                      have HLB := hide hLB
                      have hOl := SD.out.ol
                      have hBl : NC.length / OB2.length = NX.length / OU.length := by rw [hCl, hOl, hL1.out, ← hW.out]; exact Nat.mul_div_cancel_left _ (by omega)
                      have HZX := hide (may_back HM.out HR.out)
                      have HZB := hide (may_two HZX.out hn0 HMB.out hBl)
                      clear hMB hLB hBl S HG SD SE HA HT HNX HMW
                      obtain ⟨s0, s1⟩ := F.out.slot (i := 3) (by simp) rfl (k := 1) (by simp)
                      have F2 : Hid (Fr w6 ((.slice (some ⟨go, 0, none⟩) (OU.length + 1) (OU.length + 1), 3, nCells OB2) :: (.slice (some ⟨gn, 0, none⟩) L1 L1, 3, nCells NC) :: (.slice (some ⟨gt, 0, none⟩) OU.length OU.length, 3, nCells T) :: (.slice (some ⟨gb, 0, none⟩) 3 3, 24, [.string ⟨cs.toArray⟩, .slice (some ⟨gn, 0, none⟩) L1 L1, .slice none 0 0]) :: []) (wr.setCell ⟨gb, 1, none⟩ (.slice (some ⟨gn, 0, none⟩) L1 L1))) := F.out.store (i := 3) (by simp) rfl 1 (.slice (some ⟨gn, 0, none⟩) L1 L1)
                      go_upto_region 36 with fail
                      obtain ⟨w13, hw13⟩ : ∃ w13, w13 = wr.setCell ⟨gb, 1, none⟩ (.slice (some ⟨gn, 0, none⟩) L1 L1) := ⟨_, rfl⟩
                      rw [← hw13] at F2 ⊢
                      clear hw13 s0 s1 F
                      obtain ⟨s0, s1⟩ := F2.out.slot (i := 3) (by simp) rfl (k := 2) (by simp)
                      have F3 : Hid (Fr w6 ((.slice (some ⟨go, 0, none⟩) (OU.length + 1) (OU.length + 1), 3, nCells OB2) :: (.slice (some ⟨gn, 0, none⟩) L1 L1, 3, nCells NC) :: (.slice (some ⟨gt, 0, none⟩) OU.length OU.length, 3, nCells T) :: (.slice (some ⟨gb, 0, none⟩) 3 3, 24, [.string ⟨cs.toArray⟩, .slice (some ⟨gn, 0, none⟩) L1 L1, .slice (some ⟨go, 0, none⟩) (OU.length + 1) (OU.length + 1)]) :: []) (w13.setCell ⟨gb, 2, none⟩ (.slice (some ⟨go, 0, none⟩) (OU.length + 1) (OU.length + 1)))) := F2.out.store (i := 3) (by simp) rfl 2 (.slice (some ⟨go, 0, none⟩) (OU.length + 1) (OU.length + 1))
                      go_upto_region 37 with fail
                      obtain ⟨w14, hw14⟩ : ∃ w14, w14 = w13.setCell ⟨gb, 2, none⟩ (.slice (some ⟨go, 0, none⟩) (OU.length + 1) (OU.length + 1)) := ⟨_, rfl⟩
                      rw [← hw14] at F3 ⊢
                      clear hw14 s0 s1 F2
                      obtain ⟨d0, _⟩ := F3.out.slot (i := 3) (by simp) rfl (k := 0) (by simp)
                      obtain ⟨d1, _⟩ := F3.out.slot (i := 3) (by simp) rfl (k := 1) (by simp)
                      obtain ⟨d2, _⟩ := F3.out.slot (i := 3) (by simp) rfl (k := 2) (by simp)
                      simp only [List.getElem_cons_zero, List.getElem_cons_succ] at d0 d1 d2
                      obtain ⟨na1, nc1, e1, k1⟩ := F3.out.nat (i := 1) (by simp) rfl
                      obtain ⟨na2, nc2, e2, k2⟩ := F3.out.nat (i := 0) (by simp) rfl
                      simp only [Value.slice.injEq] at e1 e2
                      obtain ⟨e11, -, -⟩ := e1
                      obtain ⟨e21, -, -⟩ := e2
                      subst e11 e21
                      have HK := hide (least_any cs _ _ L1 (OU.length + 1) (zN NC) (zN OB2) w14 (by rw [zN_len]; omega) (by rw [zN_len]; omega) k1.raw k2.raw)
                      unfold auV at HK
                      rw [zN_len, zN_len, hCl, hOl] at HK
                      have XW := hide F3.out.bel
                      clear k1 k2
                      go_upto_region 38 with (go_at_call 6; refine HK.out.mono ?_; rintro e w15 ⟨hP, x⟩; obtain ⟨ya, yc, yo, yd, he, z1, z2⟩ := LeP.same HM.out HR.out h256 HLB.out HZB.out hP; subst he; have ZY := hide z1; have ZP := hide z2; have X := hide x; clear x hP z1 z2)
                      clear HK d0 d1 d2 F3
                      replace XW := hide (bt XW.out X.out (Nat.le_refl _))
                      obtain ⟨w16, hwm⟩ : ∃ w16, w16 = w15.alloc (.cells #[.string ⟨cs.toArray⟩, .slice ya NX.length yc, .slice yo OU.length yd] 24) := ⟨_, rfl⟩
                      have TY : Hid (At3 w16 w15.heap.size cs (.slice ya NX.length yc) (.slice yo OU.length yd)) := by unfold Hid; rw [hwm]; exact At3.new _ _ _ _
                      have Y : Hid (Below w15.heap.size w15 w16) := by unfold Hid; rw [hwm]; exact al (Below.refl _ _) _
                      rw [← hwm]
                      clear hwm X
                      replace XW := hide (bt XW.out Y.out (Nat.le_refl _))
                      replace ZY := hide (ZY.out.below Y.out)
                      replace ZP := hide (ZP.out.below Y.out)
                      obtain ⟨T6', kx, ko⟩ := HC.out _ XW.out
                      obtain ⟨-, c0, c1, c2⟩ := T6'
                      obtain ⟨-, d0, d1, d2⟩ := TY.out
                      have HK := hide (sameZ_any cs cs xa xo ya yo xc xd yc yd (zN NX) (zN OU) (zN NX) (zN OU) w16 (by rw [zN_len]; omega) (by rw [zN_len]; omega) kx.raw ko.raw ZY.out ZP.out)
                      unfold auV at HK
                      rw [zN_len, zN_len] at HK
                      go_upto_region 39 with (go_at_call 8; refine HK.out.mono ?_; rintro e w17 ⟨ht, x⟩; have he := told_true ht ⟨rfl, rfl, rfl⟩; subst he; have X := hide x; clear x ht)
                      clear HK c0 c1 c2 d0 d1 d2 kx ko TY ZY ZP Y
                      replace XW := hide (bt XW.out X.out (Nat.le_refl _))
                      obtain ⟨T6', kx, ko⟩ := HC.out _ XW.out
                      obtain ⟨-, c0, c1, c2⟩ := T6'
                      have HK := hide (least_any cs xa xo xc xd (zN NX) (zN OU) w17 (by rw [zN_len]; omega) (by rw [zN_len]; omega) kx.raw ko.raw)
                      unfold auV at HK
                      rw [zN_len, zN_len] at HK
                      go_upto_region 40 with (go_at_call 6; refine HK.out.mono ?_; rintro e w18 ⟨hP, x⟩; obtain ⟨ya, yc, yo, yd, he, z1, z2⟩ := LeP.same HM.out HR.out h256 (fun _ _ => rfl) HZX.out hP; subst he; have ZY := hide z1; have ZP := hide z2; replace X := hide x; clear x hP z1 z2)
                      clear HK c0 c1 c2 kx ko
                      replace XW := hide (bt XW.out X.out (Nat.le_refl _))
                      obtain ⟨w19, hwm⟩ : ∃ w19, w19 = w18.alloc (.cells #[.string ⟨cs.toArray⟩, .slice ya NX.length yc, .slice yo OU.length yd] 24) := ⟨_, rfl⟩
                      have TY : Hid (At3 w19 w18.heap.size cs (.slice ya NX.length yc) (.slice yo OU.length yd)) := by unfold Hid; rw [hwm]; exact At3.new _ _ _ _
                      have Y : Hid (Below w18.heap.size w18 w19) := by unfold Hid; rw [hwm]; exact al (Below.refl _ _) _
                      rw [← hwm]
                      clear hwm X
                      replace XW := hide (bt XW.out Y.out (Nat.le_refl _))
                      replace ZY := hide (ZY.out.below Y.out)
                      replace ZP := hide (ZP.out.below Y.out)
                      obtain ⟨T6', kx, ko⟩ := HC.out _ XW.out
                      obtain ⟨-, c0, c1, c2⟩ := T6'
                      obtain ⟨-, d0, d1, d2⟩ := TY.out
                      have HK := hide (sameZ_any cs cs xa xo ya yo xc xd yc yd (zN NX) (zN OU) (zN NX) (zN OU) w19 (by rw [zN_len]; omega) (by rw [zN_len]; omega) kx.raw ko.raw ZY.out ZP.out)
                      unfold auV at HK
                      rw [zN_len, zN_len] at HK
                      go_upto_region 41 with (go_at_call 8; refine HK.out.mono ?_; rintro e w20 ⟨ht, x⟩; have he := told_true ht ⟨rfl, rfl, rfl⟩; subst he; have X := hide x; clear x ht)
                      clear HK c0 c1 c2 d0 d1 d2 kx ko TY ZY ZP Y
                      replace XW := hide (bt XW.out X.out (Nat.le_refl _))
                      obtain ⟨T6', kx, ko⟩ := HC.out _ XW.out
                      obtain ⟨-, c0, c1, c2⟩ := T6'
                      have HK := hide (rightA_any cs xa xo xc xd (zN NX) (zN OU) w20 (by rw [zN_len]; omega) (by rw [zN_len]; omega) kx.raw ko.raw)
                      unfold auV at HK
                      rw [zN_len, zN_len] at HK
                      have HRZ : Hid (RightZ cs (zN NX) (zN OU)) := ⟨by rw [zN_len]; exact h256, NX, OU, rfl, rfl, HM.out, HR.out⟩
                      go_wp2_with (go_at_call 9; refine HK.out.mono ?_; rintro e w21 ⟨ht, x⟩; have he := told_true ht HRZ.out; subst he; replace X := hide x; clear x ht)
                      have Xf := hide (bt HX.out (bt XW.out X.out (Nat.le_refl _)) (Nat.le_refl _))
                      go_ret
                      exact ⟨rfl, Xf.out⟩
    · have hm1 : (m == 0) = false := by simp [hm]
      go_wp2
      go_ret
      exact ⟨rfl, HX.out⟩
end Go.Proofs.YtdgoilkgplnhfabGreat
