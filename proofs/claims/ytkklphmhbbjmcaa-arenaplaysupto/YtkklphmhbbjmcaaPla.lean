/-
  The statement ArenaPlays, walked whole. Condition: numbers of the machine's kind; lists no longer than a process can hold; no more operations than 2000000.
-/
import Derived.Test.YtkklphmhbbjmcaaPl1
import Derived.Test.YtkklphmhbbjmcaaKnw
namespace Go.Proofs.Ytkklphmhbbjmcaa
open Go.RowKit Go.Lib Go.Maps

theorem set_drop {xs : List Value} {zs : List Value} {i : Nat} {v : Value} (h : ∀ j, i ≤ j → xs[j]? = zs[j]?) : ∀ j, i + 1 ≤ j → (xs.set i v)[j]? = zs[j]? := fun j hj => by rw [List.getElem?_set_ne (by omega)]; exact h j (by omega)
theorem zget (L : List Int) (T : List Int) (i : Nat) (h : i < L.length) : (zC (L ++ T))[i]? = some (.int .i64 (L.getD i 0)) := by
  rw [zC_get _ (by rw [List.length_append]; omega)]
  rw [List.getD_eq_getElem?_getD, List.getD_eq_getElem?_getD, List.getElem?_append_left h]
theorem zget2 (L : List Int) (i : Nat) (h : L.length ≤ i) (h2 : i < L.length + 2) : (zC (L ++ [0, 0]))[i]? = some (.int .i64 0) := by
  rw [zC_get _ (by simp; omega)]
  have : i = L.length ∨ i = L.length + 1 := by omega
  rcases this with rfl | rfl <;> simp [List.getD_eq_getElem?_getD]
set_option maxRecDepth 100000 in
set_option maxHeartbeats 8000000 in
theorem plays_any (ao bo so : Option Addr) (ac bc sc : Nat) (A B : List Int) (M1 M2 : Int) (T : List OpZ) (w : World) (hA : A.length ≤ 17592186043904) (hB : B.length ≤ 17592186043904) (hT : T.length ≤ 1900000) (zA : ZAt w ao A) (zB : ZAt w bo B) (hS : OpAt w so T) :
    Calls Try.prog 3 #[.slice ao A.length ac, .int .i64 M1, .slice bo B.length bc, .int .i64 M2, .slice so T.length sc] w fun e w' => e = .returned (.bool true) ∧ Below w.heap.size w w' := by
  obtain ⟨i3, hi3, hz30, hz31, hz32⟩ := info_parts Try.info3
  have ZA := hide zA
  have ZB := hide zB
  have HS := hide hS
  clear zA zB hS
  have HKN := hide (known_any w)
  have hc3 : ((A.length : Int) + 2) = ((A.length + 2 : Nat) : Int) := by omega
  have HC3 := hide hc3
  have HLC : Hid ((zC A).length = A.length * 1) := by unfold Hid; rw [zC_length, Nat.mul_one]
  have f1 : IntKind.i64.wrap ((A.length : Int) + 2) = (A.length : Int) + 2 := by simp [IntKind.wrap, IntKind.bits, IntKind.signed]; omega
  clear hc3
  go_enter Try.func3, Try.ntmps3
  go_upto_region 2 with (go_at_call 5; refine HKN.out.mono ?_; rintro e w4 ⟨rfl, x4⟩; have X4 := hide x4; clear x4)
  have HZ4 := hide (ZA.out.below X4.out)
  go_upto_region 4 with (first
      | (refine wpList_copy_wide rfl (.tmp 36) (.tmp 37) 22 22 rfl 3 1 Try.underlying22 Try.size3 w4.heap.size (A.length + 2) (A.length + 2) ao A.length ac rfl rfl cur 3 G1.out (zC A) HLC.out (by omega) G3.out G2.out G4.out (zC_one A) ?_; generalize w5.setRow w4.heap.size (zC A ++ cur.toList.drop (zC A).length).toArray = w6 at G5 ⊢)
      | (refine wpList_make_full _ rfl (.tmp 34) (.tmp 34) 22 rfl w4.heap.size 3 i3 (.int .i64 0) 1 Try.underlying22 hi3 hz30 hz31 .i64 .i64 _ _ (A.length + 2) rfl rfl HC3.out HC3.out (by rw [hz32]; omega) (by unfold maxLen; omega) (Nat.le_refl _) ?_; intro w5 h1 h2; obtain ⟨cur, g1, g2, g3, g4, g5⟩ := len2_copied HZ4.out h1 h2; have G1 := hide g1; have G2 := hide g2; have G3 := hide g3; have G4 := hide g4; have G5 := hide g5; clear h1 h2 g1 g2 g3 g4 g5))
  clear G1 G2 G3 G4 HLC HKN
  obtain ⟨o6, x6⟩ := G5.out
  obtain ⟨g, hg⟩ : ∃ g, g = w4.heap.size := ⟨_, rfl⟩
  have HGE : Hid (w.heap.size ≤ g) := by unfold Hid; rw [hg]; exact X4.out.size
  rw [← hg] at o6 ⊢
  have O6 := hide o6
  have X6 := hide (bt X4.out x6 (Nat.le_refl _))
  clear o6 x6 G5 hg HZ4 X4
  have HGL : Hid (g < w6.heap.size) := (World.ownsRow.lt O6.out g rfl).2
  have hcap1 : A.length ≤ A.length + 2 := by omega
  have hcap1' : (A.length : Int) ≤ (A.length : Int) + 2 := by omega
  have HN1 := hide (newC_any (some ⟨g, 0, none⟩) (A.length + 2) A M1 w6 (by omega) (own_at O6.out))
  go_upto_region 5 with (go_at_call 6; refine HN1.out.mono ?_; intro e w7 h7; obtain ⟨po0, er0, rfl⟩ := h7.form; have N7 := hide h7; clear h7)
  have X7 := hide N7.out.2
  have HN2 := hide (newD_any ao ac A M1 w7 (by omega) (ZA.out.below (bt X6.out X7.out (Nat.le_refl _))))
  go_upto_region 6 with (go_at_call 7; refine HN2.out.mono ?_; intro e w8 h8; obtain ⟨qo0, er0', rfl⟩ := h8.form; obtain ⟨he, o0, p0, q0, k0, ft0, -, -⟩ := nw_both (base := w.heap.size) X6.out.size (Below.refl _ _) N7.out h8; subst he; have P0 := hide p0; have Q0 := hide q0; have K0 := hide k0; have FT0 := hide ft0; have X8 := hide (bt X7.out h8.2 (Nat.le_refl _)); clear h8 p0 q0 k0 ft0)
  clear HN1 HN2 N7 X7
  have X8' := hide (bt X6.out X8.out (Nat.le_refl _))
  have HN3 := hide (newC_any bo bc B M2 w8 (by omega) (ZB.out.below X8'.out))
  go_upto_region 7 with (go_at_call 6; refine HN3.out.mono ?_; intro e w9 h9; obtain ⟨po1, er1, rfl⟩ := h9.form; have N9 := hide h9; clear h9)
  have X9 := hide N9.out.2
  have HN4 := hide (newD_any bo bc B M2 w9 (by omega) (ZB.out.below (bt X8'.out X9.out (Nat.le_refl _))))
  go_upto_region 8 with (go_at_call 7; refine HN4.out.mono ?_; intro e w10 h10; obtain ⟨qo1, er1', rfl⟩ := h10.form; obtain ⟨he, o1, p1, q1, k1, ft1, -, -⟩ := nw_both (base := w.heap.size) X8'.out.size (Below.refl _ _) N9.out h10; subst he; have P1 := hide p1; have Q1 := hide q1; have K1 := hide k1; have FT1 := hide ft1; have X10 := hide (bt X9.out h10.2 (Nat.le_refl _)); clear h10 p1 q1 k1 ft1)
  clear HN3 HN4 N9 X9
  have K0' := hide (K0.out.below X10.out)
  have AP0 : Hid (∀ k, foot o0 k → ¬ foot o1 k) := fun k h1 h2 => by have := (K0.out.lt h1).2; have := FT1.out k h2; omega
  have HFG : Hid (∀ k, foot o0 k ∨ foot o1 k → ¬ k = g) := fun k h1 => by
    have := HGL.out
    rcases h1 with h1 | h1
    · have := FT0.out k h1; omega
    · have := FT1.out k h1; have := X8.out.size; omega
  have O10 := hide (own_below (own_below O6.out X8.out) X10.out)
  have X10' := hide (bt X8'.out X10.out (Nat.le_refl _))
  clear O6 X6 X8 X8' X10 K0 FT0 FT1
  have HD0 : Hid (po0.isNone = qo0.isNone) := by
    have h1 := P0.out
    have h2 := Q0.out
    unfold aV at h1
    unfold xV at h2
    simp only [Value.pointer.injEq] at h1 h2
    rw [h1, h2]
    cases o0 <;> rfl
  have HD1 : Hid (po1.isNone = qo1.isNone) := by
    have h1 := P1.out
    have h2 := Q1.out
    unfold aV at h1
    unfold xV at h2
    simp only [Value.pointer.injEq] at h1 h2
    rw [h1, h2]
    cases o1 <;> rfl
  go_cut [91] (fun v wx => v = .bool false ∧ Hid (wx = w10))
  case first =>
    have hd0 := HD0.out
    have hd1 := HD1.out
    clear HD0 HD1
    cases po0 <;> cases qo0 <;> simp at hd0 <;> cases po1 <;> cases qo1 <;> simp at hd1
    all_goals
      go_wp2
      go_meet
      exact ⟨rfl, rfl⟩
  case rest =>
    obtain ⟨rfl, HW⟩ := hcut
    have hw := HW.out.symm
    clear HW
    subst hw
    go_upto_block 0 with fail
    go_cut [] (fun wx => Hid (Kept (fun k => k = g) w10 wx))
    case first =>
      go_wp2
      go_loopw [21] (fun y wr => ∃ i : Nat, i ≤ A.length + 2 ∧ y = .int .i64 i ∧ ∃ xs, Hid (wr.ownsRow g 3 1 (.slice (some ⟨g, 0, none⟩) (A.length + 2) (A.length + 2)) (A.length + 2) xs) ∧ Hid (∀ j, i ≤ j → xs[j]? = (zC (A ++ [0, 0]))[j]?) ∧ Hid (Kept (fun k => k = g) w10 wr)) (fun y _ => (A.length + 2) - (RowKit.intOf y).toNat)
      case atStart => exact ⟨0, Nat.zero_le _, rfl, _, O10, fun _ _ => rfl, Kept.refl _ _⟩
      case round =>
        obtain ⟨i, hi, rfl, xs, O12, HX, K12⟩ := hrel
        rename World => w12
        by_cases hlt : i < A.length + 2
        · have hlt' : (i : Int) < (A.length : Int) + 2 := by omega
          have hlt2 : (i : Int) < ((A.length + 2 : Nat) : Int) := by omega
          have hx := O12.out.1
          have hxi := HX.out i (Nat.le_refl _)
          have HX3 : Hid (∀ j, i + 1 ≤ j → (xs.set i (.int .i64 1))[j]? = (zC (A ++ [0, 0]))[j]?) := set_drop HX.out
          have HDr : Hid (Below w12.heap.size w12 w12.drew) := (Below.refl _ _).drew
          have hgl := (World.ownsRow.lt O12.out g rfl).2
          have d0 := World.ownsRow.cellAt O12.out i (by omega)
          rw [hxi] at d0
          by_cases hla : i < A.length
          · have hla' : (i : Int) < (A.length : Int) := by omega
            have hge1 : ¬ A.length ≤ i := by omega
            have hge2 : ¬ (A.length : Int) ≤ (i : Int) := by omega
            rw [zget A [0, 0] i hla] at d0
            obtain ⟨b1, of1, rfl, hb1, g1⟩ := ZA.out.get hla
            have g2 : w12.cell? ⟨b1, of1 + i, none⟩ = some (.int .i64 (A.getD i 0)) := (K12.out.cell (p := ⟨b1, of1 + i, none⟩) (Nat.lt_of_lt_of_le hb1 X10'.out.size) (by have := HGE.out; intro e; simp only at e; omega)).trans ((X10'.out.cell (p := ⟨b1, of1 + i, none⟩) hb1).trans g1)
            have HRD : Hid (∀ V, Below w12.heap.size w12 V → V.cell? ⟨g, i, none⟩ = some (.int .i64 (A.getD i 0)) ∧ V.cell? ⟨b1, of1 + i, none⟩ = some (.int .i64 (A.getD i 0))) := fun V y => ⟨(y.cell (p := ⟨g, i, none⟩) hgl).trans d0, (y.cell (p := ⟨b1, of1 + i, none⟩) (Nat.lt_of_lt_of_le hb1 (Nat.le_trans X10'.out.size K12.out.size))).trans g2⟩
            generalize A.getD i 0 = v at *
            have ev : (v != v) = false := by simp
            clear hx hxi g1 g2 d0 HX
            go_upto_region 13 with fail
            refine wp_region_quiet (C := fun w' => Below w12.heap.size w12 w') (by kernel_rfl) (by kernel_rfl) HDr.out ?_
            refine QW.out (l := _ :: _) ?_
            iterate 21 (refine QW.take (by rfl) ?_; apply Exists.intro; refine ⟨fun w' hw' => ?_, ?_⟩; (· (obtain ⟨q1, q2⟩ := HRD.out w' hw'; go_simp; first | done | (first | done | rfl))); try simp only [Act.put, List.setIfInBounds_toArray, List.set_cons_zero, List.set_cons_succ])
            iterate 5 (refine QW.skip (by rfl) ?_; try simp only [Act.put, List.setIfInBounds_toArray, List.set_cons_zero, List.set_cons_succ])
            iterate 2 (refine QW.take (by rfl) ?_; apply Exists.intro; refine ⟨fun w' hw' => ?_, ?_⟩; (· (obtain ⟨q1, q2⟩ := HRD.out w' hw'; go_simp; first | done | (first | done | rfl))); try simp only [Act.put, List.setIfInBounds_toArray, List.set_cons_zero, List.set_cons_succ])
            refine QW.nil ?_
            intro w13 x13
            have hst : w13.cell? ⟨g, i, none⟩ = some (.int .i64 v) := (HRD.out w13 x13).1
            have o14 := own_below O12.out x13
            obtain ⟨o15, k15⟩ := o14.stored i (.int .i64 1)
            have f0 := o14.frozenAt (g := g) i
            have O15 := hide o15
            have K15 : Hid (Kept (fun k => k = g) w10 (w13.setCell ⟨g, i, none⟩ (.int .i64 1))) := (K12.out.trans (Kept.of_below x13)).trans ((kept_of_grown k15).mono (fun k hk => by injection hk with hk; exact hk.symm))
            clear o14 o15 k15 x13
            go_wp2
            exact ⟨⟨i + 1, by omega, by go_num, _, O15, HX3, K15⟩, by simp [RowKit.intOf]; omega⟩
          · have hla' : ¬ (i : Int) < (A.length : Int) := by omega
            have hge1 : A.length ≤ i := by omega
            have hge2 : (A.length : Int) ≤ (i : Int) := by omega
            rw [zget2 A i (by omega) hlt] at d0
            have HRD : Hid (∀ V, Below w12.heap.size w12 V → V.cell? ⟨g, i, none⟩ = some (.int .i64 0)) := fun V y => (y.cell (p := ⟨g, i, none⟩) hgl).trans d0
            clear hx hxi d0 HX
            go_upto_region 13 with fail
            refine wp_region_quiet (C := fun w' => Below w12.heap.size w12 w') (by kernel_rfl) (by kernel_rfl) HDr.out ?_
            refine QW.out (l := _ :: _) ?_
            iterate 5 (refine QW.take (by rfl) ?_; apply Exists.intro; refine ⟨fun w' hw' => ?_, ?_⟩; (· (have q1 := HRD.out w' hw'; go_simp; first | done | (first | done | rfl))); try simp only [Act.put, List.setIfInBounds_toArray, List.set_cons_zero, List.set_cons_succ])
            iterate 9 (refine QW.skip (by rfl) ?_; try simp only [Act.put, List.setIfInBounds_toArray, List.set_cons_zero, List.set_cons_succ])
            iterate 14 (refine QW.take (by rfl) ?_; apply Exists.intro; refine ⟨fun w' hw' => ?_, ?_⟩; (· (have q1 := HRD.out w' hw'; go_simp; first | done | (first | done | rfl))); try simp only [Act.put, List.setIfInBounds_toArray, List.set_cons_zero, List.set_cons_succ])
            refine QW.nil ?_
            intro w13 x13
            have hst : w13.cell? ⟨g, i, none⟩ = some (.int .i64 0) := HRD.out w13 x13
            have o14 := own_below O12.out x13
            obtain ⟨o15, k15⟩ := o14.stored i (.int .i64 1)
            have f0 := o14.frozenAt (g := g) i
            have O15 := hide o15
            have K15 : Hid (Kept (fun k => k = g) w10 (w13.setCell ⟨g, i, none⟩ (.int .i64 1))) := (K12.out.trans (Kept.of_below x13)).trans ((kept_of_grown k15).mono (fun k hk => by injection hk with hk; exact hk.symm))
            clear o14 o15 k15 x13
            go_wp2
            exact ⟨⟨i + 1, by omega, by go_num, _, O15, HX3, K15⟩, by simp [RowKit.intOf]; omega⟩
        · have hlt' : ¬ (i : Int) < (A.length : Int) + 2 := by omega
          go_wp2
          go_meet
          exact K12
    case rest =>
      have hK := hcut.out
      have X11 : Hid (Below w.heap.size w wc) := X10'.out.trans (hK.below X10'.out.size (fun k hk => by rw [hk]; exact HGE.out))
      have HPI := hide (PI.start (w0 := w) #[.pointer po0, .pointer qo0, .pointer po1, .pointer qo1] P0.out Q0.out P1.out Q1.out (K0'.out.kept hK (fun k hk => HFG.out k (.inl hk))) (K1.out.kept hK (fun k hk => HFG.out k (.inr hk))) AP0.out X11.out.size X11.out)
      clear hK hcut P0 Q0 P1 Q1 K0' K1 AP0 HFG O10 X10' HGL HGE HD0 HD1
      go_upto_region 17 with fail
      obtain ⟨sb, hsb⟩ : ∃ sb, sb = wc.heap.size := ⟨_, rfl⟩
      unfold svS at HPI
      rw [← hsb] at HPI ⊢
      have X12 : Hid (w.heap.size ≤ sb) := by unfold Hid; rw [hsb]; exact X11.out.size
      clear hsb X11
      generalize (wc.alloc (.cells #[.pointer po0, .pointer qo0, .pointer po1, .pointer qo1] 34)).alloc (.cells #[.slice (some ⟨sb, 0, none⟩) 2 2, .slice none 0 0] 38) = w1 at *
      go_upto_block 2 with fail
      go_cut [] (fun wx => Hid (PI w w.heap.size (sb + 1) sb #[.pointer po0, .pointer qo0, .pointer po1, .pointer qo1] po0 qo0 po1 qo1 T.length wx))
      case first =>
        go_wp2
        go_loopw [23] (fun y wr => ∃ i : Nat, i ≤ T.length ∧ y = .int .i64 i ∧ Hid (PI w w.heap.size (sb + 1) sb #[.pointer po0, .pointer qo0, .pointer po1, .pointer qo1] po0 qo0 po1 qo1 i wr)) (fun y _ => T.length - (RowKit.intOf y).toNat)
        case atStart => exact ⟨0, Nat.zero_le _, rfl, HPI⟩
        case round =>
          obtain ⟨i, hi, rfl, I1⟩ := hrel
          by_cases hlt : i < T.length
          · have hlt' : (i : Int) < (T.length : Int) := by omega
            obtain ⟨lv, b1, b2, y1, -⟩ := I1.out.read
            obtain ⟨tb, off, rfl, htb, ⟨t0, t1, t2, t3, t4⟩, hop⟩ := HS.out.get hlt
            generalize T[i] = o at *
            obtain ⟨other, near, what, n, ka, kl, kc⟩ := o
            simp only at t0 t1 t2 t3 t4
            have HOP := hide hop
            have HTC : Hid (∀ V, Below w.heap.size w V → V.cell? ⟨tb, off + i * 5, none⟩ = some (.bool other) ∧ V.cell? ⟨tb, off + i * 5 + 1, none⟩ = some (.bool near) ∧ V.cell? ⟨tb, off + i * 5 + 2, none⟩ = some (.int .i64 what) ∧ V.cell? ⟨tb, off + i * 5 + 3, none⟩ = some (.int .i64 n) ∧ V.cell? ⟨tb, off + i * 5 + 4, none⟩ = some (.slice ka kl.length kc)) := fun V y => ⟨(y.cell (p := ⟨tb, off + i * 5, none⟩) htb).trans t0, (y.cell (p := ⟨tb, off + i * 5 + 1, none⟩) htb).trans t1, (y.cell (p := ⟨tb, off + i * 5 + 2, none⟩) htb).trans t2, (y.cell (p := ⟨tb, off + i * 5 + 3, none⟩) htb).trans t3, (y.cell (p := ⟨tb, off + i * 5 + 4, none⟩) htb).trans t4⟩
            clear t0 t1 t2 t3 t4 hop htb
            obtain ⟨c0, -⟩ := cell_two b1
            unfold svS at c0
            obtain ⟨d0, d1, d2, d3⟩ := cell_four b2
            go_upto_region 21 with fail
            clear c0 d0 d1 d2 d3 b1 b2
            have y2 : Below wr.heap.size wr (wr.alloc (.cells #[.pointer po0, .pointer qo0] 34)) := al (Below.refl _ _) _
            have B2 := hide (heap_alloc_new wr (.cells #[.pointer po0, .pointer qo0] 34))
            have I2 := hide (I1.out.below y1.size y2)
            obtain ⟨xb, hxb⟩ : ∃ xb, xb = wr.heap.size := ⟨_, rfl⟩
            have HXE := hide hxb
            have Y2 := hide y2
            have Y1 := hide y1.size
            rw [← hxb] at B2 ⊢
            clear hxb y1 y2
            generalize wr.alloc (.cells #[.pointer po0, .pointer qo0] 34) = w2 at *
            obtain ⟨lv, b1, b2, y2, -⟩ := I2.out.read
            obtain ⟨c0, -⟩ := cell_two b1
            unfold svS at c0
            obtain ⟨d0, d1, d2, d3⟩ := cell_four b2
            obtain ⟨t0, -⟩ := HTC.out w2 y2
            obtain ⟨r0, r1⟩ := cell_two B2.out
            have f0 := frozen_of_row w2 xb 0 _ _ B2.out
            have f1 := frozen_of_row w2 xb 1 _ _ B2.out
            go_upto_if 154 with fail
            clear t0
            go_cut [] (fun wx => ∃ po qo po' qo', Hid (wx.heap[xb]? = some (.cells #[.pointer po, .pointer qo] 34 (0, 0))) ∧ Hid (PI w w.heap.size (sb + 1) sb #[.pointer po0, .pointer qo0, .pointer po1, .pointer qo1] po qo po' qo' i wx) ∧ Hid (∀ mm V, PI w w.heap.size (sb + 1) sb #[.pointer po0, .pointer qo0, .pointer po1, .pointer qo1] po qo po' qo' mm V → PI w w.heap.size (sb + 1) sb #[.pointer po0, .pointer qo0, .pointer po1, .pointer qo1] po0 qo0 po1 qo1 mm V))
            case first =>
              cases other
              · go_wp2
                go_meet
                exact ⟨po0, qo0, po1, qo1, B2, I2, fun _ _ h => h⟩
              · have B3 := hide (block_setCell (block_setCell B2.out 0 (.pointer po1)) 1 (.pointer qo1))
                have I3 := hide ((I1.out.below Y1.out (bl (bl Y2.out (Nat.le_of_eq HXE.out.symm) 0 (.pointer po1)) (Nat.le_of_eq HXE.out.symm) 1 (.pointer qo1))).swap)
                go_wp2
                go_meet
                exact ⟨po1, qo1, po0, qo0, B3, I3, fun _ _ h => h.swap⟩
            case rest =>
              obtain ⟨po, qo, po', qo', B3, I3, HB⟩ := hcut
              clear c0 d0 d1 d2 d3 b1 b2 B2 I2 y2 r0 r1 f0 f1 I1 Y1 Y2 HXE
              obtain ⟨lv, b1, b2, y3, -⟩ := I3.out.read
              obtain ⟨r0, r1⟩ := cell_two B3.out
              cases qo with
              | none =>
                have I4 : Hid (PI w w.heap.size (sb + 1) sb #[.pointer po0, .pointer qo0, .pointer po1, .pointer qo1] po0 qo0 po1 qo1 (i + 1) wc) := (HB.out _ _ I3.out).mono (Nat.le_succ _)
                clear b1 b2 r0 B3 I3 HB y3
                go_wp2
                exact ⟨⟨i + 1, by omega, by go_num, I4⟩, by simp [RowKit.intOf]; omega⟩
              | some qq =>
                go_upto_region 24 with fail
                have yd : Below wc.heap.size wc wc.drew := (Below.refl _ _).drew
                have hb3 := y3.size
                have hId := I3.out.below hb3 yd
                obtain ⟨N, hJ⟩ := hId.open (by simp)
                have y4 := y3.trans (yd.mono hb3)
                have HST : Hid (Calls Try.prog 8 #[.pointer (some ⟨sb + 1, 0, none⟩), .agg #[.pointer po, .pointer (some qq)], .agg #[.bool other, .bool near, .int .i64 what, .int .i64 n, .slice ka kl.length kc]] wc.drew fun e w' => e = .returned (.bool true) ∧ PI w w.heap.size (sb + 1) sb #[.pointer po0, .pointer qo0, .pointer po1, .pointer qo1] po (some qq) po' qo' (i + 1) w') := hJ.step ⟨other, near, what, n, ka, kl, kc⟩ (HOP.out.below y4) HOP.out.base y4.size (by omega)
                have bd := (yd.block xb (lt_of_block B3.out)).trans B3.out
                have HS0 : Hid ((wc.drew.cell? ⟨xb, 0, none⟩ = some (.pointer po) ∧ wc.drew.cell? ⟨xb, 1, none⟩ = some (.pointer (some qq))) ∧ wc.drew.cell? ⟨tb, off + i * 5, none⟩ = some (.bool other) ∧ wc.drew.cell? ⟨tb, off + i * 5 + 1, none⟩ = some (.bool near) ∧ wc.drew.cell? ⟨tb, off + i * 5 + 2, none⟩ = some (.int .i64 what) ∧ wc.drew.cell? ⟨tb, off + i * 5 + 3, none⟩ = some (.int .i64 n) ∧ wc.drew.cell? ⟨tb, off + i * 5 + 4, none⟩ = some (.slice ka kl.length kc)) := ⟨cell_two bd, HTC.out _ y4⟩
                clear r0 r1 bd y4 hJ hId yd y3 hb3 b1 b2 B3 I3
                refine wp_unt (S := fun V => (V.cell? ⟨xb, 0, none⟩ = some (.pointer po) ∧ V.cell? ⟨xb, 1, none⟩ = some (.pointer (some qq))) ∧ V.cell? ⟨tb, off + i * 5, none⟩ = some (.bool other) ∧ V.cell? ⟨tb, off + i * 5 + 1, none⟩ = some (.bool near) ∧ V.cell? ⟨tb, off + i * 5 + 2, none⟩ = some (.int .i64 what) ∧ V.cell? ⟨tb, off + i * 5 + 3, none⟩ = some (.int .i64 n) ∧ V.cell? ⟨tb, off + i * 5 + 4, none⟩ = some (.slice ka kl.length kc)) 6 (by kernel_rfl) ?_
                generalize wc.drew = wd at *
                refine UntH.take (i := 0) (some 164) rfl rfl (by kernel_rfl) (by kernel_rfl) (by kernel_rfl) (by kernel_rfl) (fun _ _ _ _ h => h) (by rfl) HS0.out ?_
                apply Exists.intro
                refine ⟨fun w' hw' => ?_, ?_⟩
                · obtain ⟨⟨q0, q1⟩, s0, s1, s2, s3, s4⟩ := hw'
                  go_simp
                  first | done | rfl
                try simp only [Act.put, List.setIfInBounds_toArray, List.set_cons_zero, List.set_cons_succ]
                refine UntH.take (i := 1) (some 165) rfl rfl (by kernel_rfl) (by kernel_rfl) (by kernel_rfl) (by kernel_rfl) (fun _ _ _ _ h => h) (by rfl) HS0.out ?_
                apply Exists.intro
                refine ⟨fun w' hw' => ?_, ?_⟩
                · obtain ⟨⟨q0, q1⟩, s0, s1, s2, s3, s4⟩ := hw'
                  go_simp
                  first | done | rfl
                try simp only [Act.put, List.setIfInBounds_toArray, List.set_cons_zero, List.set_cons_succ]
                refine UntH.take (i := 2) (some 166) rfl rfl (by kernel_rfl) (by kernel_rfl) (by kernel_rfl) (by kernel_rfl) (fun _ _ _ _ h => h) (by rfl) HS0.out ?_
                apply Exists.intro
                refine ⟨fun w' hw' => ?_, ?_⟩
                · obtain ⟨⟨q0, q1⟩, s0, s1, s2, s3, s4⟩ := hw'
                  go_simp
                  first | done | rfl
                try simp only [Act.put, List.setIfInBounds_toArray, List.set_cons_zero, List.set_cons_succ]
                refine UntH.take (i := 3) (some 167) rfl rfl (by kernel_rfl) (by kernel_rfl) (by kernel_rfl) (by kernel_rfl) (fun _ _ _ _ h => h) (by rfl) HS0.out ?_
                apply Exists.intro
                refine ⟨fun w' hw' => ?_, ?_⟩
                · obtain ⟨⟨q0, q1⟩, s0, s1, s2, s3, s4⟩ := hw'
                  go_simp
                  first | done | rfl
                try simp only [Act.put, List.setIfInBounds_toArray, List.set_cons_zero, List.set_cons_succ]
                refine UntH.take (i := 4) (some 168) rfl rfl (by kernel_rfl) (by kernel_rfl) (by kernel_rfl) (by kernel_rfl) (fun _ _ _ _ h => h) (by rfl) HS0.out ?_
                apply Exists.intro
                refine ⟨fun w' hw' => ?_, ?_⟩
                · obtain ⟨⟨q0, q1⟩, s0, s1, s2, s3, s4⟩ := hw'
                  go_simp
                  first | done | rfl
                try simp only [Act.put, List.setIfInBounds_toArray, List.set_cons_zero, List.set_cons_succ]
                refine UntH.take (i := 5) (some 169) rfl rfl (by kernel_rfl) (by kernel_rfl) (by kernel_rfl) (by kernel_rfl) (fun _ _ _ _ h => h) (by rfl) HS0.out ?_
                apply Exists.intro
                refine ⟨fun w' hw' => ?_, ?_⟩
                · obtain ⟨⟨q0, q1⟩, s0, s1, s2, s3, s4⟩ := hw'
                  go_simp
                  first | done | rfl
                try simp only [Act.put, List.setIfInBounds_toArray, List.set_cons_zero, List.set_cons_succ]
                refine UntH.stepf (i := 6) (by kernel_rfl) rfl (by kernel_rfl) (fun K hK => ?_)
                go_simp
                refine HST.out.mono ?_
                rintro e w5 ⟨rfl, i5⟩
                refine hK _ _ ?_
                have I5 := hide (HB.out _ _ i5)
                clear hK K i5 HS0 HST
                try simp only [Act.put, List.setIfInBounds_toArray, List.set_cons_zero, List.set_cons_succ]
                refine UntH.stepf (i := 7) (by kernel_rfl) rfl (by kernel_rfl) (fun K hK => ?_)
                go_simp
                refine hK _ _ ?_
                clear hK K
                refine UntH.end (by kernel_rfl) ?_
                go_wp2
                exact ⟨⟨i + 1, by omega, by go_num, I5⟩, by simp [RowKit.intOf]; omega⟩
          · have hlt' : ¬ (i : Int) < (T.length : Int) := by omega
            obtain rfl : i = T.length := by omega
            go_wp2
            go_meet
            exact I1
      case rest =>
        have I1 := hcut
        obtain ⟨lv, b1, b2, y1, -⟩ := I1.out.read
        have HOW := hide (I1.out.owned y1.size (by omega))
        have HBW : Hid (w.heap.size ≤ sb + 1) := Nat.le_trans X12.out (Nat.le_succ _)
        clear hcut b1 b2 HPI HS ZA ZB y1
        go_upto_region 28 with (go_at_call 9; refine HOW.out.mono ?_; rintro e w2 ⟨rfl, i2, lv2, b2, -⟩; have I2 := hide i2; have B2 := hide b2; clear i2 b2)
        clear HOW I1
        have f1 := frozen_of_row w2 (sb + 1) 1 _ _ B2.out
        obtain ⟨-, c1⟩ := cell_two B2.out
        go_upto_region 29 with fail
        clear c1 f1 B2
        generalize w2.setCell ⟨sb + 1, 1, none⟩ (.slice none 0 0) = w3 at *
        go_upto_block 4 with fail
        go_cut [] (fun wx => ∃ mm, mm ≤ 1917000 ∧ Hid (PI w w.heap.size (sb + 1) sb #[.pointer po0, .pointer qo0, .pointer po1, .pointer qo1] po0 qo0 po1 qo1 mm wx))
        case first =>
          go_wp2
          go_loopw [27] (fun y wr => ∃ i : Nat, i ≤ 2 ∧ y = .int .i64 i ∧ ∃ mm, mm ≤ 1900000 + i * 8200 ∧ Hid (PI w w.heap.size (sb + 1) sb #[.pointer po0, .pointer qo0, .pointer po1, .pointer qo1] po0 qo0 po1 qo1 mm wr)) (fun y _ => 2 - (RowKit.intOf y).toNat)
          case atStart => exact ⟨0, Nat.zero_le _, rfl, _, by omega, I2⟩
          case round =>
            obtain ⟨i, hi, rfl, mm, hmm, I1⟩ := hrel
            by_cases hlt : i < 2
            · have hlt' : (i : Int) < 2 := by omega
              obtain ⟨lv, b1, b2, y1, -⟩ := I1.out.read
              obtain ⟨c0, -⟩ := cell_two b1
              unfold svS at c0
              obtain ⟨d0, d1, d2, d3⟩ := cell_four b2
              have Y1 := hide y1
              obtain ⟨po, qo, po', qo', e0, e1, I1', HB⟩ : ∃ po qo po' qo', wr.cell? ⟨sb, i * 2, none⟩ = some (.pointer po) ∧ wr.cell? ⟨sb, i * 2 + 1, none⟩ = some (.pointer qo) ∧ Hid (PI w w.heap.size (sb + 1) sb #[.pointer po0, .pointer qo0, .pointer po1, .pointer qo1] po qo po' qo' mm wr) ∧ Hid (∀ mm V, PI w w.heap.size (sb + 1) sb #[.pointer po0, .pointer qo0, .pointer po1, .pointer qo1] po qo po' qo' mm V → PI w w.heap.size (sb + 1) sb #[.pointer po0, .pointer qo0, .pointer po1, .pointer qo1] po0 qo0 po1 qo1 mm V) := by
                have : i = 0 ∨ i = 1 := by omega
                rcases this with rfl | rfl
                · exact ⟨po0, qo0, po1, qo1, d0, d1, I1, fun _ _ h => h⟩
                · exact ⟨po1, qo1, po0, qo0, d2, d3, I1.out.swap, fun _ _ h => h.swap⟩
              clear d0 d1 d2 d3 b1 b2 I1 y1
              go_upto_region 33 with fail
              have y2 : Below wr.heap.size wr (wr.alloc (.cells #[.pointer po, .pointer qo] 34)) := al (Below.refl _ _) _
              have b3 := heap_alloc_new wr (.cells #[.pointer po, .pointer qo] 34)
              obtain ⟨-, r1⟩ := cell_two b3
              cases qo with
              | none =>
                have I4 := hide (HB.out _ _ (I1'.out.below Y1.out.size y2))
                clear c0 e0 e1 I1' HB y2 b3
                go_wp2
                exact ⟨⟨i + 1, by omega, by go_num, mm, by omega, I4⟩, by simp [RowKit.intOf]; omega⟩
              | some qq =>
                obtain ⟨N, hJ⟩ := I1'.out.open (by simp)
                have HFW := hide hJ.few
                have hJ2 := hJ.beside Y1.out.size #[.pointer po, .pointer (some qq)]
                have J2 := hide hJ2
                have hb2 : w.heap.size ≤ (wr.alloc (.cells #[.pointer po, .pointer (some qq)] 34)).heap.size := Nat.le_trans Y1.out.size y2.size
                have HST : Hid (Calls Try.prog 8 #[.pointer (some ⟨sb + 1, 0, none⟩), .agg #[.pointer po, .pointer (some qq)], .agg #[.bool false, .bool false, .int .i64 9, .int .i64 0, .slice none 0 0]] (wr.alloc (.cells #[.pointer po, .pointer (some qq)] 34)) fun e w' => e = .returned (.bool true) ∧ PK w w.heap.size (sb + 1) sb #[.pointer po0, .pointer qo0, .pointer po1, .pointer qo1] po (some qq) po' qo' N wr.heap.size #[.pointer po, .pointer (some qq)] (mm + 1) w') := hJ2.stepK ⟨false, false, 9, 0, none, [], 0⟩ (opOk_nil _ 9 0 (by unfold Fit; omega)) hb2 (by omega) (.inr rfl)
                clear c0 e0 e1 I1' hJ hJ2 y2 b3
                go_upto_region 35 with (go_at_call 8; refine HST.out.mono ?_; rintro e w5 ⟨rfl, j5⟩; have J5 := hide j5; clear j5)
                clear HST J2 r1
                go_upto_block 6 with fail
                go_cut [29] (fun v wx => v = .bool true ∧ ∃ mm', mm' ≤ mm + 8198 ∧ Hid (PK w w.heap.size (sb + 1) sb #[.pointer po0, .pointer qo0, .pointer po1, .pointer qo1] po (some qq) po' qo' N wr.heap.size #[.pointer po, .pointer (some qq)] mm' wx))
                case first =>
                  have hfw := HFW.out
                  go_wp2
                  go_loopw [30, 29] (fun y v wz => v = .bool true ∧ ∃ n : Int, -1 ≤ n ∧ n ≤ (N.length : Int) + 4 ∧ y = .int .i64 n ∧ ∃ mm' : Nat, (mm' : Int) ≤ mm + 2 + n ∧ Hid (PK w w.heap.size (sb + 1) sb #[.pointer po0, .pointer qo0, .pointer po1, .pointer qo1] po (some qq) po' qo' N wr.heap.size #[.pointer po, .pointer (some qq)] mm' wz)) (fun y _ _ => ((N.length : Int) + 4 - RowKit.intOf y).toNat)
                  case atStart => exact ⟨rfl, -1, by omega, by omega, rfl, mm + 1, by omega, J5⟩
                  case round =>
                    rename World => wz
                    obtain ⟨rfl, n, hn1, hn2, rfl, mm', hm', J6⟩ := hrel
                    clear J5
                    have HLN := hide J6.out.un.len
                    obtain ⟨b6, y6⟩ := J6.out.row
                    obtain ⟨r0, r1⟩ := cell_two b6
                    have f4 : IntKind.i64.wrap ((N.length : Int) + 4) = (N.length : Int) + 4 := by simp [IntKind.wrap, IntKind.bits, IntKind.signed]; omega
                    have fn : IntKind.i64.wrap (n + 1) = n + 1 := by simp [IntKind.wrap, IntKind.bits, IntKind.signed]; omega
                    by_cases hlt6 : n < (N.length : Int) + 4
                    · have HST : Hid (Calls Try.prog 8 #[.pointer (some ⟨sb + 1, 0, none⟩), .agg #[.pointer po, .pointer (some qq)], .agg #[.bool false, .bool false, .int .i64 4, .int .i64 n, .slice none 0 0]] wz fun e w' => e = .returned (.bool true) ∧ PK w w.heap.size (sb + 1) sb #[.pointer po0, .pointer qo0, .pointer po1, .pointer qo1] po (some qq) po' qo' N wr.heap.size #[.pointer po, .pointer (some qq)] (mm' + 1) w') := J6.out.stepK ⟨false, false, 4, n, none, [], 0⟩ (opOk_nil _ 4 n (by unfold Fit; omega)) y6.size (by omega) (.inl rfl)
                      clear b6 y6
                      go_wp2_with (first | (go_at_call 10; refine HLN.out.mono ?_; rintro e w7 ⟨rfl, x7⟩; subst x7) | (go_at_call 8; refine HST.out.mono ?_; rintro e w8 ⟨rfl, j8⟩; have J8 := hide j8; clear j8))
                      exact ⟨⟨rfl, n + 1, by omega, by omega, rfl, mm' + 1, by omega, J8⟩, by simp [RowKit.intOf]; omega⟩
                    · clear b6 y6
                      go_wp2_with (go_at_call 10; refine HLN.out.mono ?_; rintro e w7 ⟨rfl, x7⟩; subst x7)
                      go_meet
                      exact ⟨rfl, mm', by omega, J6⟩
                case rest =>
                  obtain ⟨rfl, mm', hm', J6⟩ := hcut
                  have I6 := hide (HB.out _ _ J6.out.un.close)
                  go_wp2
                  exact ⟨⟨i + 1, by omega, by go_num, mm', by omega, I6⟩, by simp [RowKit.intOf]; omega⟩
            · have hlt' : ¬ (i : Int) < 2 := by omega
              go_wp2
              go_meet
              exact ⟨mm, by omega, I1⟩
        case rest =>
          obtain ⟨mm, hmm, I1⟩ := hcut
          obtain ⟨lv, b1, b2, y1, -⟩ := I1.out.read
          have HOW := hide (I1.out.owned y1.size (by omega))
          clear b1 b2 y1
          go_wp2_with (go_at_call 9; refine HOW.out.mono ?_; rintro e w4 ⟨rfl, -, -, -, y4⟩)
          go_ret
          exact ⟨rfl, y4⟩
end Go.Proofs.Ytkklphmhbbjmcaa
