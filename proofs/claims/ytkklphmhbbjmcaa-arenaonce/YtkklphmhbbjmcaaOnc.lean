/-
  The statement ArenaOnce, walked whole. Condition: numbers of the machine's kind; lists no longer than a process can hold.
-/
import Derived.Test.YtkklphmhbbjmcaaOn0
import Derived.Test.YtkklphmhbbjmcaaKnw
namespace Go.Proofs.Ytkklphmhbbjmcaa
open Go.RowKit Go.Lib Go.Maps

set_option maxRecDepth 100000 in
set_option maxHeartbeats 8000000 in
theorem once_any (ao so qo : Option Addr) (ac sc qc : Nat) (A : List Int) (M0 : Int) (T : List OpZ) (Q : List PZ) (w : World) (_hA : A.length ≤ 17592186043904) (hT : T.length ≤ 2932031007317) (hQ : Q.length ≤ 17592186043904) (zA : ZAt w ao A) (hAf : ∀ z ∈ A, Fit z) (hM : Fit M0) (hS : OpAt w so T) (hP : PtAt w qo Q) :
    Calls Try.prog 4 #[.slice ao A.length ac, .int .i64 M0, .slice so T.length sc, .slice qo Q.length qc] w fun e w' => e = .returned (.bool true) ∧ Below w.heap.size w w' := by
  obtain ⟨i3, hi3, hz30, hz31, hz32⟩ := info_parts Try.info3
  have ZA := hide zA
  have ZF := hide hAf
  have HS := hide hS
  have HQ := hide hP
  clear zA hAf hS hP
  have HKN := hide (known_any w)
  go_enter Try.func4, Try.ntmps4
  go_upto_region 2 with (go_at_call 5; refine HKN.out.mono ?_; rintro e w4 ⟨rfl, x4⟩; have X4 := hide x4; clear x4)
  clear HKN
  go_upto_block 0 with fail
  go_cut [10] (fun v wx => ∃ k : Nat, k ≤ A.length ∧ k ≤ 12 ∧ (k = A.length ∨ k = 12) ∧ Hid (wx.ownsRow w.heap.size 3 1 v k (zC (sz12 A k))) ∧ Hid (Below w.heap.size w wx))
  case first =>
    go_wp2
    go_loopw [10, 11] (fun v y wr => ∃ k : Nat, k ≤ A.length ∧ k ≤ 12 ∧ y = .int .i64 k ∧ Hid (wr.ownsRow w.heap.size 3 1 v k (zC (sz12 A k))) ∧ Hid (Below w.heap.size w wr)) (fun _ y _ => A.length - (RowKit.intOf y).toNat)
    case atStart => exact ⟨0, Nat.zero_le _, by omega, rfl, World.ownsRow_nil _ _ _ _, X4⟩
    case round =>
      rename World => wr
      obtain ⟨k, hk, hk12, rfl, O1, X1⟩ := hrel
      by_cases hlt : k < A.length
      · have hlt' : (k : Int) < (A.length : Int) := by omega
        by_cases h12 : k < 12
        · have h12' : (k : Int) < 12 := by omega
          obtain ⟨va, vc, hv, _⟩ := own_shape O1.out
          subst hv
          obtain ⟨b1, of1, rfl, hb1, g1⟩ := ZA.out.get hlt
          have g2 := (X1.out.cell (p := ⟨b1, of1 + k, none⟩) hb1).trans g1
          have hfit : Fit (A.getD k 0) := ZF.out _ (by
            rw [List.getD_eq_getElem?_getD, List.getElem?_eq_getElem hlt]
            exact List.getElem_mem _)
          have HPK := hide (fun V => pick_any (A.getD k 0) 4 hfit (by decide) (by decide) V)
          have hpk := pkZ_lt (A.getD k 0) (n := 4) (by decide)
          have HSN := hide (sz12_snoc hlt)
          generalize pkZ (A.getD k 0) 4 = c at *
          generalize A.getD k 0 = z at *
          have fc : IntKind.i64.wrap (1 + (c : Int)) = 1 + (c : Int) := by simp [IntKind.wrap, IntKind.bits, IntKind.signed]; omega
          have y5 : Below wr.heap.size wr (wr.alloc (.cells #[.int .i64 (1 + (c : Int))] 3)) := al (Below.refl _ _) _
          have HNW := hide (one_new wr (.int .i64 (1 + (c : Int))) 3)
          have O5 := hide (own_below O1.out y5)
          have X5 := hide (bt X1.out y5 (Nat.le_refl _))
          clear g1 hfit y5 O1
          go_wp2_with (first
            | (go_at_call 11; refine (HPK.out _).mono ?_; rintro e w7 ⟨rfl, x7⟩; subst x7)
            | (at_builtin; refine wpList_append_view rfl (.tmp 45) (.tmp 52) 22 rfl w.heap.size 3 i3 (.int .i64 0) 1 8 Try.underlying22 hi3 hz30 hz31 hz32 rfl (by decide) _ k (zC (sz12 A k)) rfl O5.out ⟨_, 0, none⟩ 1 1 [.int .i64 (1 + (c : Int))] rfl rfl HNW.out (by simp [Value.oneCell']) (by decide) (by unfold maxLen; omega) (by omega) X5.out.size ?_; intro v8 w8 h1 h2; obtain ⟨a8, c8, hv8, _⟩ := own_shape h1; subst hv8; rw [← zC_snoc, ← HSN.out] at h1; have O8 := hide h1; have X8 := hide (app_below X5.out O5.out h2 (Nat.le_refl _)); clear h1 h2))
          exact ⟨⟨k + 1, by omega, by omega, by go_num, O8, X8⟩, by simp [RowKit.intOf]; omega⟩
        · have h12' : ¬ (k : Int) < 12 := by omega
          obtain rfl : k = 12 := by omega
          go_wp2
          go_meet
          exact ⟨12, hk, hk12, .inr rfl, O1, X1⟩
      · have hlt' : ¬ (k : Int) < (A.length : Int) := by omega
        obtain rfl : k = A.length := by omega
        go_wp2
        go_meet
        exact ⟨A.length, hk, hk12, .inl rfl, O1, X1⟩
  case rest =>
    obtain ⟨w6, hw6⟩ : ∃ w6, w6 = wc := ⟨wc, rfl⟩
    subst hw6
    obtain ⟨k, hk, hk12, hke, O1, X1⟩ := hcut
    clear X4 hke ZF
    obtain ⟨va, vc, hv, hvb⟩ := own_shape O1.out
    subst hv
    by_cases hk0 : k = 0
    · subst hk0
      go_wp2
      go_ret
      exact ⟨rfl, X1.out⟩
    have hk0' : ((k : Int) == 0) = false := by simp; omega
    have HSO := hide (sz12_ok hk (by omega) hk12)
    have HL := hide (sz12_len hk)
    obtain ⟨lb, hlb⟩ := hvb (by omega)
    subst hlb
    have HZS : Hid (ZBk w6 lb (sz12 A k)) := by
      have h1 : w6.ownsRow w.heap.size 3 1 (.slice (some ⟨lb, 0, none⟩) k vc) (sz12 A k).length (zC (sz12 A k)) := by rw [HL.out]; exact O1.out
      have h2 := HSO.out.ge
      obtain ⟨g, c, e, _, hz⟩ := own_blk h1 h2
      injection e with e _ _
      injection e with e
      injection e with e _
      subst e
      exact hz
    clear O1 hvb
    generalize sz12 A k = S at *
    obtain rfl : k = S.length := HL.out.symm
    have HM0 := hide (fun V => pick_any M0 8193 hM (by decide) (by decide) V)
    have hMl := pkZ_lt M0 (n := 8193) (by decide)
    generalize pkZ M0 8193 = M at *
    have hS12 : S.length ≤ 140737488351232 := by have := HSO.out.le; omega
    have HN1 := hide (newC_any (some ⟨lb, 0, none⟩) vc S (M : Int) w6 hS12 HZS.out.at)
    go_upto_region 10 with (first | (go_at_call 11; refine (HM0.out _).mono ?_; rintro e w7 ⟨rfl, x7⟩; replace x7 := x7.symm; subst x7) | (go_at_call 6; refine HN1.out.mono ?_; intro e w7 h7; obtain ⟨po0, er0, rfl⟩ := h7.form; have N7 := hide h7; clear h7))
    have X7 := hide N7.out.2
    have HN2 := hide (newD_any (some ⟨lb, 0, none⟩) vc S (M : Int) w7 hS12 (HZS.out.below X7.out).at)
    clear hk0'
    go_upto_region 11 with (first | (go_at_call 11; refine (HM0.out _).mono ?_; rintro e w8 ⟨rfl, x8⟩; replace x8 := x8.symm; subst x8) | (go_at_call 7; refine HN2.out.mono ?_; intro e w8 h8; obtain ⟨qo0, er0', rfl⟩ := h8.form; obtain ⟨he, o0, p0, q0, k0, ft0, ft1, ft2⟩ := nw_both (base := w6.heap.size) (Nat.le_refl _) (Below.refl _ _) N7.out h8; obtain ⟨s, hs⟩ := ft2 HSO.out (by omega) (by omega); have ft3 := ft1 s hs; subst he; have P0 := hide p0; have Q0 := hide q0; have K0 := hide k0; have HSS := hide hs; have F3 := hide ft3; have X8 := hide (bt X7.out h8.2 (Nat.le_refl _)); clear h8 p0 q0 k0 ft0 ft1 ft2 hs ft3))
    clear HN1 HN2 N7 X7 HM0
    obtain ⟨e1, e2, e3, -, -, -, e7⟩ := F3.out
    subst e7
    have e8 := HSS.out
    subst e8
    obtain ⟨a, ha⟩ : ∃ a, a = s.a := ⟨_, rfl⟩
    obtain ⟨x, hx⟩ : ∃ x, x = s.x := ⟨_, rfl⟩
    have hp := P0.out
    have hq := Q0.out
    unfold aV at hp
    unfold xV at hq
    simp only [Option.map_some, Value.pointer.injEq] at hp hq
    rw [← ha] at hp
    rw [← hx] at hq
    subst hp hq
    have HPO := hide (PO.start (w0 := w6) ha.symm hx.symm e1 e2 K0.out X8.out.size X8.out)
    clear P0 Q0 K0 F3 HSS e1 e2 e3 ha hx
    go_upto_region 14 with fail
    obtain ⟨sb, hsb⟩ : ∃ sb, sb = w8.heap.size := ⟨_, rfl⟩
    rw [← hsb] at HPO ⊢
    clear hsb X8
    generalize (w8.alloc (.cells #[.pointer (some ⟨a, 0, none⟩), .pointer (some ⟨x, 0, none⟩)] 34)).alloc (.cells #[.slice (some ⟨sb, 0, none⟩) 1 1, .slice none 0 0] 38) = w1 at *
    clear s
    go_upto_block 2 with fail
    go_cut [] (fun wx => ∃ mm, mm ≤ T.length ∧ Hid (PO w6 w6.heap.size (sb + 1) sb a x S (M : Int) mm wx))
    case first =>
      go_wp2
      go_loopw [17] (fun y wr => ∃ i : Nat, i ≤ T.length ∧ y = .int .i64 i ∧ Hid (PO w6 w6.heap.size (sb + 1) sb a x S (M : Int) i wr)) (fun y _ => T.length - (RowKit.intOf y).toNat)
      case atStart => exact ⟨0, Nat.zero_le _, rfl, HPO⟩
      case round =>
        obtain ⟨i, hi, rfl, I1⟩ := hrel
        by_cases hlt : i < T.length
        · have hlt' : (i : Int) < (T.length : Int) := by omega
          obtain ⟨tb, off, rfl, htb, ⟨t0, t1, t2, t3, t4⟩, hop⟩ := HS.out.get hlt
          generalize T[i] = o at *
          obtain ⟨other, near, what, n, ka, kl, kc⟩ := o
          simp only at t0 t1 t2 t3 t4
          have HOP := hide hop
          have HTC : Hid (∀ V, Below w.heap.size w V → V.cell? ⟨tb, off + i * 5, none⟩ = some (.bool other) ∧ V.cell? ⟨tb, off + i * 5 + 1, none⟩ = some (.bool near) ∧ V.cell? ⟨tb, off + i * 5 + 2, none⟩ = some (.int .i64 what) ∧ V.cell? ⟨tb, off + i * 5 + 3, none⟩ = some (.int .i64 n) ∧ V.cell? ⟨tb, off + i * 5 + 4, none⟩ = some (.slice ka kl.length kc)) := fun V y => ⟨(y.cell (p := ⟨tb, off + i * 5, none⟩) htb).trans t0, (y.cell (p := ⟨tb, off + i * 5 + 1, none⟩) htb).trans t1, (y.cell (p := ⟨tb, off + i * 5 + 2, none⟩) htb).trans t2, (y.cell (p := ⟨tb, off + i * 5 + 3, none⟩) htb).trans t3, (y.cell (p := ⟨tb, off + i * 5 + 4, none⟩) htb).trans t4⟩
          clear t0 t1 t2 t3 t4 hop htb
          obtain ⟨⟨lv, b1⟩, b2, y1⟩ := I1.out.read
          have yd : Below wr.heap.size wr wr.drew := (Below.refl _ _).drew
          have hId := I1.out.below y1.size yd
          have y4 := bt (bt X1.out y1 (Nat.le_refl _)) yd (Nat.le_refl _)
          have y5 := bt y1 yd (Nat.le_refl _)
          have HST : Hid (Calls Try.prog 8 #[.pointer (some ⟨sb + 1, 0, none⟩), .agg #[.pointer (some ⟨a, 0, none⟩), .pointer (some ⟨x, 0, none⟩)], .agg #[.bool other, .bool near, .int .i64 what, .int .i64 n, .slice ka kl.length kc]] wr.drew fun e w' => e = .returned (.bool true) ∧ PO w6 w6.heap.size (sb + 1) sb a x S (M : Int) (i + 1) w') := hId.step ⟨other, near, what, n, ka, kl, kc⟩ (HOP.out.below y4) (fun b of e hne => Nat.lt_of_lt_of_le (HOP.out.base b of e hne) X1.out.size) y5.size (by omega)
          have c1 := (cell_two ((yd.block _ (lt_of_block b1)).trans b1)).1
          have HS0 : Hid ((wr.drew.cell? ⟨sb + 1, 0, none⟩ = some (.slice (some ⟨sb, 0, none⟩) 1 1) ∧ wr.drew.cell? ⟨sb, 0, none⟩ = some (.pointer (some ⟨a, 0, none⟩)) ∧ wr.drew.cell? ⟨sb, 1, none⟩ = some (.pointer (some ⟨x, 0, none⟩))) ∧ wr.drew.cell? ⟨tb, off + i * 5, none⟩ = some (.bool other) ∧ wr.drew.cell? ⟨tb, off + i * 5 + 1, none⟩ = some (.bool near) ∧ wr.drew.cell? ⟨tb, off + i * 5 + 2, none⟩ = some (.int .i64 what) ∧ wr.drew.cell? ⟨tb, off + i * 5 + 3, none⟩ = some (.int .i64 n) ∧ wr.drew.cell? ⟨tb, off + i * 5 + 4, none⟩ = some (.slice ka kl.length kc)) := ⟨⟨c1, cell_two ((yd.block _ (lt_of_block b2)).trans b2)⟩, HTC.out _ y4⟩
          clear y4 y5 hId yd y1 b1 b2 I1 c1
          go_upto_region 17 with fail
          refine wp_unt (S := fun V => (V.cell? ⟨sb + 1, 0, none⟩ = some (.slice (some ⟨sb, 0, none⟩) 1 1) ∧ V.cell? ⟨sb, 0, none⟩ = some (.pointer (some ⟨a, 0, none⟩)) ∧ V.cell? ⟨sb, 1, none⟩ = some (.pointer (some ⟨x, 0, none⟩))) ∧ V.cell? ⟨tb, off + i * 5, none⟩ = some (.bool other) ∧ V.cell? ⟨tb, off + i * 5 + 1, none⟩ = some (.bool near) ∧ V.cell? ⟨tb, off + i * 5 + 2, none⟩ = some (.int .i64 what) ∧ V.cell? ⟨tb, off + i * 5 + 3, none⟩ = some (.int .i64 n) ∧ V.cell? ⟨tb, off + i * 5 + 4, none⟩ = some (.slice ka kl.length kc)) 11 (by kernel_rfl) ?_
          generalize wr.drew = wd at *
          refine UntH.take (i := 0) (some 98) rfl rfl (by kernel_rfl) (by kernel_rfl) (by kernel_rfl) (by kernel_rfl) (fun _ _ _ _ h => h) (by rfl) HS0.out ?_
          apply Exists.intro
          refine ⟨fun w' hw' => ?_, ?_⟩
          · obtain ⟨⟨q0, q1, q2⟩, s0, s1, s2, s3, s4⟩ := hw'
            go_simp
            first | done | rfl
          try simp only [Act.put, List.setIfInBounds_toArray, List.set_cons_zero, List.set_cons_succ]
          refine UntH.take (i := 1) (some 99) rfl rfl (by kernel_rfl) (by kernel_rfl) (by kernel_rfl) (by kernel_rfl) (fun _ _ _ _ h => h) (by rfl) HS0.out ?_
          apply Exists.intro
          refine ⟨fun w' hw' => ?_, ?_⟩
          · obtain ⟨⟨q0, q1, q2⟩, s0, s1, s2, s3, s4⟩ := hw'
            go_simp
            first | done | rfl
          try simp only [Act.put, List.setIfInBounds_toArray, List.set_cons_zero, List.set_cons_succ]
          refine UntH.take (i := 2) (some 100) rfl rfl (by kernel_rfl) (by kernel_rfl) (by kernel_rfl) (by kernel_rfl) (fun _ _ _ _ h => h) (by rfl) HS0.out ?_
          apply Exists.intro
          refine ⟨fun w' hw' => ?_, ?_⟩
          · obtain ⟨⟨q0, q1, q2⟩, s0, s1, s2, s3, s4⟩ := hw'
            go_simp
            first | done | rfl
          try simp only [Act.put, List.setIfInBounds_toArray, List.set_cons_zero, List.set_cons_succ]
          refine UntH.take (i := 3) (some 101) rfl rfl (by kernel_rfl) (by kernel_rfl) (by kernel_rfl) (by kernel_rfl) (fun _ _ _ _ h => h) (by rfl) HS0.out ?_
          apply Exists.intro
          refine ⟨fun w' hw' => ?_, ?_⟩
          · obtain ⟨⟨q0, q1, q2⟩, s0, s1, s2, s3, s4⟩ := hw'
            go_simp
            first | done | rfl
          try simp only [Act.put, List.setIfInBounds_toArray, List.set_cons_zero, List.set_cons_succ]
          refine UntH.take (i := 4) (some 102) rfl rfl (by kernel_rfl) (by kernel_rfl) (by kernel_rfl) (by kernel_rfl) (fun _ _ _ _ h => h) (by rfl) HS0.out ?_
          apply Exists.intro
          refine ⟨fun w' hw' => ?_, ?_⟩
          · obtain ⟨⟨q0, q1, q2⟩, s0, s1, s2, s3, s4⟩ := hw'
            go_simp
            first | done | rfl
          try simp only [Act.put, List.setIfInBounds_toArray, List.set_cons_zero, List.set_cons_succ]
          refine UntH.take (i := 5) (some 103) rfl rfl (by kernel_rfl) (by kernel_rfl) (by kernel_rfl) (by kernel_rfl) (fun _ _ _ _ h => h) (by rfl) HS0.out ?_
          apply Exists.intro
          refine ⟨fun w' hw' => ?_, ?_⟩
          · obtain ⟨⟨q0, q1, q2⟩, s0, s1, s2, s3, s4⟩ := hw'
            go_simp
            first | done | rfl
          try simp only [Act.put, List.setIfInBounds_toArray, List.set_cons_zero, List.set_cons_succ]
          refine UntH.take (i := 6) (some 104) rfl rfl (by kernel_rfl) (by kernel_rfl) (by kernel_rfl) (by kernel_rfl) (fun _ _ _ _ h => h) (by rfl) HS0.out ?_
          apply Exists.intro
          refine ⟨fun w' hw' => ?_, ?_⟩
          · obtain ⟨⟨q0, q1, q2⟩, s0, s1, s2, s3, s4⟩ := hw'
            go_simp
            first | done | rfl
          try simp only [Act.put, List.setIfInBounds_toArray, List.set_cons_zero, List.set_cons_succ]
          refine UntH.take (i := 7) (some 105) rfl rfl (by kernel_rfl) (by kernel_rfl) (by kernel_rfl) (by kernel_rfl) (fun _ _ _ _ h => h) (by rfl) HS0.out ?_
          apply Exists.intro
          refine ⟨fun w' hw' => ?_, ?_⟩
          · obtain ⟨⟨q0, q1, q2⟩, s0, s1, s2, s3, s4⟩ := hw'
            go_simp
            first | done | rfl
          try simp only [Act.put, List.setIfInBounds_toArray, List.set_cons_zero, List.set_cons_succ]
          refine UntH.take (i := 8) (some 106) rfl rfl (by kernel_rfl) (by kernel_rfl) (by kernel_rfl) (by kernel_rfl) (fun _ _ _ _ h => h) (by rfl) HS0.out ?_
          apply Exists.intro
          refine ⟨fun w' hw' => ?_, ?_⟩
          · obtain ⟨⟨q0, q1, q2⟩, s0, s1, s2, s3, s4⟩ := hw'
            go_simp
            first | done | rfl
          try simp only [Act.put, List.setIfInBounds_toArray, List.set_cons_zero, List.set_cons_succ]
          refine UntH.take (i := 9) (some 107) rfl rfl (by kernel_rfl) (by kernel_rfl) (by kernel_rfl) (by kernel_rfl) (fun _ _ _ _ h => h) (by rfl) HS0.out ?_
          apply Exists.intro
          refine ⟨fun w' hw' => ?_, ?_⟩
          · obtain ⟨⟨q0, q1, q2⟩, s0, s1, s2, s3, s4⟩ := hw'
            go_simp
            first | done | rfl
          try simp only [Act.put, List.setIfInBounds_toArray, List.set_cons_zero, List.set_cons_succ]
          refine UntH.take (i := 10) (some 108) rfl rfl (by kernel_rfl) (by kernel_rfl) (by kernel_rfl) (by kernel_rfl) (fun _ _ _ _ h => h) (by rfl) HS0.out ?_
          apply Exists.intro
          refine ⟨fun w' hw' => ?_, ?_⟩
          · obtain ⟨⟨q0, q1, q2⟩, s0, s1, s2, s3, s4⟩ := hw'
            go_simp
            first | done | rfl
          try simp only [Act.put, List.setIfInBounds_toArray, List.set_cons_zero, List.set_cons_succ]
          refine UntH.stepf (i := 11) (by kernel_rfl) rfl (by kernel_rfl) (fun K hK => ?_)
          go_simp
          refine HST.out.mono ?_
          rintro e w5 ⟨rfl, i5⟩
          refine hK _ _ ?_
          have I5 := hide i5
          clear hK K i5 HS0 HST
          try simp only [Act.put, List.setIfInBounds_toArray, List.set_cons_zero, List.set_cons_succ]
          refine UntH.stepf (i := 12) (by kernel_rfl) rfl (by kernel_rfl) (fun K hK => ?_)
          go_simp
          refine hK _ _ ?_
          clear hK K
          refine UntH.end (by kernel_rfl) ?_
          go_wp2
          exact ⟨⟨i + 1, by omega, by go_num, I5⟩, by simp [RowKit.intOf]; omega⟩
        · have hlt' : ¬ (i : Int) < (T.length : Int) := by omega
          obtain rfl : i = T.length := by omega
          go_wp2
          go_meet
          exact ⟨_, Nat.le_refl _, I1⟩
    case rest =>
      obtain ⟨mm, hmm, I1⟩ := hcut
      obtain ⟨w9, hw9⟩ : ∃ w9, w9 = wc := ⟨wc, rfl⟩
      subst hw9
      obtain ⟨-, -, y1⟩ := I1.out.read
      obtain ⟨N, m, P, hca, hm⟩ := I1.out.ca
      have CA9 := hide hca
      have ZS9 := hide (HZS.out.below y1)
      have X9 := hide (bt X1.out y1 (Nat.le_refl _))
      have OK9 := hide hca.ok
      have hN1 := hca.ok.few
      have hm9 : m ≤ 1152921504606846976 := by omega
      clear HPO HZS I1 y1 hca X1 HS ZA hm hmm mm HSO
      have HLN : Hid (∀ V, Below w9.heap.size w9 V → Calls Try.prog 12 #[.pointer (some ⟨a, 0, none⟩)] V fun e w' => e = .returned (.int .i64 (N.length : Int)) ∧ w' = V) := fun V y => (CA9.out.below y).len
      have HMS := hide CA9.out.most
      have HL0 := hide (HLN.out w9 (Below.refl _ _))
      have hnm : ¬ (M : Int) < (N.length : Int) := by omega
      have hnm2 : ¬ M < N.length := by omega
      have hNl : N.length ≤ 8192 := by omega
      go_upto_region 21 with (go_at_call 12; refine HL0.out.mono ?_; rintro e w7 ⟨rfl, x7⟩; replace x7 := x7.symm; subst x7)
      go_upto_region 23 with (go_at_call 13; refine HMS.out.mono ?_; rintro e w7 ⟨rfl, x7⟩; replace x7 := x7.symm; subst x7)
      clear HMS HL0
      go_upto_block 4 with fail
      have HI47 := hide (info_parts Try.info47)
      go_cut [20] (fun v wx => ∃ R : List ND, Hid (R.map ND.nd = N) ∧ Hid (NR wx w9.heap.size v R) ∧ Hid (Below w9.heap.size w9 wx))
      case first =>
        go_wp2
        go_loopw [20, 21] (fun v y wr => ∃ k : Nat, k ≤ N.length ∧ y = .int .i64 ((k : Int) + 2) ∧ ∃ R : List ND, R.length = k ∧ Hid (R.map ND.nd = N.take k) ∧ Hid (NR wr w9.heap.size v R) ∧ Hid (Below w9.heap.size w9 wr)) (fun _ y _ => N.length + 2 - (RowKit.intOf y).toNat)
        case atStart => exact ⟨0, Nat.zero_le _, rfl, [], rfl, rfl, ⟨World.ownsRow_nil _ _ _ _, fun x hx => by simp at hx⟩, Below.refl _ _⟩
        case round =>
          rename World => wr
          obtain ⟨k, hk, rfl, R, hRk, HR, R1, X1⟩ := hrel
          have HRK := hide hRk
          clear hRk
          have fN : IntKind.i64.wrap ((N.length : Int) + 2) = (N.length : Int) + 2 := by simp [IntKind.wrap, IntKind.bits, IntKind.signed]; omega
          have fk : IntKind.i64.wrap ((k : Int) + 2 + 1) = (k : Int) + 2 + 1 := by simp [IntKind.wrap, IntKind.bits, IntKind.signed]; omega
          by_cases hlt : k < N.length
          · have hlt' : (k : Int) + 2 < (N.length : Int) + 2 := by omega
            obtain ⟨lvn, ks, hnk, hlS, hlen, hk1, hk2, hone, hkid⟩ := OK9.out.node hlt
            have HKD := hide hkid
            have HNK := hide hnk
            have HON := hide (oneTo_all hone)
            have hlS' : (lvn : Int) < (S.length : Int) := by omega
            have HSL : Hid (S.getD lvn 0 = (ks.length : Int)) := hlen
            have HND : Hid (Calls Try.prog 14 #[.pointer (some ⟨a, 0, none⟩), .int .i64 ((k : Int) + 2)] wr fun e w' => NdL N ((k : Int) + 2) wr e w') := (CA9.out.below X1.out).node ((k : Int) + 2)
            clear hkid hnk hone hlen
            go_upto_region 28 with (go_at_call 14; refine HND.out.mono ?_; intro e w5 h5; obtain ⟨g, gc, rfl, z5, x5⟩ := h5.at_ HNK.out; have Z5 := hide z5; have X5 := hide x5; clear h5 z5 x5)
            clear HND
            have y6 : Below w5.heap.size w5 (w5.alloc (.cells #[.int .i64 (lvn : Int), .slice (some ⟨g, 0, none⟩) ks.length gc] 47)) := al (Below.refl _ _) _
            have B7 := hide (heap_alloc_new w5 (.cells #[.int .i64 (lvn : Int), .slice (some ⟨g, 0, none⟩) ks.length gc] 47))
            have Z7 := hide (Z5.out.below y6)
            have x57 := bt X5.out y6 (Nat.le_refl _)
            have R7 := hide (R1.out.below x57)
            have X7 := hide (bt X1.out x57 (Nat.le_refl _))
            obtain ⟨yb, hyb⟩ : ∃ yb, yb = w5.heap.size := ⟨_, rfl⟩
            rw [← hyb] at B7 ⊢
            clear hyb y6 x57 X5 Z5 R1 X1
            generalize w5.alloc (.cells #[.int .i64 (lvn : Int), .slice (some ⟨g, 0, none⟩) ks.length gc] 47) = w7 at *
            have hyl := lt_of_block B7.out
            have HRD : Hid (∀ V, Below w7.heap.size w7 V → V.cell? ⟨yb, 0, none⟩ = some (.int .i64 (lvn : Int)) ∧ V.cell? ⟨yb, 1, none⟩ = some (.slice (some ⟨g, 0, none⟩) ks.length gc) ∧ V.cell? ⟨lb, lvn, none⟩ = some (.int .i64 (ks.length : Int))) := fun V y => by
              obtain ⟨a0, a1⟩ := cell_two ((y.block _ hyl).trans B7.out)
              refine ⟨a0, a1, ?_⟩
              rw [(ZS9.out.below (bt X7.out y (Nat.le_refl _))).cell hlS, HSL.out]
            have HKC : Hid (∀ V, Below w7.heap.size w7 V → ∀ c, c < ks.length → V.cell? ⟨g, c, none⟩ = some (.int .i64 (ks.getD c 0))) := fun V y c hc => (Z7.out.below y).cell hc
            have HLV : Hid (∀ V, Below w7.heap.size w7 V → ∀ f, Calls Try.prog 15 #[.pointer (some ⟨a, 0, none⟩), .int .i64 f] V fun e w' => e = .returned (.int .i64 (lvl S N f)) ∧ w' = V) := fun V y f => (CA9.out.below (bt X7.out y (Nat.le_refl _))).level f
            have HDr : Hid (Below w7.heap.size w7 w7.drew) := (Below.refl _ _).drew
            refine wp_region_quiet (C := fun w' => Below w7.heap.size w7 w') (by kernel_rfl) (by kernel_rfl) HDr.out ?_
            refine QW.out (l := _ :: _) ?_
            iterate 13 (refine QW.take (by rfl) ?_; apply Exists.intro; refine ⟨fun w' hw' => ?_, ?_⟩; (· (obtain ⟨q1, q2, q3⟩ := HRD.out w' hw'; go_simp; first | done | (first | done | rfl))); try simp only [Act.put, List.setIfInBounds_toArray, List.set_cons_zero, List.set_cons_succ])
            refine QW.nil ?_
            intro w8 x8
            have X8 := hide x8
            clear x8 HDr
            go_upto_block 6 with fail
            go_cut [24] (fun v wx => v = .bool false ∧ Hid (Below w7.heap.size w7 wx))
            case first =>
              go_wp2
              go_loopw [24, 25] (fun v y wz => ∃ (c : Nat) (b : Bool), c ≤ ks.length ∧ y = .int .i64 c ∧ v = .bool b ∧ Hid (b = oneTo ks c) ∧ Hid (Below w7.heap.size w7 wz)) (fun _ y _ => ks.length - (RowKit.intOf y).toNat)
              case atStart => exact ⟨0, true, Nat.zero_le _, rfl, rfl, (oneTo_zero ks).symm, X8⟩
              case round =>
                rename World => wz
                obtain ⟨c, b, hc, rfl, rfl, HB, Y1⟩ := hrel
                obtain ⟨q1, q2, q3⟩ := HRD.out wz Y1.out
                by_cases hlc : c < ks.length
                · have hlc' : (c : Int) < (ks.length : Int) := by omega
                  obtain ⟨hz0, hz1, hz2⟩ := HKD.out c hlc
                  have HDz : Hid (Below w7.heap.size w7 wz.drew) := bt Y1.out (Below.refl _ _).drew (Nat.le_refl _)
                  have HR2 : Hid (∀ V, Below w7.heap.size w7 V → V.cell? ⟨yb, 1, none⟩ = some (.slice (some ⟨g, 0, none⟩) ks.length gc) ∧ V.cell? ⟨yb, 0, none⟩ = some (.int .i64 (lvn : Int)) ∧ V.cell? ⟨g, c, none⟩ = some (.int .i64 (ks.getD c 0)) ∧ V.cell? ⟨g, 0, none⟩ = some (.int .i64 (ks.getD 0 0))) := fun V y => ⟨(HRD.out V y).2.1, (HRD.out V y).1, HKC.out V y c hlc, HKC.out V y 0 (by omega)⟩
                  have HLF : Hid (∀ V, Below w7.heap.size w7 V → Calls Try.prog 15 #[.pointer (some ⟨a, 0, none⟩), .int .i64 (ks.getD c 0)] V fun e w' => e = .returned (.int .i64 (lvl S N (ks.getD c 0))) ∧ w' = V) := fun V y => HLV.out V y _
                  have HB2 : Hid ((b && (ks.getD c 0 == ks.getD 0 0)) = oneTo ks (c + 1)) := by unfold Hid; rw [HB.out, oneTo_succ hlc]
                  have HBS : Hid (∀ y : Bool, y = oneTo ks (c + 1) → Hid (y = oneTo ks (c + 1))) := fun y h => h
                  generalize lvl S N (ks.getD c 0) = q at *
                  generalize ks.getD c 0 = z at *
                  generalize ks.getD 0 0 = z0 at *
                  have n1 : ¬ z < 0 := by omega
                  have n2 : ¬ (k : Int) + 2 ≤ z := by omega
                  have n3 : ¬ q ≤ (lvn : Int) := by omega
                  clear HB hz0 hz1 hz2
                  have h0k : (0 : Int) < (ks.length : Int) := by omega
                  have h0n : 0 < ks.length := by omega
                  go_upto_region 34 with fail
                  clear q1 q2 q3
                  cases b
                  · have HB3 : Hid (Hid (false = oneTo ks (c + 1))) := HBS.out _ HB2.out
                    refine wp_region_quiet (C := fun w' => Below w7.heap.size w7 w') (by kernel_rfl) (by kernel_rfl) HDz.out ?_
                    refine QW.out (l := _ :: _) ?_
                    iterate 2 (refine QW.take (by rfl) ?_; apply Exists.intro; refine ⟨fun w' hw' => ?_, ?_⟩; (· (obtain ⟨q1, q2, q3, q4⟩ := HR2.out w' hw'; go_simp; first | done | (first | done | rfl))); try simp only [Act.put, List.setIfInBounds_toArray, List.set_cons_zero, List.set_cons_succ])
                    iterate 10 (refine QW.skip (by rfl) ?_; try simp only [Act.put, List.setIfInBounds_toArray, List.set_cons_zero, List.set_cons_succ])
                    iterate 2 (refine QW.take (by rfl) ?_; apply Exists.intro; refine ⟨fun w' hw' => ?_, ?_⟩; (· (obtain ⟨q1, q2, q3, q4⟩ := HR2.out w' hw'; go_simp; first | done | (first | done | rfl))); try simp only [Act.put, List.setIfInBounds_toArray, List.set_cons_zero, List.set_cons_succ])
                    refine QW.nil ?_
                    intro wu xu
                    have HDu : Hid (Below w7.heap.size w7 wu.drew) := bt xu (Below.refl _ _).drew (Nat.le_refl _)
                    clear xu
                    go_upto_region 35 with fail
                    refine wp_region_quiet (C := fun w' => Below w7.heap.size w7 w') (by kernel_rfl) (by kernel_rfl) HDu.out ?_
                    refine QW.out (l := _ :: _) ?_
                    iterate 22 (refine QW.take (by rfl) ?_; apply Exists.intro; refine ⟨fun w' hw' => ?_, ?_⟩; (· (obtain ⟨q1, q2, q3, q4⟩ := HR2.out w' hw'; go_simp; first | done | (first | done | rfl))); try simp only [Act.put, List.setIfInBounds_toArray, List.set_cons_zero, List.set_cons_succ])
                    iterate 1 (refine QW.take (by rfl) ?_; apply Exists.intro; refine ⟨fun w' hw' => ?_, ?_⟩; (· (obtain ⟨q1, q2, q3, q4⟩ := HR2.out w' hw'; go_simp; (refine (HLF.out w' hw').mono ?_; rintro e w3 ⟨rfl, x3⟩; exact ⟨rfl, by rw [x3]; exact hw'⟩))); try simp only [Act.put, List.setIfInBounds_toArray, List.set_cons_zero, List.set_cons_succ])
                    iterate 4 (refine QW.take (by rfl) ?_; apply Exists.intro; refine ⟨fun w' hw' => ?_, ?_⟩; (· (obtain ⟨q1, q2, q3, q4⟩ := HR2.out w' hw'; go_simp; first | done | (first | done | rfl))); try simp only [Act.put, List.setIfInBounds_toArray, List.set_cons_zero, List.set_cons_succ])
                    refine QW.nil ?_
                    intro wt xt
                    have XT := hide xt
                    clear xt
                    go_wp2
                    exact ⟨⟨c + 1, false, by omega, by go_num, rfl, HB3.out, XT⟩, by simp [RowKit.intOf]; omega⟩
                  · rw [Bool.true_and] at HB2
                    have HB3 : Hid (Hid ((z == z0) = oneTo ks (c + 1))) := HBS.out _ HB2.out
                    refine wp_region_quiet (C := fun w' => Below w7.heap.size w7 w') (by kernel_rfl) (by kernel_rfl) HDz.out ?_
                    refine QW.out (l := _ :: _) ?_
                    iterate 14 (refine QW.take (by rfl) ?_; apply Exists.intro; refine ⟨fun w' hw' => ?_, ?_⟩; (· (obtain ⟨q1, q2, q3, q4⟩ := HR2.out w' hw'; go_simp; first | done | (first | done | rfl))); try simp only [Act.put, List.setIfInBounds_toArray, List.set_cons_zero, List.set_cons_succ])
                    refine QW.nil ?_
                    intro wu xu
                    have HDu : Hid (Below w7.heap.size w7 wu.drew) := bt xu (Below.refl _ _).drew (Nat.le_refl _)
                    clear xu
                    go_upto_region 35 with fail
                    refine wp_region_quiet (C := fun w' => Below w7.heap.size w7 w') (by kernel_rfl) (by kernel_rfl) HDu.out ?_
                    refine QW.out (l := _ :: _) ?_
                    iterate 22 (refine QW.take (by rfl) ?_; apply Exists.intro; refine ⟨fun w' hw' => ?_, ?_⟩; (· (obtain ⟨q1, q2, q3, q4⟩ := HR2.out w' hw'; go_simp; first | done | (first | done | rfl))); try simp only [Act.put, List.setIfInBounds_toArray, List.set_cons_zero, List.set_cons_succ])
                    iterate 1 (refine QW.take (by rfl) ?_; apply Exists.intro; refine ⟨fun w' hw' => ?_, ?_⟩; (· (obtain ⟨q1, q2, q3, q4⟩ := HR2.out w' hw'; go_simp; (refine (HLF.out w' hw').mono ?_; rintro e w3 ⟨rfl, x3⟩; exact ⟨rfl, by rw [x3]; exact hw'⟩))); try simp only [Act.put, List.setIfInBounds_toArray, List.set_cons_zero, List.set_cons_succ])
                    iterate 4 (refine QW.take (by rfl) ?_; apply Exists.intro; refine ⟨fun w' hw' => ?_, ?_⟩; (· (obtain ⟨q1, q2, q3, q4⟩ := HR2.out w' hw'; go_simp; first | done | (first | done | rfl))); try simp only [Act.put, List.setIfInBounds_toArray, List.set_cons_zero, List.set_cons_succ])
                    refine QW.nil ?_
                    intro wt xt
                    have XT := hide xt
                    clear xt
                    go_wp2
                    exact ⟨⟨c + 1, (z == z0), by omega, by go_num, rfl, HB3.out, XT⟩, by simp [RowKit.intOf]; omega⟩
                · have hlc' : ¬ (c : Int) < (ks.length : Int) := by omega
                  obtain rfl : c = ks.length := by omega
                  have hb := HB.out
                  rw [HON.out] at hb
                  subst hb
                  go_wp2
                  go_meet
                  exact ⟨rfl, Y1⟩
            case rest =>
              obtain ⟨rfl, Y1⟩ := hcut
              obtain ⟨na, nc, hnv, hna⟩ := own_shape R7.out.row
              subst hnv
              have HNA := hide hna
              clear hna X8
              go_upto_block 8 with fail
              go_cut [] (fun wx => Hid (Below w7.heap.size w7 wx))
              case first =>
                go_wp2
                go_loopw [26] (fun y wz => ∃ i : Nat, i ≤ R.length ∧ y = .int .i64 i ∧ Hid (Below w7.heap.size w7 wz)) (fun y _ => R.length - (RowKit.intOf y).toNat)
                case atStart => exact ⟨0, Nat.zero_le _, rfl, Y1⟩
                case round =>
                  rename World => wz
                  obtain ⟨i, hi, rfl, Y2⟩ := hrel
                  have hRl : R.length ≤ 8192 := by have := HRK.out; omega
                  by_cases hli : i < R.length
                  · have hli' : (i : Int) < (R.length : Int) := by omega
                    obtain ⟨nb, hnb⟩ := HNA.out (by omega)
                    subst hnb
                    have hne : (R[i]).ks = ks → ¬ (R[i]).lv = (lvn : Int) := fun e1 e2 => by
                      have h1 := nd_at HR.out hli
                      rw [e1, e2] at h1
                      have h9 := nodup_at OK9.out.nod h1 HNK.out
                      have := HRK.out
                      omega
                    have HSM : Hid (∀ V, Below w7.heap.size w7 V → Calls Try.prog 16 #[.slice (some ⟨(R[i]).kb, 0, none⟩) (R[i]).ks.length (R[i]).kc, .slice (some ⟨g, 0, none⟩) ks.length gc] V fun e w' => e = .returned (.bool (decide ((R[i]).ks = ks))) ∧ Below V.heap.size V w') := fun V y => by
                      have h1 := ((R7.out.below y).node hli).2.2
                      have h2 := OK9.out
                      refine same_any _ _ _ _ _ _ V ?_ h1.at (Z7.out.below y).at
                      have h3 := nd_at HR.out hli
                      have h4 := h2.each i (at_lt h3)
                      have h5 := (h4.1.rng (N := N.take i) h2 (by rw [List.length_take]; omega)).2.2.1
                      rw [List.getElem?_eq_getElem (at_lt h3)] at h3
                      rw [Option.some.inj h3] at h5
                      simp only at h5
                      omega
                    have HR3 : Hid (∀ V, Below w7.heap.size w7 V → V.cell? ⟨yb, 1, none⟩ = some (.slice (some ⟨g, 0, none⟩) ks.length gc) ∧ V.cell? ⟨yb, 0, none⟩ = some (.int .i64 (lvn : Int)) ∧ V.cell? ⟨nb, i * 2, none⟩ = some (.int .i64 (R[i]).lv) ∧ V.cell? ⟨nb, i * 2 + 1, none⟩ = some (.slice (some ⟨(R[i]).kb, 0, none⟩) (R[i]).ks.length (R[i]).kc)) := fun V y => ⟨(HRD.out V y).2.1, (HRD.out V y).1, ((R7.out.below y).node hli).1, ((R7.out.below y).node hli).2.1⟩
                    have HNE : Hid (decide ((R[i]).ks = ks) = true → ((R[i]).lv == (lvn : Int)) = false) := fun h => by
                      have := hne (of_decide_eq_true h)
                      simpa using this
                    generalize decide ((R[i]).ks = ks) = b2 at *
                    generalize (R[i]).ks.length = kl at *
                    generalize (R[i]).lv = lvi at *
                    generalize (R[i]).kb = kbi at *
                    generalize (R[i]).kc = kci at *
                    clear hne
                    have HDz : Hid (Below w7.heap.size w7 wz.drew) := bt Y2.out (Below.refl _ _).drew (Nat.le_refl _)
                    go_upto_region 40 with fail
                    refine wp_region_quiet (C := fun w' => Below w7.heap.size w7 w') (by kernel_rfl) (by kernel_rfl) HDz.out ?_
                    refine QW.out (l := _ :: _) ?_
                    iterate 7 (refine QW.take (by rfl) ?_; apply Exists.intro; refine ⟨fun w' hw' => ?_, ?_⟩; (· (obtain ⟨q1, q2, q3, q4⟩ := HR3.out w' hw'; go_simp; first | done | (first | done | rfl))); try simp only [Act.put, List.setIfInBounds_toArray, List.set_cons_zero, List.set_cons_succ])
                    iterate 1 (refine QW.take (by rfl) ?_; apply Exists.intro; refine ⟨fun w' hw' => ?_, ?_⟩; (· (obtain ⟨q1, q2, q3, q4⟩ := HR3.out w' hw'; go_simp; (refine (HSM.out w' hw').mono ?_; rintro e w3 ⟨rfl, x3⟩; exact ⟨rfl, bt hw' x3 (Nat.le_refl _)⟩))); try simp only [Act.put, List.setIfInBounds_toArray, List.set_cons_zero, List.set_cons_succ])
                    iterate 1 (refine QW.take (by rfl) ?_; apply Exists.intro; refine ⟨fun w' hw' => ?_, ?_⟩; (· (obtain ⟨q1, q2, q3, q4⟩ := HR3.out w' hw'; go_simp; first | done | (first | done | rfl))); try simp only [Act.put, List.setIfInBounds_toArray, List.set_cons_zero, List.set_cons_succ])
                    refine QW.nil ?_
                    intro wu xu
                    have HDu : Hid (Below w7.heap.size w7 wu.drew) := bt xu (Below.refl _ _).drew (Nat.le_refl _)
                    clear xu HDz HSM
                    cases b2
                    · go_upto_region 41 with fail
                      refine wp_region_quiet (C := fun w' => Below w7.heap.size w7 w') (by kernel_rfl) (by kernel_rfl) HDu.out ?_
                      refine QW.out (l := _ :: _) ?_
                      iterate 2 (refine QW.take (by rfl) ?_; apply Exists.intro; refine ⟨fun w' hw' => ?_, ?_⟩; (· (obtain ⟨q1, q2, q3, q4⟩ := HR3.out w' hw'; go_simp; first | done | (first | done | rfl))); try simp only [Act.put, List.setIfInBounds_toArray, List.set_cons_zero, List.set_cons_succ])
                      iterate 8 (refine QW.skip (by rfl) ?_; try simp only [Act.put, List.setIfInBounds_toArray, List.set_cons_zero, List.set_cons_succ])
                      iterate 1 (refine QW.take (by rfl) ?_; apply Exists.intro; refine ⟨fun w' hw' => ?_, ?_⟩; (· (obtain ⟨q1, q2, q3, q4⟩ := HR3.out w' hw'; go_simp; first | done | (first | done | rfl))); try simp only [Act.put, List.setIfInBounds_toArray, List.set_cons_zero, List.set_cons_succ])
                      refine QW.nil ?_
                      intro wt xt
                      have XT := hide xt
                      clear xt
                      go_wp2
                      exact ⟨⟨i + 1, by omega, by go_num, XT⟩, by simp [RowKit.intOf]; omega⟩
                    · have hne := HNE.out rfl
                      go_upto_region 41 with fail
                      refine wp_region_quiet (C := fun w' => Below w7.heap.size w7 w') (by kernel_rfl) (by kernel_rfl) HDu.out ?_
                      refine QW.out (l := _ :: _) ?_
                      iterate 11 (refine QW.take (by rfl) ?_; apply Exists.intro; refine ⟨fun w' hw' => ?_, ?_⟩; (· (obtain ⟨q1, q2, q3, q4⟩ := HR3.out w' hw'; go_simp; first | done | (first | done | rfl))); try simp only [Act.put, List.setIfInBounds_toArray, List.set_cons_zero, List.set_cons_succ])
                      refine QW.nil ?_
                      intro wt xt
                      have XT := hide xt
                      clear xt
                      go_wp2
                      exact ⟨⟨i + 1, by omega, by go_num, XT⟩, by simp [RowKit.intOf]; omega⟩
                  · have hli' : ¬ (i : Int) < (R.length : Int) := by omega
                    go_wp2
                    go_meet
                    exact Y2
              case rest =>
                have Y3 := hcut
                obtain ⟨q1, q2, q3⟩ := HRD.out wc Y3.out
                have y5 : Below wc.heap.size wc (wc.alloc (.cells #[.int .i64 (lvn : Int), .slice (some ⟨g, 0, none⟩) ks.length gc] 47)) := al (Below.refl _ _) _
                have x5 := bt Y3.out y5 (Nat.le_refl _)
                have R8 := hide (R7.out.below x5)
                have Z8 := hide (Z7.out.below x5)
                have X5 := hide (bt X7.out x5 (Nat.le_refl _))
                have HNW := hide (two_new wc (.int .i64 (lvn : Int)) (.slice (some ⟨g, 0, none⟩) ks.length gc) 47)
                have hRl : R.length ≤ 8192 := by have := HRK.out; omega
                have HTK : Hid (R.map ND.nd ++ [((lvn : Int), ks)] = N.take (k + 1)) := by
                  unfold Hid
                  rw [HR.out, List.take_add_one, HNK.out]
                  rfl
                obtain ⟨i47, hi47, hj0, hj1, hj2⟩ := HI47.out
                go_wp2_with (at_builtin; refine wpList_append_view rfl (.tmp 216) (.tmp 218) 45 rfl w9.heap.size 47 i47 _ 2 32 Try.underlying45 hi47 hj0 hj1 hj2 rfl (by decide) _ R.length (ndC R) rfl R8.out.row ⟨wc.heap.size, 0, none⟩ 1 1 [.int .i64 (lvn : Int), .slice (some ⟨g, 0, none⟩) ks.length gc] rfl rfl HNW.out (by simp [Value.oneCell']) (by decide) (by unfold maxLen; omega) (by omega) X5.out.size ?_; intro v8 w8 h1 h2; have R9 := hide (R8.out.push (x := ⟨(lvn : Int), ks, g, gc⟩) Z8.out h1 h2); have X9' := hide (app_below X5.out R8.out.row h2 (Nat.le_refl _)); obtain ⟨a8, c8, hv8, _⟩ := own_shape h1; subst hv8; clear h1 h2)
                refine ⟨⟨k + 1, by omega, by go_num, R ++ [⟨(lvn : Int), ks, g, gc⟩], by have := HRK.out; simp; omega, ?_, R9, X9'⟩, by simp [RowKit.intOf]; omega⟩
                unfold Hid
                rw [List.map_append]
                exact HTK.out
          · have hlt' : ¬ (k : Int) + 2 < (N.length : Int) + 2 := by omega
            have hkN : k = N.length := by omega
            go_wp2
            go_meet
            have h1 := HR.out
            rw [hkN, List.take_length] at h1
            exact ⟨R, h1, R1, X1⟩
      case rest =>
        obtain ⟨w10, hw10⟩ : ∃ w10, w10 = wc := ⟨wc, rfl⟩
        subst hw10
        obtain ⟨R, HR, R1, Y1⟩ := hcut
        obtain ⟨na, nc, hnv, hna⟩ := own_shape R1.out.row
        subst hnv
        have HNA := hide hna
        clear hna
        have HRN : Hid (R.length = N.length) := by unfold Hid; rw [← HR.out, List.length_map]
        have HOK : Hid (Ok S (M : Int) (R.map ND.nd)) := by unfold Hid; rw [HR.out]; exact OK9.out
        have HNT : Hid (R.map ND.nd = N.take N.length) := by unfold Hid; rw [List.take_length]; exact HR.out
        have CA10 := hide (CA9.out.below Y1.out)
        have ZS10 := hide (ZS9.out.below Y1.out)
        have X10 := hide (bt X9.out Y1.out (Nat.le_refl _))
        have fN : IntKind.i64.wrap ((N.length : Int) + 2) = (N.length : Int) + 2 := by simp [IntKind.wrap, IntKind.bits, IntKind.signed]; omega
        clear CA9 ZS9
        go_upto_block 10 with fail
        go_cut [] (fun wx => Hid (Below w10.heap.size w10 wx))
        case first =>
          go_wp2
          go_loopw [28] (fun y wr => ∃ i : Nat, i ≤ Q.length ∧ y = .int .i64 i ∧ Hid (Below w10.heap.size w10 wr)) (fun y _ => Q.length - (RowKit.intOf y).toNat)
          case atStart => exact ⟨0, Nat.zero_le _, rfl, Below.refl _ _⟩
          case round =>
            obtain ⟨i, hi, rfl, Y2⟩ := hrel
            by_cases hlt : i < Q.length
            · have hlt' : (i : Int) < (Q.length : Int) := by omega
              obtain ⟨pb, po, rfl, hpb, t0, hpt⟩ := HQ.out.get hlt
              generalize Q[i] = o at *
              obtain ⟨pa, pl, pc⟩ := o
              simp only at t0
              have HPT := hide hpt
              have HPC : Hid (∀ V, Below w10.heap.size w10 V → V.cell? ⟨pb, po + i, none⟩ = some (.slice pa pl.length pc)) := fun V y => ((bt X10.out y (Nat.le_refl _)).cell (p := ⟨pb, po + i, none⟩) hpb).trans t0
              clear t0 hpt
              go_upto_block 12 with fail
              go_wp2
              go_loopw [29] (fun y wz => ∃ k : Nat, k ≤ N.length ∧ y = .int .i64 ((k : Int) + 2) ∧ Hid (Below w10.heap.size w10 wz)) (fun y _ => N.length + 2 - (RowKit.intOf y).toNat)
              case atStart => exact ⟨0, Nat.zero_le _, rfl, Y2⟩
              case round =>
                rename World => wz
                obtain ⟨k, hk, rfl, Y3⟩ := hrel
                have fk1 : IntKind.i64.wrap ((k : Int) + 2 + 1) = (k : Int) + 2 + 1 := by simp [IntKind.wrap, IntKind.bits, IntKind.signed]; omega
                have fk2 : IntKind.i64.wrap ((k : Int) + 2 - 2) = (k : Int) := by simp [IntKind.wrap, IntKind.bits, IntKind.signed]; omega
                by_cases hkl : k < N.length
                · have hkl' : (k : Int) + 2 < (N.length : Int) + 2 := by omega
                  have hkR : k < R.length := by have := HRN.out; omega
                  have hkR' : (k : Int) < (R.length : Int) := by omega
                  obtain ⟨nb, hnb⟩ := HNA.out (by omega)
                  subst hnb
                  have HSY : Hid (∀ V, Below w10.heap.size w10 V → Calls Try.prog 17 #[.slice (some ⟨nb, 0, none⟩) R.length nc, .slice (some ⟨lb, 0, none⟩) S.length vc, .int .i64 ((k : Int) + 2), .slice pa pl.length pc] V fun e w' => e = .returned (.bool (sayF (R.map ND.nd) S pl ((k : Int) + 2).toNat ((k : Int) + 2))) ∧ Below V.heap.size V w') := fun V y => says_any ((k : Int) + 2) (R1.out.below y) HOK.out (ZS10.out.below y) (HPT.out.below (bt X10.out y (Nat.le_refl _))).at_ HPT.out.fit (by omega) (by omega)
                  generalize sayF (R.map ND.nd) S pl ((k : Int) + 2).toNat ((k : Int) + 2) = bb at *
                  have hat := nd_at HNT.out hkR
                  have HNC : Hid (∀ V, Below w10.heap.size w10 V → V.cell? ⟨nb, k * 2, none⟩ = some (.int .i64 (R[k]).lv) ∧ V.cell? ⟨nb, k * 2 + 1, none⟩ = some (.slice (some ⟨(R[k]).kb, 0, none⟩) (R[k]).ks.length (R[k]).kc)) := fun V y => ⟨((R1.out.below y).node hkR).1, ((R1.out.below y).node hkR).2.1⟩
                  have hksl : (R[k]).ks.length ≤ 256 := by
                    have h4 := OK9.out.each k hkl
                    have h5 := (h4.1.rng (N := N.take k) OK9.out (by rw [List.length_take]; omega)).2.2.1
                    have h3 := hat
                    rw [List.getElem?_eq_getElem hkl] at h3
                    rw [Option.some.inj h3] at h5
                    exact h5
                  have HMK : Hid (∀ V, Below w10.heap.size w10 V → Calls Try.prog 18 #[.pointer (some ⟨a, 0, none⟩), .int .i64 (R[k]).lv, .slice (some ⟨(R[k]).kb, 0, none⟩) (R[k]).ks.length (R[k]).kc] V fun e w' => e = .returned (.tuple #[.int .i64 ((k : Int) + 2), .int .i64 0]) ∧ Below V.heap.size V w') := fun V y => ((CA10.out.below y).make (R[k]).lv (some ⟨(R[k]).kb, 0, none⟩) (R[k]).kc (R[k]).ks (by omega) ((R1.out.below y).node hkR).2.2.at hm9).mono fun e w' h => h.there OK9.out hat
                  clear hat
                  generalize (R[k]).ks.length = kl at *
                  generalize (R[k]).lv = lvi at *
                  generalize (R[k]).kb = kbi at *
                  generalize (R[k]).kc = kci at *
                  have p0 := HPC.out wz Y3.out
                  have HS1 := hide (HSY.out wz Y3.out)
                  go_upto_region 53 with (go_at_call 17; refine HS1.out.mono ?_; rintro e w11 ⟨rfl, x11⟩; have X11 := hide (bt Y3.out x11 (Nat.le_refl _)); clear x11)
                  clear p0 HS1
                  obtain ⟨n0, n1⟩ := HNC.out w11 X11.out
                  go_upto_region 54 with fail
                  clear n0 n1
                  have y12 : Below w11.heap.size w11 (w11.alloc (.cells #[.int .i64 lvi, .slice (some ⟨kbi, 0, none⟩) kl kci] 47)) := al (Below.refl _ _) _
                  have B12 := heap_alloc_new w11 (.cells #[.int .i64 lvi, .slice (some ⟨kbi, 0, none⟩) kl kci] 47)
                  have X12 := hide (bt X11.out y12 (Nat.le_refl _))
                  obtain ⟨xb, hxb⟩ : ∃ xb, xb = w11.heap.size := ⟨_, rfl⟩
                  rw [← hxb] at B12 ⊢
                  clear hxb y12 X11
                  generalize w11.alloc (.cells #[.int .i64 lvi, .slice (some ⟨kbi, 0, none⟩) kl kci] 47) = w12 at *
                  obtain ⟨r0, r1⟩ := cell_two B12
                  have HM1 := hide (HMK.out w12 X12.out)
                  go_upto_region 55 with (go_at_call 18; refine HM1.out.mono ?_; rintro e w13 ⟨rfl, x13⟩; have X13 := hide (bt X12.out x13 (Nat.le_refl _)); clear x13)
                  clear r0 r1 HM1
                  have p0 := HPC.out w13 X13.out
                  have HS1 := hide (HSY.out w13 X13.out)
                  go_wp2_with (go_at_call 17; refine HS1.out.mono ?_; rintro e w14 ⟨rfl, x14⟩; have X14 := hide (bt X13.out x14 (Nat.le_refl _)); clear x14)
                  exact ⟨⟨k + 1, by omega, by go_num, X14⟩, by simp [RowKit.intOf]; omega⟩
                · have hkl' : ¬ (k : Int) + 2 < (N.length : Int) + 2 := by omega
                  go_wp2
                  exact ⟨⟨i + 1, by omega, by go_num, Y3⟩, by simp [RowKit.intOf]; omega⟩
            · have hlt' : ¬ (i : Int) < (Q.length : Int) := by omega
              go_wp2
              go_meet
              exact Y2
        case rest =>
          have Y5 := hide (bt Y1.out hcut.out (Nat.le_refl _))
          have HL5 := hide (HLN.out wc Y5.out)
          have X15 := hide (bt X9.out Y5.out (Nat.le_refl _))
          go_wp2_with (go_at_call 12; refine HL5.out.mono ?_; rintro e w16 ⟨rfl, x16⟩; replace x16 := x16.symm; subst x16)
          go_ret
          exact ⟨rfl, X15.out⟩
end Go.Proofs.Ytkklphmhbbjmcaa
