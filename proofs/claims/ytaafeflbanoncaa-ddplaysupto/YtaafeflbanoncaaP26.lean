/-
  The document's Back by its contract. No condition.
-/
import Derived.Test.YtaafeflbanoncaaP24
import Derived.Deep.CutBlock
namespace Go.Proofs.Ytaafeflbanoncaa
open Go.RowKit Go.Lib Go.Maps

section
variable {w w' : World} {x : Nat} {S : List Int} {M : Int} {R : List ND} {P P' : Nat → Prop} {sb sc : Nat} {nv lvv : Value} {LV : List Value} {L : Nat → List Int}
theorem RAy.feet (h : RAy w x S M R L P' sb sc nv lvv LV) (hs : ∀ k, P' k → P k) (hl : ∀ k, P k → k < w.heap.size) : RAy w x S M R L P sb sc nv lvv LV :=
  ⟨h.blk, h.sz, h.row, h.kid, h.lrow, h.lists, h.apart, h.fix, hs _ h.px, hs _ h.ps, fun k hk => hs _ (h.pn k hk), fun k hk => hs _ (h.pl k hk), fun i hi k hk => hs _ (h.pi i hi k hk), fun y hy => hs _ (h.pk y hy), hl, h.ok⟩
set_option maxRecDepth 100000 in
set_option maxHeartbeats 8000000 in
theorem backD_any (n : Int) (h : RAx w x S M R P sb sc nv lvv LV) : Calls Try.prog 19 #[.pointer (some ⟨x, 0, none⟩), .int .i64 n] w fun e w' => BkL (R.map ND.nd) n w e w' (fun N' V => RA V x S M N' P) P := by
  obtain ⟨c0, c1, c2, c3⟩ := h.cells
  have hfw := h.few
  have hS1 := h.ok.sz.le
  have hS0 := h.ok.sz.ge
  obtain ⟨ao, cap, hv, hp, hcap⟩ := h.row.shape
  subst hv
  by_cases h0 : n < 0
  · have HC : Hid (¬ (0 ≤ n ∧ n ≤ ((R.map ND.nd).length : Int))) := fun h => by have := h.1; omega
    clear h
    go_enter Try.func19, Try.ntmps19
    go_wp2
    go_ret
    exact .inr ⟨HC.out, rfl, Below.refl _ _⟩
  by_cases h1 : (R.length : Int) < n
  · have HC : Hid (¬ (0 ≤ n ∧ n ≤ ((R.map ND.nd).length : Int))) := fun h => by have := h.2; rw [List.length_map] at this; omega
    clear h
    go_enter Try.func19, Try.ntmps19
    go_wp2
    go_ret
    exact .inr ⟨HC.out, rfl, Below.refl _ _⟩
  obtain ⟨q, rfl⟩ : ∃ q : Nat, n = q := ⟨n.toNat, by omega⟩
  have hq : q ≤ R.length := by omega
  have hq0 : ¬ (q : Int) < 0 := by omega
  have hq1 : ¬ R.length < q := by omega
  have hq2 : ¬ (R.length : Int) < (q : Int) := by omega
  have hqc : q ≤ cap := by omega
  have hqc' : (q : Int) ≤ (cap : Int) := by omega
  have f2 := frozen_of_row w x 2 _ _ h.blk
  have HSN := h.setN (R' := R.take q) (nv' := .slice ao q q) (w2 := w) (Kept.refl _ _) (by
    have := h.row.cut hq
    rw [ndC_take, List.length_take, Nat.min_eq_left hq]
    exact this) (fun k hk => .inl (by cases ao <;> exact hk)) (fun y hy => .inl (List.mem_of_mem_take hy)) (by rw [List.map_take]; exact h.ok.take q)
  have HSM : Hid (RAy (w.setCell ⟨x, 2, none⟩ (.slice ao q q)) x S M (R.take q) (fun i => refs (R.map ND.nd) (i : Int)) P sb sc (.slice ao q q) lvv LV ∧ Kept P w (w.setCell ⟨x, 2, none⟩ (.slice ao q q))) := ⟨HSN.1.feet (fun k hk => by
    rcases hk with hk | hk | ⟨y, hy, rfl⟩
    · exact hk
    · exact h.pn k (by cases ao <;> exact hk)
    · exact h.pk y (List.mem_of_mem_take hy)) (fun k hk => Nat.lt_of_lt_of_le (h.plt k hk) HSN.2.size), HSN.2⟩
  clear h hp h0 h1 HSN
  have eN : IntKind.i64.wrap ((q : Int) + 2) = (q : Int) + 2 := by simp [IntKind.wrap, IntKind.bits, IntKind.signed]; omega
  go_enter Try.func19, Try.ntmps19
  go_upto_region 4 with fail
  generalize w.setCell ⟨x, 2, none⟩ (.slice ao q q) = w1 at *
  clear f2 c0 c1 c2 c3
  go_wp2
  go_loopw [5] (fun y wr => ∃ i : Nat, i ≤ S.length ∧ y = .int .i64 i ∧ ∃ LV', Hid (RAy wr x S M (R.take q) (fun j => if j < i then refs ((R.map ND.nd).take q) (j : Int) else refs (R.map ND.nd) (j : Int)) P sb sc (.slice ao q q) lvv LV') ∧ Hid (Kept P w wr)) (fun y _ => S.length - (RowKit.intOf y).toNat)
  case atStart => exact ⟨0, Nat.zero_le _, rfl, LV, HSM.out.1.congr (fun i hi => by simp), HSM.out.2⟩
  case round =>
    obtain ⟨i, hi, rfl, LV', H1, K1⟩ := hrel
    clear HSM
    obtain ⟨c0, c1, c2, c3⟩ := H1.out.cells
    by_cases hlt : i < S.length
    · have hlt' : (i : Int) < (S.length : Int) := by omega
      obtain ⟨gl, cl, hlv, hgl, hlc, hlf⟩ := H1.out.lcell hlt
      subst hlv
      have HF0 := H1.out.lists i hlt
      simp only [Nat.lt_irrefl, if_false] at HF0
      obtain ⟨ua, uc, hu, hup, huc⟩ := HF0.shape
      have HU := hide hu
      rw [HU.out] at hlc HF0
      have HF := hide HF0
      obtain ⟨kk, hk1, hk2, hk3, hk4⟩ := refs_take (R.map ND.nd) q (by rw [List.length_map]; exact hq) (i : Int)
      have HK2 := hide hk2
      have HK3 := hide hk3
      have HK4 := hide hk4
      have HRL := refs_len (R.map ND.nd) (i : Int)
      rw [List.length_map] at HRL
      have hrl : (refs (R.map ND.nd) (i : Int)).length ≤ 8192 := by omega
      have hxl : x < wr.heap.size := H1.out.plt x H1.out.px
      have HUP := hide hup
      clear hu hk2 hk3 hk4 HF0 hup HRL
      go_upto_block 2 with fail
      go_cut [6] (fun y wx => y = .int .i64 (kk : Int) ∧ Hid (wx = wr))
      case first =>
        go_wp2
        go_loopw [6] (fun y wz => ∃ k : Nat, k ≤ kk ∧ y = .int .i64 k ∧ Hid (wz = wr)) (fun y _ => kk - (RowKit.intOf y).toNat)
        case atStart => exact ⟨0, Nat.zero_le _, rfl, rfl⟩
        case round =>
          obtain ⟨k, hk, rfl, HW⟩ := hrel
          have hw := HW.out
          subst hw
          clear HW
          by_cases hkl : k < (refs (R.map ND.nd) (i : Int)).length
          · have hkl' : (k : Int) < (refs (R.map ND.nd) (i : Int)).length := by omega
            obtain ⟨ug, hug⟩ := HUP.out (by omega)
            subst hug
            have hkc := HF.out.cell rfl (j := k) (by omega)
            rw [zC_get _ hkl] at hkc
            by_cases hkk : k < kk
            · have hv := HK3.out k hkk
              generalize (refs (R.map ND.nd) (i : Int)).getD k 0 = v at *
              go_wp2
              go_roundw
              case rel => exact ⟨k + 1, by omega, by go_num, by first | exact rfl | exact trivial⟩
              case measure => simp [RowKit.intOf]; omega
            · have hv := HK4.out k (by omega) hkl
              obtain rfl : k = kk := by omega
              generalize (refs (R.map ND.nd) (i : Int)).getD k 0 = v at *
              have hv' : ¬ v < (q : Int) + 2 := by omega
              go_wp2
              go_meet
              exact ⟨rfl, rfl⟩
          · have hkl' : ¬ (k : Int) < (refs (R.map ND.nd) (i : Int)).length := by omega
            obtain rfl : k = kk := by omega
            go_wp2
            go_meet
            exact ⟨rfl, rfl⟩
      case rest =>
        obtain ⟨rfl, HW⟩ := hcut
        have hw := HW.out
        clear HW
        subst hw
        have hkc : kk ≤ uc := by omega
        have hkc' : (kk : Int) ≤ (uc : Int) := by omega
        have hkn : ¬ (kk : Int) < 0 := by omega
        go_upto_region 10 with fail
        have yd : Below wc.heap.size wc wc.drew := (Below.refl _ _).drew
        have H2 := hide (H1.out.below yd)
        have K2 := hide (K1.out.trans (Kept.of_below yd))
        have HF2 := hide (HF.out.kept (F := fun _ => False) (Kept.of_below yd) (fun _ _ h => h))
        have HS0 : Hid (wc.drew.cell? ⟨x, 3, none⟩ = some (.slice (some ⟨gl, 0, none⟩) S.length cl) ∧ wc.drew.cell? ⟨gl, i, none⟩ = some (.slice ua (refs (R.map ND.nd) (i : Int)).length uc)) := ⟨(yd.cell (p := ⟨x, 3, none⟩) hxl).trans c3, (yd.cell (p := ⟨gl, i, none⟩) hgl).trans hlc⟩
        obtain ⟨gl2, cl2, elv, _, _, hlf2⟩ := H2.out.lcell hlt
        injection elv with elv _ elc
        injection elv with elv; injection elv with elv
        subst elv elc
        have hlf3 := hlf2
        clear c0 c1 c2 c3 hlc hlf hlf2 yd H1 K1 HF
        refine wp_unt (S := fun V => V.cell? ⟨x, 3, none⟩ = some (.slice (some ⟨gl, 0, none⟩) S.length cl) ∧ V.cell? ⟨gl, i, none⟩ = some (.slice ua (refs (R.map ND.nd) (i : Int)).length uc)) 16 (by kernel_rfl) ?_
        generalize wc.drew = wd at *
        refine UntH.take (i := 0) (some 64) rfl rfl (by kernel_rfl) (by kernel_rfl) (by kernel_rfl) (by kernel_rfl) (fun _ _ _ _ h => h) (by rfl) HS0.out ?_
        apply Exists.intro
        refine ⟨fun w' hw' => ?_, ?_⟩
        · obtain ⟨q0, q1⟩ := hw'
          go_simp
          first | done | rfl
        try simp only [Act.put, List.setIfInBounds_toArray, List.set_cons_zero, List.set_cons_succ]
        refine UntH.take (i := 1) (some 65) rfl rfl (by kernel_rfl) (by kernel_rfl) (by kernel_rfl) (by kernel_rfl) (fun _ _ _ _ h => h) (by rfl) HS0.out ?_
        apply Exists.intro
        refine ⟨fun w' hw' => ?_, ?_⟩
        · obtain ⟨q0, q1⟩ := hw'
          go_simp
          first | done | rfl
        try simp only [Act.put, List.setIfInBounds_toArray, List.set_cons_zero, List.set_cons_succ]
        refine UntH.take (i := 2) (some 66) rfl rfl (by kernel_rfl) (by kernel_rfl) (by kernel_rfl) (by kernel_rfl) (fun _ _ _ _ h => h) (by rfl) HS0.out ?_
        apply Exists.intro
        refine ⟨fun w' hw' => ?_, ?_⟩
        · obtain ⟨q0, q1⟩ := hw'
          go_simp
          first | done | rfl
        try simp only [Act.put, List.setIfInBounds_toArray, List.set_cons_zero, List.set_cons_succ]
        refine UntH.take (i := 3) (some 67) rfl rfl (by kernel_rfl) (by kernel_rfl) (by kernel_rfl) (by kernel_rfl) (fun _ _ _ _ h => h) (by rfl) HS0.out ?_
        apply Exists.intro
        refine ⟨fun w' hw' => ?_, ?_⟩
        · obtain ⟨q0, q1⟩ := hw'
          go_simp
          first | done | rfl
        try simp only [Act.put, List.setIfInBounds_toArray, List.set_cons_zero, List.set_cons_succ]
        refine UntH.take (i := 4) (some 68) rfl rfl (by kernel_rfl) (by kernel_rfl) (by kernel_rfl) (by kernel_rfl) (fun _ _ _ _ h => h) (by rfl) HS0.out ?_
        apply Exists.intro
        refine ⟨fun w' hw' => ?_, ?_⟩
        · obtain ⟨q0, q1⟩ := hw'
          go_simp
          first | done | rfl
        try simp only [Act.put, List.setIfInBounds_toArray, List.set_cons_zero, List.set_cons_succ]
        refine UntH.take (i := 5) (some 69) rfl rfl (by kernel_rfl) (by kernel_rfl) (by kernel_rfl) (by kernel_rfl) (fun _ _ _ _ h => h) (by rfl) HS0.out ?_
        apply Exists.intro
        refine ⟨fun w' hw' => ?_, ?_⟩
        · obtain ⟨q0, q1⟩ := hw'
          go_simp
          first | done | rfl
        try simp only [Act.put, List.setIfInBounds_toArray, List.set_cons_zero, List.set_cons_succ]
        refine UntH.take (i := 6) (some 70) rfl rfl (by kernel_rfl) (by kernel_rfl) (by kernel_rfl) (by kernel_rfl) (fun _ _ _ _ h => h) (by rfl) HS0.out ?_
        apply Exists.intro
        refine ⟨fun w' hw' => ?_, ?_⟩
        · obtain ⟨q0, q1⟩ := hw'
          go_simp
          first | done | rfl
        try simp only [Act.put, List.setIfInBounds_toArray, List.set_cons_zero, List.set_cons_succ]
        refine UntH.take (i := 7) (some 71) rfl rfl (by kernel_rfl) (by kernel_rfl) (by kernel_rfl) (by kernel_rfl) (fun _ _ _ _ h => h) (by rfl) HS0.out ?_
        apply Exists.intro
        refine ⟨fun w' hw' => ?_, ?_⟩
        · obtain ⟨q0, q1⟩ := hw'
          go_simp
          first | done | rfl
        try simp only [Act.put, List.setIfInBounds_toArray, List.set_cons_zero, List.set_cons_succ]
        refine UntH.take (i := 8) (some 72) rfl rfl (by kernel_rfl) (by kernel_rfl) (by kernel_rfl) (by kernel_rfl) (fun _ _ _ _ h => h) (by rfl) HS0.out ?_
        apply Exists.intro
        refine ⟨fun w' hw' => ?_, ?_⟩
        · obtain ⟨q0, q1⟩ := hw'
          go_simp
          first | done | rfl
        try simp only [Act.put, List.setIfInBounds_toArray, List.set_cons_zero, List.set_cons_succ]
        refine UntH.take (i := 9) (some 73) rfl rfl (by kernel_rfl) (by kernel_rfl) (by kernel_rfl) (by kernel_rfl) (fun _ _ _ _ h => h) (by rfl) HS0.out ?_
        apply Exists.intro
        refine ⟨fun w' hw' => ?_, ?_⟩
        · obtain ⟨q0, q1⟩ := hw'
          go_simp
          first | done | rfl
        try simp only [Act.put, List.setIfInBounds_toArray, List.set_cons_zero, List.set_cons_succ]
        refine UntH.take (i := 10) (some 74) rfl rfl (by kernel_rfl) (by kernel_rfl) (by kernel_rfl) (by kernel_rfl) (fun _ _ _ _ h => h) (by rfl) HS0.out ?_
        apply Exists.intro
        refine ⟨fun w' hw' => ?_, ?_⟩
        · obtain ⟨q0, q1⟩ := hw'
          go_simp
          first | done | rfl
        try simp only [Act.put, List.setIfInBounds_toArray, List.set_cons_zero, List.set_cons_succ]
        refine UntH.take (i := 11) (some 75) rfl rfl (by kernel_rfl) (by kernel_rfl) (by kernel_rfl) (by kernel_rfl) (fun _ _ _ _ h => h) (by rfl) HS0.out ?_
        apply Exists.intro
        refine ⟨fun w' hw' => ?_, ?_⟩
        · obtain ⟨q0, q1⟩ := hw'
          go_simp
          first | done | rfl
        try simp only [Act.put, List.setIfInBounds_toArray, List.set_cons_zero, List.set_cons_succ]
        refine UntH.take (i := 12) (some 76) rfl rfl (by kernel_rfl) (by kernel_rfl) (by kernel_rfl) (by kernel_rfl) (fun _ _ _ _ h => h) (by rfl) HS0.out ?_
        apply Exists.intro
        refine ⟨fun w' hw' => ?_, ?_⟩
        · obtain ⟨q0, q1⟩ := hw'
          go_simp
          first | done | rfl
        try simp only [Act.put, List.setIfInBounds_toArray, List.set_cons_zero, List.set_cons_succ]
        refine UntH.take (i := 13) (some 77) rfl rfl (by kernel_rfl) (by kernel_rfl) (by kernel_rfl) (by kernel_rfl) (fun _ _ _ _ h => h) (by rfl) HS0.out ?_
        apply Exists.intro
        refine ⟨fun w' hw' => ?_, ?_⟩
        · obtain ⟨q0, q1⟩ := hw'
          go_simp
          first | done | rfl
        try simp only [Act.put, List.setIfInBounds_toArray, List.set_cons_zero, List.set_cons_succ]
        refine UntH.take (i := 14) (some 78) rfl rfl (by kernel_rfl) (by kernel_rfl) (by kernel_rfl) (by kernel_rfl) (fun _ _ _ _ h => h) (by rfl) HS0.out ?_
        apply Exists.intro
        refine ⟨fun w' hw' => ?_, ?_⟩
        · obtain ⟨q0, q1⟩ := hw'
          go_simp
          first | done | rfl
        try simp only [Act.put, List.setIfInBounds_toArray, List.set_cons_zero, List.set_cons_succ]
        refine UntH.take (i := 15) (some 79) rfl rfl (by kernel_rfl) (by kernel_rfl) (by kernel_rfl) (by kernel_rfl) (fun _ _ _ _ h => h) (by rfl) HS0.out ?_
        apply Exists.intro
        refine ⟨fun w' hw' => ?_, ?_⟩
        · obtain ⟨q0, q1⟩ := hw'
          go_simp
          first | done | rfl
        try simp only [Act.put, List.setIfInBounds_toArray, List.set_cons_zero, List.set_cons_succ]
        have q12 := HS0.out.2
        refine UntH.last (by kernel_rfl) rfl (by kernel_rfl) (by kernel_rfl) (fun K hK => ?_)
        go_simp
        refine hK _ _ ?_
        clear hK K q12 hlf3 HS0
        have hcut := HF2.out.cut hk1
        rw [Nat.mul_one, ← zC_take, HK2.out] at hcut
        have hkl : (refs ((R.map ND.nd).take q) (i : Int)).length = kk := by
          rw [← HK2.out, List.length_take]
          omega
        have HSL := H2.out.setL hlt rfl (w2 := wd) (u' := .slice ua kk kk) (l' := refs ((R.map ND.nd).take q) (i : Int)) (Kept.refl _ _) (by rw [hkl]; exact hcut) (fun k hk => .inl (by rw [HU.out]; cases ua <;> exact hk))
        have H3 : Hid (RAy (wd.setCell ⟨gl, i, none⟩ (.slice ua kk kk)) x S M (R.take q) (fun j => if j < i + 1 then refs ((R.map ND.nd).take q) (j : Int) else refs (R.map ND.nd) (j : Int)) P sb sc (.slice ao q q) (.slice (some ⟨gl, 0, none⟩) S.length cl) (LV'.set i (.slice ua kk kk))) := (HSL.1.congr (fun j hj => by
          by_cases hji : j = i
          · subst hji
            rw [if_pos rfl, if_pos (by omega)]
          · rw [if_neg hji]
            by_cases hj2 : j < i
            · rw [if_pos hj2, if_pos (by omega)]
            · rw [if_neg hj2, if_neg (by omega)])).feet (fun k hk => by
          rcases hk with hk | hk
          · exact hk
          · exact H2.out.pi i hlt k (by rw [HU.out]; cases ua <;> exact hk)) (fun k hk => Nat.lt_of_lt_of_le (H2.out.plt k hk) HSL.2.size)
        have K3 := hide (K2.out.trans HSL.2)
        clear HSL hcut hkl
        generalize wd.setCell ⟨gl, i, none⟩ (.slice ua kk kk) = w5 at *
        go_wp2
        go_roundw
        case rel => exact ⟨i + 1, by omega, by go_num, _, H3, K3⟩
        case measure => simp [RowKit.intOf]; omega
    · have hlt' : ¬ (i : Int) < (S.length : Int) := by omega
      obtain ⟨la, lc, hlv, _⟩ := own_shape H1.out.lrow
      subst hlv
      have H2 : Hid (RA wr x S M ((R.map ND.nd).take q) P) := ⟨R.take q, _, _, _, _, _, H1.out.congr (fun j hj => by rw [if_pos (by omega), List.map_take]), List.map_take⟩
      go_wp2
      go_ret
      exact .inl ⟨by omega, by rw [List.length_map]; omega, rfl, by rw [Int.toNat_natCast]; exact H2.out, K1.out⟩
end
end Go.Proofs.Ytaafeflbanoncaa
