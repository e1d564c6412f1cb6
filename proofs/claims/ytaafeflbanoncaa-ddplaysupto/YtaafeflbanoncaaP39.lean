/-
  first by its contract: the path of a ref is its first point. No condition.
-/
import Derived.Test.YtaafeflbanoncaaP22
import Derived.Deep.DeepCutAuto
import Derived.Deep.CutBlock
namespace Go.Proofs.Ytaafeflbanoncaa
open Go.RowKit Go.Lib Go.Maps

section
variable {w : World} {a wb x ob m cap : Nat} {S L : List Int} {M : Int} {N : List Nd} {P : Nat → Prop} {f : Int} {lv : Value}
set_option maxRecDepth 100000 in
set_option maxHeartbeats 4000000 in
theorem first_ok (h : CA w a S M N m P) (hb : WBk w wb a x lv) (hn : ¬ P wb) (hf : hasR N f) (hF : FstP S N f L) (hz : RwZ w ob L) (hno : ¬ P ob) :
    Calls Try.prog 50 #[.pointer (some ⟨wb, 0, none⟩), .int .i64 f, .slice (some ⟨ob, 0, none⟩) S.length cap] w fun e w' => e = .returned (.bool true) ∧ ∃ N' P', LI w a S M N P N' P' w' := by
  have hs12 := h.ok.sz.le
  have hLl := hF.pt.len
  have EV := eval_ok (cap := cap) h hf hF.pt hz.zbk.at
  rw [hLl, hF.yes] at EV
  have HEV := hide EV
  have I0 := hide (LI.of h)
  have HB := hide hb
  have HN := hide hn
  have HF := hide hf
  have HFP := hide hF
  have HZ := hide hz
  have HNO := hide hno
  have HOK := hide h.ok
  have HLL := hide hLl
  have hSl : S.length ≤ 12 := by omega
  obtain ⟨b0, b1, b2⟩ := hb.cells
  clear h hb hn hf hF hz hno EV hLl
  go_enter Try.func50, Try.ntmps50
  go_upto_region 2 with (go_at_call 31; refine HEV.out.mono ?_; rintro e w1 ⟨rfl, x1⟩; have I1 := hide (I0.out.below x1); clear x1)
  clear HEV I0 b0 b1 b2
  go_wp2
  go_loopw [9] (fun v wr => ∃ k : Nat, k ≤ S.length ∧ v = .int .i64 k ∧ ∃ N' P', Hid (LI w a S M N P N' P' wr)) (fun v _ => S.length - (RowKit.intOf v).toNat)
  case atStart => exact ⟨0, Nat.zero_le _, rfl, _, _, I1⟩
  case round =>
    obtain ⟨k, hk, rfl, N1, P1, I⟩ := hrel
    clear I1
    by_cases hlt : k < S.length
    · have hlt' : (k : Int) < (S.length : Int) := by omega
      obtain ⟨wo, hwo⟩ : ∃ wo, wo = wr := ⟨_, rfl⟩
      subst hwo
      go_upto_block 2 with fail
      go_cut [10] (fun v wx => ∃ gv : Int, v = .int .i64 gv ∧ ∃ N2 P2, Hid (LI w a S M N P N2 P2 wx) ∧ Hid (hasR N2 gv) ∧ Hid (∀ E, Ex N2 E → ∀ p, Pnt S p → sayR E p gv = sayR E (setP L k p) f))
      case first =>
        go_wp2
        go_loopw [10, 11] (fun v u wr => ∃ j : Nat, j ≤ k ∧ u = .int .i64 j ∧ ∃ gv : Int, v = .int .i64 gv ∧ ∃ N2 P2, Hid (LI w a S M N P N2 P2 wr) ∧ Hid (hasR N2 gv) ∧ Hid (∀ E, Ex N2 E → ∀ p, Pnt S p → sayR E p gv = sayR E (setP L j p) f)) (fun _ u _ => k - (RowKit.intOf u).toNat)
        case atStart => exact ⟨0, Nat.zero_le _, rfl, f, rfl, N1, P1, I, hide (I.out.ex.has HF.out), hide (fun E _ p _ => by rw [setP_zero])⟩
        case round =>
          obtain ⟨j, hj, rfl, gv, rfl, N2, P2, J, HG, HS⟩ := hrel
          by_cases hjk : j < k
          · have hjk' : (j : Int) < (k : Int) := by omega
            have hjS : j < S.length := by omega
            have hjS' : (j : Int) < (S.length : Int) := by omega
            have hpt := HFP.out.pt.each j (by rw [HFP.out.pt.len]; exact hjS)
            obtain ⟨c, hc⟩ : ∃ c : Nat, L.getD j 0 = (c : Int) := ⟨(L.getD j 0).toNat, by omega⟩
            rw [hc] at hpt
            have hcs := hpt.2
            have xd : Below wr.heap.size wr wr.drew := (Below.refl _ _).drew
            have J2 := hide (J.out.below xd)
            have HC := hide (J2.out.cut HG.out hjS hcs)
            have ST : Hid (∀ N3 P3 W, LI w a S M N P N3 P3 W → W.cell? ⟨wb, 0, none⟩ = some (.pointer (some ⟨a, 0, none⟩)) ∧ W.cell? ⟨ob, j, none⟩ = some (.int .i64 (c : Int))) := fun N3 P3 W h => by
              have h2 := (h.rowz HZ.out HNO.out).cell (k := j) (by rw [HLL.out]; exact hjS)
              rw [hc] at h2
              exact ⟨(h.wbk HB.out HN.out).cells.1, h2⟩
            have NXS : Hid (∀ (r : Int) (N3 : List Nd), Ex N2 N3 → (∀ E, Ex N3 E → ∀ p, Pnt S p → sayR E p r = sayR E (upd p j c) gv) → ∀ E, Ex N3 E → ∀ p, Pnt S p → sayR E p r = sayR E (setP L (j + 1) p) f) := fun r N3 h1 h2 E hE p hp => by
              rw [h2 E hE p hp, HS.out E (h1.trans hE) _ (hp.upd hcs), ← setP_succ, hc, Int.toNat_natCast]
            clear hpt hcs hc xd
            go_upto_region 11 with fail
            have HS1 := hide (ST.out _ _ _ J2.out)
            refine wp_unt (S := fun V => V.cell? ⟨wb, 0, none⟩ = some (.pointer (some ⟨a, 0, none⟩)) ∧ V.cell? ⟨ob, j, none⟩ = some (.int .i64 (c : Int))) 15 (by kernel_rfl) ?_
            generalize wr.drew = w4 at *
            refine UntH.take (i := 0) (some 46) rfl rfl (by kernel_rfl) (by kernel_rfl) (by kernel_rfl) (by kernel_rfl) (fun _ _ _ _ h => h) (by rfl) HS1.out ?_
            apply Exists.intro
            refine ⟨fun w' hw' => ?_, ?_⟩
            · (obtain ⟨q0, q1⟩ := hw')
              go_simp
              first | done | rfl
            try simp only [Act.put, List.setIfInBounds_toArray, List.set_cons_zero, List.set_cons_succ]
            refine UntH.take (i := 1) (some 47) rfl rfl (by kernel_rfl) (by kernel_rfl) (by kernel_rfl) (by kernel_rfl) (fun _ _ _ _ h => h) (by rfl) HS1.out ?_
            apply Exists.intro
            refine ⟨fun w' hw' => ?_, ?_⟩
            · (obtain ⟨q0, q1⟩ := hw')
              go_simp
              first | done | rfl
            try simp only [Act.put, List.setIfInBounds_toArray, List.set_cons_zero, List.set_cons_succ]
            refine UntH.take (i := 2) (some 48) rfl rfl (by kernel_rfl) (by kernel_rfl) (by kernel_rfl) (by kernel_rfl) (fun _ _ _ _ h => h) (by rfl) HS1.out ?_
            apply Exists.intro
            refine ⟨fun w' hw' => ?_, ?_⟩
            · (obtain ⟨q0, q1⟩ := hw')
              go_simp
              first | done | rfl
            try simp only [Act.put, List.setIfInBounds_toArray, List.set_cons_zero, List.set_cons_succ]
            refine UntH.take (i := 3) (some 49) rfl rfl (by kernel_rfl) (by kernel_rfl) (by kernel_rfl) (by kernel_rfl) (fun _ _ _ _ h => h) (by rfl) HS1.out ?_
            apply Exists.intro
            refine ⟨fun w' hw' => ?_, ?_⟩
            · (obtain ⟨q0, q1⟩ := hw')
              go_simp
              first | done | rfl
            try simp only [Act.put, List.setIfInBounds_toArray, List.set_cons_zero, List.set_cons_succ]
            refine UntH.take (i := 4) (some 50) rfl rfl (by kernel_rfl) (by kernel_rfl) (by kernel_rfl) (by kernel_rfl) (fun _ _ _ _ h => h) (by rfl) HS1.out ?_
            apply Exists.intro
            refine ⟨fun w' hw' => ?_, ?_⟩
            · (obtain ⟨q0, q1⟩ := hw')
              go_simp
              first | done | rfl
            try simp only [Act.put, List.setIfInBounds_toArray, List.set_cons_zero, List.set_cons_succ]
            refine UntH.take (i := 5) (some 51) rfl rfl (by kernel_rfl) (by kernel_rfl) (by kernel_rfl) (by kernel_rfl) (fun _ _ _ _ h => h) (by rfl) HS1.out ?_
            apply Exists.intro
            refine ⟨fun w' hw' => ?_, ?_⟩
            · (obtain ⟨q0, q1⟩ := hw')
              go_simp
              first | done | rfl
            try simp only [Act.put, List.setIfInBounds_toArray, List.set_cons_zero, List.set_cons_succ]
            refine UntH.take (i := 6) (some 52) rfl rfl (by kernel_rfl) (by kernel_rfl) (by kernel_rfl) (by kernel_rfl) (fun _ _ _ _ h => h) (by rfl) HS1.out ?_
            apply Exists.intro
            refine ⟨fun w' hw' => ?_, ?_⟩
            · (obtain ⟨q0, q1⟩ := hw')
              go_simp
              first | done | rfl
            try simp only [Act.put, List.setIfInBounds_toArray, List.set_cons_zero, List.set_cons_succ]
            refine UntH.take (i := 7) (some 53) rfl rfl (by kernel_rfl) (by kernel_rfl) (by kernel_rfl) (by kernel_rfl) (fun _ _ _ _ h => h) (by rfl) HS1.out ?_
            apply Exists.intro
            refine ⟨fun w' hw' => ?_, ?_⟩
            · (obtain ⟨q0, q1⟩ := hw')
              go_simp
              first | done | rfl
            try simp only [Act.put, List.setIfInBounds_toArray, List.set_cons_zero, List.set_cons_succ]
            refine UntH.take (i := 8) (some 54) rfl rfl (by kernel_rfl) (by kernel_rfl) (by kernel_rfl) (by kernel_rfl) (fun _ _ _ _ h => h) (by rfl) HS1.out ?_
            apply Exists.intro
            refine ⟨fun w' hw' => ?_, ?_⟩
            · (obtain ⟨q0, q1⟩ := hw')
              go_simp
              first | done | rfl
            try simp only [Act.put, List.setIfInBounds_toArray, List.set_cons_zero, List.set_cons_succ]
            refine UntH.take (i := 9) (some 55) rfl rfl (by kernel_rfl) (by kernel_rfl) (by kernel_rfl) (by kernel_rfl) (fun _ _ _ _ h => h) (by rfl) HS1.out ?_
            apply Exists.intro
            refine ⟨fun w' hw' => ?_, ?_⟩
            · (obtain ⟨q0, q1⟩ := hw')
              go_simp
              first | done | rfl
            try simp only [Act.put, List.setIfInBounds_toArray, List.set_cons_zero, List.set_cons_succ]
            refine UntH.step (i := 10) (by kernel_rfl) rfl (fun K hK => ?_)
            go_simp
            refine HC.out.mono ?_
            rintro e w5 ⟨r, er, N3, P3, rfl, i3, x3, h3, o3, k3⟩
            have J3 := hide i3
            have HX3 := hide x3
            have HH3 := hide h3
            have HO3 := hide o3
            have HK3 := hide k3
            clear i3 x3 h3 o3 k3
            have HS2 := hide (ST.out _ _ _ J3.out)
            go_simp
            refine hK _ _ HS2.out ?_
            clear hK K HC
            refine UntH.take (i := 11) (some 45) rfl rfl (by kernel_rfl) (by kernel_rfl) (by kernel_rfl) (by kernel_rfl) (fun _ _ _ _ h => h) (by rfl) HS2.out ?_
            apply Exists.intro
            refine ⟨fun w' hw' => ?_, ?_⟩
            · (obtain ⟨q0, q1⟩ := hw')
              go_simp
              first | done | rfl
            try simp only [Act.put, List.setIfInBounds_toArray, List.set_cons_zero, List.set_cons_succ]
            refine UntH.take (i := 12) (some 57) rfl rfl (by kernel_rfl) (by kernel_rfl) (by kernel_rfl) (by kernel_rfl) (fun _ _ _ _ h => h) (by rfl) HS2.out ?_
            apply Exists.intro
            refine ⟨fun w' hw' => ?_, ?_⟩
            · (obtain ⟨q0, q1⟩ := hw')
              go_simp
              first | done | rfl
            try simp only [Act.put, List.setIfInBounds_toArray, List.set_cons_zero, List.set_cons_succ]
            refine UntH.take (i := 13) (some 58) rfl rfl (by kernel_rfl) (by kernel_rfl) (by kernel_rfl) (by kernel_rfl) (fun _ _ _ _ h => h) (by rfl) HS2.out ?_
            apply Exists.intro
            refine ⟨fun w' hw' => ?_, ?_⟩
            · (obtain ⟨q0, q1⟩ := hw')
              go_simp
              first | done | rfl
            try simp only [Act.put, List.setIfInBounds_toArray, List.set_cons_zero, List.set_cons_succ]
            refine UntH.take (i := 14) (some 12) rfl rfl (by kernel_rfl) (by kernel_rfl) (by kernel_rfl) (by kernel_rfl) (fun _ _ _ _ h => h) (by rfl) HS2.out ?_
            apply Exists.intro
            refine ⟨fun w' hw' => ?_, ?_⟩
            · (obtain ⟨q0, q1⟩ := hw')
              go_simp
              first | done | rfl
            try simp only [Act.put, List.setIfInBounds_toArray, List.set_cons_zero, List.set_cons_succ]
            refine UntH.last (by kernel_rfl) rfl (by kernel_rfl) (by kernel_rfl) (fun K hK => ?_)
            go_simp
            refine hK _ _ ?_
            clear hK K HS1 HS2 ST
            rcases HO3.out with rfl | rfl
            · have HS3 := hide (NXS.out r N3 HX3.out (HK3.out rfl))
              clear NXS HK3 HO3
              go_wp2
              go_roundw
              case rel => exact ⟨j + 1, by omega, by go_num, r, rfl, N3, P3, J3, HH3, HS3⟩
              case measure => simp [RowKit.intOf]; omega
            · clear NXS HK3 HO3
              go_wp2
              go_ret
              exact ⟨rfl, _, _, J3.out⟩
          · have hjk' : ¬ (j : Int) < (k : Int) := by omega
            obtain rfl : j = k := by omega
            go_wp2
            go_meet
            exact ⟨gv, rfl, N2, P2, J, HG, HS⟩
      obtain ⟨gv, rfl, N2, P2, J, HG, HS⟩ := hcut
      obtain ⟨w6, hw6⟩ : ∃ w6, w6 = wc := ⟨_, rfl⟩
      subst hw6
      have hpt := HFP.out.pt.each k (by rw [HFP.out.pt.len]; exact hlt)
      obtain ⟨c, hc⟩ : ∃ c : Nat, L.getD k 0 = (c : Int) := ⟨(L.getD k 0).toNat, by omega⟩
      rw [hc] at hpt
      have HCS := hide hpt.2
      have hc8 : c ≤ 256 := by have h8 := HOK.out.sz.each _ (getD_mem hlt); have h9 := hpt.2; omega
      have HC := hide hc
      clear hpt hc I
      go_wp2
      go_loopw [14] (fun v wr => ∃ j : Nat, j ≤ c ∧ v = .int .i64 j ∧ ∃ N3 P3, Hid (LI w a S M N P N3 P3 wr) ∧ Hid (Ex N2 N3)) (fun v _ => c - (RowKit.intOf v).toNat)
      case atStart => exact ⟨0, Nat.zero_le _, rfl, N2, P2, J, hide (Ex.refl _)⟩
      case round =>
        obtain ⟨j, hj, rfl, N3, P3, J3, HX⟩ := hrel
        have q1 : wr.cell? ⟨ob, k, none⟩ = some (.int .i64 (c : Int)) := by
          have h2 := (J3.out.rowz HZ.out HNO.out).cell (k := k) (by rw [HLL.out]; exact hlt)
          rw [HC.out] at h2
          exact h2
        have q0 := (J3.out.wbk HB.out HN.out).cells.1
        by_cases hjc : j < c
        · have hjc' : (j : Int) < (c : Int) := by omega
          have HCT := hide (J3.out.cut (k := j) (HX.out.has HG.out) hlt (by have := HCS.out; omega))
          have ZR : Hid (∀ (r : Int) (N4 : List Nd) P4 W, LI w a S M N P N4 P4 W → Ex N3 N4 → hasR N4 r → (∀ E, Ex N4 E → ∀ p, Pnt S p → sayR E p r = sayR E (upd p k j) gv) → r = 0) := fun r N4 P4 W i4 x4 h4 k4 => by
            refine i4.ca.ok.is_zero h4 (fun p hp => ?_)
            have hp2 : Pnt S (upd p k j) := hp.upd (by have := HCS.out; omega)
            rw [k4 N4 (Ex.refl _) p hp, HS.out N4 (HX.out.trans x4) _ hp2, i4.ex.say HOK.out (setP_pnt HFP.out.pt hp2 k) HF.out]
            exact HFP.out.no p hp k j hlt (by rw [HC.out]; omega)
          go_upto_region 19 with (go_at_call 26; refine HCT.out.mono ?_; rintro e w5 ⟨r, er, N4, P4, rfl, i4, x4, h4, o4, k4⟩; have J4 := hide i4; have HX4 := hide x4; have HH4 := hide h4; have HO4 := hide o4; have HK4 := hide k4; clear i4 x4 h4 o4 k4)
          clear HCT q0 q1
          rcases HO4.out with rfl | rfl
          · have hr := ZR.out r N4 P4 _ J4.out HX4.out HH4.out (HK4.out rfl)
            subst hr
            have HX5 := hide (HX.out.trans HX4.out)
            clear ZR HK4 HO4 HX4
            go_wp2
            go_roundw
            case rel => exact ⟨j + 1, by omega, by go_num, N4, P4, J4, HX5⟩
            case measure => simp [RowKit.intOf]; omega
          · clear ZR HK4 HO4
            go_wp2
            go_ret
            exact ⟨rfl, _, _, J4.out⟩
        · have hjc' : ¬ (j : Int) < (c : Int) := by omega
          go_wp2
          go_roundw
          case rel => exact ⟨k + 1, by omega, by go_num, N3, P3, J3⟩
          case measure => simp [RowKit.intOf]; omega
    · have hlt' : ¬ (k : Int) < (S.length : Int) := by omega
      go_wp2
      go_ret
      exact ⟨rfl, _, _, I.out⟩
end
end Go.Proofs.Ytaafeflbanoncaa
