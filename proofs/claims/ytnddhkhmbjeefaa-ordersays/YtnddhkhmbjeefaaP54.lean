/-
  The statement's own walk. Conditions: arguments that a machine can hold.
-/
import Derived.Test.YtnddhkhmbjeefaaP50
import Derived.Test.YtnddhkhmbjeefaaP51
import Derived.Test.YtnddhkhmbjeefaaP52
import Derived.Test.YtnddhkhmbjeefaaP53
import Derived.Deep.DeepCutAuto
import Derived.Deep.CutBlock
namespace Go.Proofs.Ytnddhkhmbjeefaa
open Go.RowKit Go.Lib Go.Maps

section
variable {w : World} {ao no ro rao po : Option Addr} {A Rt raw : List Int} {Ns : List RW} {T : List QZ}
theorem RbL.one {S : List Int} {M : Int} {F : List Phi} {o : List Int} {n : Nat} {w' : World} {e : Ending} (h : RbL S M F o n w e w') : ∃ vp vl er, e = .returned (.tuple #[vp, vl, .int .i64 er]) ∧ Below w.heap.size w w' ∧ (∃ R L, GD S F R L) ∧ ((er = 0 ∧ (foldF S M F o).2.1 = 0 ∧ ∃ c g gc PC, vp = .pointer (some ⟨c, 0, none⟩) ∧ vl = .slice (some ⟨g, 0, none⟩) n gc ∧ RwZ w' g (foldF S M F o).1 ∧ CA w' c (ledS S o) M (foldF S M F o).2.2 (foldF S M F o).2.2.length PC) ∨ (er = (foldF S M F o).2.1 ∧ (foldF S M F o).2.1 ≠ 0)) := by
  obtain ⟨hor, hb, hg⟩ := h
  rcases hor with ⟨he, c, g, gc, PC, h1, h2, h3, _⟩ | ⟨he, h1⟩
  · exact ⟨_, _, _, h1, hb, hg, .inl ⟨rfl, he, c, g, gc, PC, rfl, rfl, h2, h3⟩⟩
  · exact ⟨_, _, _, h1, hb, hg, .inr ⟨rfl, he⟩⟩
set_option maxRecDepth 100000 in
set_option maxHeartbeats 8000000 in
theorem orderSays_any (c1 c2 c3 rc pc : Nat) (h : MdA w ao A no Ns ro Rt) (hr : ZAt w rao raw) (fr : ∀ c ∈ raw, Fit c) (lr : raw.length ≤ 140737488351232) (hp : QtAt w po T) (lp : T.length ≤ 140737488351232) :
    Calls Try.prog 5 #[.agg #[.slice ao A.length c1, .slice no Ns.length c2, .slice ro Rt.length c3], .slice rao raw.length rc, .slice po T.length pc] w fun e w' => e = .returned (.bool true) ∧ Below w.heap.size w w' := by
  have X1 : Hid (Below w.heap.size w (w.alloc (.cells #[.slice ao A.length c1, .slice no Ns.length c2, .slice ro Rt.length c3] 25))) := al (Below.refl _ _) _
  have B1 : Hid ((w.alloc (.cells #[.slice ao A.length c1, .slice no Ns.length c2, .slice ro Rt.length c3] 25)).heap[w.heap.size]? = some (.cells #[.slice ao A.length c1, .slice no Ns.length c2, .slice ro Rt.length c3] 25 (0, 0))) := heap_alloc_new w _
  have HM := hide (h.below X1.out)
  have HR := hide (hr.below X1.out)
  have HT := hide (hp.below X1.out)
  have FR := hide fr
  have hla := h.la
  have hln := h.ln
  have hlr := h.lr
  clear h hr fr hp
  go_enter Try.func5, Try.ntmps5
  go_upto_region 1 with fail
  generalize w.alloc (.cells #[.slice ao A.length c1, .slice no Ns.length c2, .slice ro Rt.length c3] 25) = w1 at *
  have BX : Hid (∀ V, Below w1.heap.size w1 V → V.cell? ⟨w.heap.size, 0, none⟩ = some (.slice ao A.length c1) ∧ V.cell? ⟨w.heap.size, 1, none⟩ = some (.slice no Ns.length c2) ∧ V.cell? ⟨w.heap.size, 2, none⟩ = some (.slice ro Rt.length c3)) := fun V hV => by
    have b := (hV.block _ (lt_of_obj B1.out)).trans B1.out
    exact ⟨by rw [cell_of_row V _ _ _ _ _ b]; rfl, by rw [cell_of_row V _ _ _ _ _ b]; rfl, by rw [cell_of_row V _ _ _ _ _ b]; rfl⟩
  obtain ⟨q0, q1, q2⟩ := BX.out w1 (Below.refl _ _)
  have SZ := hide (size_any (w := w1) ao no ro A.length c1 c2 Rt.length c3 Ns HM.out.zn hla hln hlr)
  obtain ⟨t0, hmin, ht1, ht2, ht3⟩ := min_run (raw.length : Int) 2147483647
  have ht4 : 0 ≤ t0 := by rcases ht3 with e | e <;> omega
  clear ht3
  have em : IntKind.i64.wrap (10 * t0) = 10 * t0 := by simp [IntKind.wrap, IntKind.bits, IntKind.signed]; omega
  go_upto_region 2 with (first
    | (go_at_call 7; refine SZ.out.mono ?_; clear SZ; rintro e w2 ⟨⟨s0, rfl, hs0, hs1⟩, x2⟩; have X2 := hide x2; clear x2)
    | (go_at_call 6; refine (add_any s0 (10 * t0) hs0 (by omega) (by omega) (by omega)).mono ?_; rintro e w3 ⟨⟨s1, rfl, hs2, hs3⟩, h⟩; rw [h]; clear h))
  clear hmin em q0 q1 q2 ht1 ht2 ht4 hs0 hs1
  go_upto_block 0 with fail
  go_cut [7] (fun v7 wx => ∃ s : Int, v7 = .int .i64 s ∧ Hid (wx = w2))
  case first =>
    go_wp2
    go_loopw [7, 8] (fun v7 v8 wr => ∃ (s : Int) (k : Nat), v7 = .int .i64 s ∧ v8 = .int .i64 (k : Int) ∧ k ≤ T.length ∧ 0 ≤ s ∧ s ≤ 2147483648 ∧ Hid (wr = w2)) (fun _ v _ => T.length - (RowKit.intOf v).toNat)
    case atStart => exact ⟨s1, 0, rfl, rfl, Nat.zero_le _, hs2, hs3, rfl⟩
    case round =>
      obtain ⟨s, k, rfl, rfl, hk, hsa, hsb, HW⟩ := hrel
      rw [HW.out]
      clear HW
      by_cases hlk : k < T.length
      · have hlk' : (k : Int) < (T.length : Int) := by omega
        by_cases hsm : s ≤ 2147483647
        · obtain ⟨b, off, hpo, hb, hcl, PT⟩ := (HT.out.below X2.out).get hlk
          subst hpo
          obtain ⟨z, hz⟩ : ∃ z, T[k] = z := ⟨_, rfl⟩
          rw [hz] at hcl PT
          have hzl := PT.len
          clear hz PT
          obtain ⟨t1, hmin1, hu1, hu2, hu3⟩ := min_run (z.L.length : Int) 2147483647
          have hu4 : 0 ≤ t1 := by rcases hu3 with e | e <;> omega
          clear hu3
          have em1 : IntKind.i64.wrap (10 * t1) = 10 * t1 := by simp [IntKind.wrap, IntKind.bits, IntKind.signed]; omega
          have A2 := hide (add_any (w := w2) 100 (10 * t1) (by decide) (by decide) (by omega) (by omega))
          have A3 : Hid (∀ s2, 0 ≤ s2 → s2 ≤ 2147483648 → Calls Try.prog 6 #[.int .i64 s, .int .i64 s2] w2 fun e w' => (∃ s, e = .returned (.int .i64 s) ∧ 0 ≤ s ∧ s ≤ 2147483648) ∧ w' = w2) := fun s2 h1 h2 => add_any s s2 hsa (by omega) h1 (by omega)
          go_upto_region 4 with (first
            | (go_at_call 6; refine A2.out.mono ?_; clear A2; rintro e w3 ⟨⟨s2, rfl, hv0, hv1⟩, h⟩; rw [h]; clear h)
            | (go_at_call 6; refine (A3.out s2 hv0 hv1).mono ?_; clear A3; rintro e w4 ⟨⟨s3, rfl, hx0, hx1⟩, h⟩; rw [h]; clear h))
          go_wp2
          go_roundw
          case rel => exact ⟨s3, k + 1, rfl, by go_num, by omega, hx0, hx1, by first | exact rfl | exact trivial⟩
          case measure => simp [RowKit.intOf]; omega
        · have hsm' : 2147483647 < s := by omega
          go_wp2
          go_meet
          exact ⟨s, rfl, by first | exact rfl | exact trivial⟩
      · have hlk' : ¬ (k : Int) < (T.length : Int) := by omega
        go_wp2
        go_meet
        exact ⟨s, rfl, by first | exact rfl | exact trivial⟩
  obtain ⟨s, rfl, HW⟩ := hcut
  obtain rfl : w2 = wc := HW.out.symm
  clear HW hs2 hs3
  by_cases hsm : 2147483647 < s
  · go_wp2
    go_ret
    exact ⟨rfl, bt X1.out X2.out (Nat.le_refl _)⟩
  have hsm' : s ≤ 2147483647 := by omega
  go_upto_region 9 with (go_at_call 8; refine (awake_any _).mono ?_; rintro e w4 ⟨rfl, x4⟩; have X4 := hide x4; clear x4)
  have Y4 := hide (bt X2.out X4.out (Nat.le_refl _))
  clear X2 X4
  obtain ⟨q0, q1, q2⟩ := BX.out w4 Y4.out
  have MDC := hide (made_any c1 c2 c3 (HM.out.below Y4.out))
  go_upto_region 12 with (go_at_call 9; refine MDC.out.mono ?_; rintro e w5 ⟨bb, a, x, so, bc, S, N, rs, rfl, hbx, x5⟩; have HB := hide hbx; have X5 := hide x5; clear hbx x5)
  clear MDC q0 q1 q2 BX HM
  have hS7 := HB.out.ls
  have hrs := HB.out.few
  have HSO := hide HB.out.ok
  generalize hxv : Value.pointer (some ⟨x, 0, none⟩) = xv at *
  clear hxv
  have BC5 : Hid (∀ V, Below w5.heap.size w5 V → V.cell? ⟨bb, 0, none⟩ = some (.pointer (some ⟨a, 0, none⟩)) ∧ V.cell? ⟨bb, 2, none⟩ = some (.slice so rs.length bc)) := fun V hV => by
    have b := (HB.out.below hV).blk
    exact ⟨by rw [cell_of_row V _ _ _ _ _ b]; rfl, by rw [cell_of_row V _ _ _ _ _ b]; rfl⟩
  obtain ⟨b0, b2⟩ := BC5.out w5 (Below.refl _ _)
  have SZC : Hid (Calls Try.prog 17 #[.pointer (some ⟨a, 0, none⟩)] w5 fun e w' => ∃ g c, e = .returned (.slice (some ⟨g, 0, none⟩) S.length c) ∧ ZBk w' g S ∧ Below w5.heap.size w5 w') := by
    obtain ⟨m, P, hc⟩ := HB.out.ca
    exact hc.sizes.mono (fun e w' ⟨⟨g, c, h1, _, h2, _⟩, h3⟩ => ⟨g, c, h1, h2, h3⟩)
  go_upto_region 13 with (go_at_call 17; refine SZC.out.mono ?_; rintro e w6 ⟨sg, sc, rfl, zs, x6⟩; have ZS6 := hide zs; have X6 := hide x6; clear zs x6)
  clear SZC b0 b2
  have Y6 := hide (bt (bt Y4.out X5.out (Nat.le_refl _)) X6.out (Nat.le_refl _))
  have PMC : Hid (Calls Try.prog 10 #[.slice rao raw.length rc, .int .i64 (S.length : Int)] w6 fun e w' => ∃ oo oc o, e = .returned (.slice oo S.length oc) ∧ ZAt w' oo o ∧ IsOrd S o ∧ Below w6.heap.size w6 w') := (permuted_any (w := w6) (raw := raw) (n := S.length) rao rc (by omega) (HR.out.below Y6.out) FR.out lr).mono (fun e w' ⟨so, co, O, h1, h2, h3, _, h4⟩ => ⟨so, co, O, h1, own_zat h2, ord_of_perm h3, h4⟩)
  go_upto_region 14 with (go_at_call 10; refine PMC.out.mono ?_; rintro e w7 ⟨oo, oc, o, rfl, zo, ho, x7⟩; have ZO7 := hide zo; have HO := hide ho; have X7 := hide x7; clear zo ho x7)
  clear PMC HR FR
  have HOL : Hid (o.length = S.length) := HO.out.len
  have Z57 := hide (bt X6.out X7.out (Nat.le_refl _))
  have HB7 := hide (HB.out.below Z57.out)
  have BC7 : Hid (∀ V, Below w7.heap.size w7 V → V.cell? ⟨bb, 0, none⟩ = some (.pointer (some ⟨a, 0, none⟩)) ∧ V.cell? ⟨bb, 2, none⟩ = some (.slice so rs.length bc)) := fun V hV => by
    have b := (HB7.out.below hV).blk
    exact ⟨by rw [cell_of_row V _ _ _ _ _ b]; rfl, by rw [cell_of_row V _ _ _ _ _ b]; rfl⟩
  have XD : Hid (Below w7.heap.size w7 w7.drew) := (Below.refl _ w7).drew
  refine wp_unt (S := fun V => V.cell? ⟨bb, 0, none⟩ = some (.pointer (some ⟨a, 0, none⟩)) ∧ V.cell? ⟨bb, 2, none⟩ = some (.slice so rs.length bc)) 16 (by kernel_rfl) ?_
  generalize w7.drew = wd at *
  have HS0 := hide (BC7.out wd XD.out)
  have REB : Hid (Calls Try.prog 12 #[.pointer (some ⟨a, 0, none⟩), .slice so rs.length bc, .slice oo S.length oc, .int .i64 8192] wd fun e w' => RbL S 8192 (rs.map fun f p => sayR N p f) o rs.length wd e w') := by
    have := (HB7.out.below XD.out).reb HO.out oo oc (ZO7.out.below XD.out)
    rw [HOL.out] at this
    exact this
  refine UntH.take (i := 0) (some 87) rfl rfl (by kernel_rfl) (by kernel_rfl) (by kernel_rfl) (by kernel_rfl) (fun _ _ _ _ h => h) (by rfl) HS0.out ?_
  apply Exists.intro
  refine ⟨fun w' hw' => ?_, ?_⟩
  · obtain ⟨q0, q1⟩ := hw'
    go_simp
    first | done | rfl
  try simp only [Act.put, List.setIfInBounds_toArray, List.set_cons_zero, List.set_cons_succ]
  refine UntH.take (i := 1) (some 88) rfl rfl (by kernel_rfl) (by kernel_rfl) (by kernel_rfl) (by kernel_rfl) (fun _ _ _ _ h => h) (by rfl) HS0.out ?_
  apply Exists.intro
  refine ⟨fun w' hw' => ?_, ?_⟩
  · obtain ⟨q0, q1⟩ := hw'
    go_simp
    first | done | rfl
  try simp only [Act.put, List.setIfInBounds_toArray, List.set_cons_zero, List.set_cons_succ]
  refine UntH.take (i := 2) (some 89) rfl rfl (by kernel_rfl) (by kernel_rfl) (by kernel_rfl) (by kernel_rfl) (fun _ _ _ _ h => h) (by rfl) HS0.out ?_
  apply Exists.intro
  refine ⟨fun w' hw' => ?_, ?_⟩
  · obtain ⟨q0, q1⟩ := hw'
    go_simp
    first | done | rfl
  try simp only [Act.put, List.setIfInBounds_toArray, List.set_cons_zero, List.set_cons_succ]
  refine UntH.take (i := 3) (some 90) rfl rfl (by kernel_rfl) (by kernel_rfl) (by kernel_rfl) (by kernel_rfl) (fun _ _ _ _ h => h) (by rfl) HS0.out ?_
  apply Exists.intro
  refine ⟨fun w' hw' => ?_, ?_⟩
  · obtain ⟨q0, q1⟩ := hw'
    go_simp
    first | done | rfl
  try simp only [Act.put, List.setIfInBounds_toArray, List.set_cons_zero, List.set_cons_succ]
  refine UntH.take (i := 4) (some 91) rfl rfl (by kernel_rfl) (by kernel_rfl) (by kernel_rfl) (by kernel_rfl) (fun _ _ _ _ h => h) (by rfl) HS0.out ?_
  apply Exists.intro
  refine ⟨fun w' hw' => ?_, ?_⟩
  · obtain ⟨q0, q1⟩ := hw'
    go_simp
    first | done | rfl
  try simp only [Act.put, List.setIfInBounds_toArray, List.set_cons_zero, List.set_cons_succ]
  refine UntH.take (i := 5) (some 92) rfl rfl (by kernel_rfl) (by kernel_rfl) (by kernel_rfl) (by kernel_rfl) (fun _ _ _ _ h => h) (by rfl) HS0.out ?_
  apply Exists.intro
  refine ⟨fun w' hw' => ?_, ?_⟩
  · obtain ⟨q0, q1⟩ := hw'
    go_simp
    first | done | rfl
  try simp only [Act.put, List.setIfInBounds_toArray, List.set_cons_zero, List.set_cons_succ]
  refine UntH.take (i := 6) (some 93) rfl rfl (by kernel_rfl) (by kernel_rfl) (by kernel_rfl) (by kernel_rfl) (fun _ _ _ _ h => h) (by rfl) HS0.out ?_
  apply Exists.intro
  refine ⟨fun w' hw' => ?_, ?_⟩
  · obtain ⟨q0, q1⟩ := hw'
    go_simp
    first | done | rfl
  try simp only [Act.put, List.setIfInBounds_toArray, List.set_cons_zero, List.set_cons_succ]
  refine UntH.take (i := 7) (some 94) rfl rfl (by kernel_rfl) (by kernel_rfl) (by kernel_rfl) (by kernel_rfl) (fun _ _ _ _ h => h) (by rfl) HS0.out ?_
  apply Exists.intro
  refine ⟨fun w' hw' => ?_, ?_⟩
  · obtain ⟨q0, q1⟩ := hw'
    go_simp
    first | done | rfl
  try simp only [Act.put, List.setIfInBounds_toArray, List.set_cons_zero, List.set_cons_succ]
  refine UntH.take (i := 8) (some 95) rfl rfl (by kernel_rfl) (by kernel_rfl) (by kernel_rfl) (by kernel_rfl) (fun _ _ _ _ h => h) (by rfl) HS0.out ?_
  apply Exists.intro
  refine ⟨fun w' hw' => ?_, ?_⟩
  · obtain ⟨q0, q1⟩ := hw'
    go_simp
    first | done | rfl
  try simp only [Act.put, List.setIfInBounds_toArray, List.set_cons_zero, List.set_cons_succ]
  refine UntH.step (i := 9) (by kernel_rfl) rfl (fun K hK => ?_)
  go_simp
  refine REB.out.mono ?_
  rintro e w8 hrb
  obtain ⟨vp, vl, er, rfl, x8, hgd, hor⟩ := hrb.one
  have HGD := hide hgd
  have HOR := hide hor
  have X8 := hide (bt XD.out x8 (Nat.le_refl _))
  have HS1 := hide (BC7.out w8 X8.out)
  clear hrb hgd hor x8
  refine hK _ _ HS1.out ?_
  clear hK K
  try simp only [Act.put, List.setIfInBounds_toArray, List.set_cons_zero, List.set_cons_succ]
  refine UntH.take (i := 10) (some 86) rfl rfl (by kernel_rfl) (by kernel_rfl) (by kernel_rfl) (by kernel_rfl) (fun _ _ _ _ h => h) (by rfl) HS1.out ?_
  apply Exists.intro
  refine ⟨fun w' hw' => ?_, ?_⟩
  · obtain ⟨q0, q1⟩ := hw'
    go_simp
    first | done | rfl
  try simp only [Act.put, List.setIfInBounds_toArray, List.set_cons_zero, List.set_cons_succ]
  refine UntH.take (i := 11) (some 97) rfl rfl (by kernel_rfl) (by kernel_rfl) (by kernel_rfl) (by kernel_rfl) (fun _ _ _ _ h => h) (by rfl) HS1.out ?_
  apply Exists.intro
  refine ⟨fun w' hw' => ?_, ?_⟩
  · obtain ⟨q0, q1⟩ := hw'
    go_simp
    first | done | rfl
  try simp only [Act.put, List.setIfInBounds_toArray, List.set_cons_zero, List.set_cons_succ]
  refine UntH.take (i := 12) (some 98) rfl rfl (by kernel_rfl) (by kernel_rfl) (by kernel_rfl) (by kernel_rfl) (fun _ _ _ _ h => h) (by rfl) HS1.out ?_
  apply Exists.intro
  refine ⟨fun w' hw' => ?_, ?_⟩
  · obtain ⟨q0, q1⟩ := hw'
    go_simp
    first | done | rfl
  try simp only [Act.put, List.setIfInBounds_toArray, List.set_cons_zero, List.set_cons_succ]
  refine UntH.take (i := 13) (some 99) rfl rfl (by kernel_rfl) (by kernel_rfl) (by kernel_rfl) (by kernel_rfl) (fun _ _ _ _ h => h) (by rfl) HS1.out ?_
  apply Exists.intro
  refine ⟨fun w' hw' => ?_, ?_⟩
  · obtain ⟨q0, q1⟩ := hw'
    go_simp
    first | done | rfl
  try simp only [Act.put, List.setIfInBounds_toArray, List.set_cons_zero, List.set_cons_succ]
  refine UntH.take (i := 14) (some 14) rfl rfl (by kernel_rfl) (by kernel_rfl) (by kernel_rfl) (by kernel_rfl) (fun _ _ _ _ h => h) (by rfl) HS1.out ?_
  apply Exists.intro
  refine ⟨fun w' hw' => ?_, ?_⟩
  · obtain ⟨q0, q1⟩ := hw'
    go_simp
    first | done | rfl
  try simp only [Act.put, List.setIfInBounds_toArray, List.set_cons_zero, List.set_cons_succ]
  refine UntH.take (i := 15) (some 15) rfl rfl (by kernel_rfl) (by kernel_rfl) (by kernel_rfl) (by kernel_rfl) (fun _ _ _ _ h => h) (by rfl) HS1.out ?_
  apply Exists.intro
  refine ⟨fun w' hw' => ?_, ?_⟩
  · obtain ⟨q0, q1⟩ := hw'
    go_simp
    first | done | rfl
  try simp only [Act.put, List.setIfInBounds_toArray, List.set_cons_zero, List.set_cons_succ]
  refine UntH.last (by kernel_rfl) rfl (by kernel_rfl) (by kernel_rfl) (fun K hK => ?_)
  go_simp
  refine hK _ _ ?_
  clear hK K HS0 HS1 REB XD
  obtain ⟨R, L, hgd⟩ := HGD.out
  have HG := hide hgd
  clear hgd HGD
  rcases HOR.out with ⟨rfl, hfe, c, g, gc, PC, rfl, rfl, zl, cc⟩ | ⟨he1, he2⟩
  rotate_left
  · have h2 : er = 2 := by
      rcases fold_err (M := 8192) HSO.out.sz HO.out HG.out (by decide) (by decide) with e | e
      · exact absurd e he2
      · omega
    subst h2
    clear he1 he2 HOR
    go_wp2
    go_ret
    exact ⟨rfl, bt X1.out (bt Y6.out (bt X7.out X8.out (Nat.le_refl _)) (Nat.le_refl _)) (Nat.le_refl _)⟩
  have HFE := hide hfe
  have ZL8 := hide zl
  have CC8 := hide cc
  clear HOR hfe zl cc
  have HB8 := hide (HB7.out.below X8.out)
  have ZO8 := hide (ZO7.out.below X8.out)
  have ZS8 := hide (ZS6.out.below (bt X7.out X8.out (Nat.le_refl _)))
  have Y8 := hide (bt Y6.out (bt X7.out X8.out (Nat.le_refl _)) (Nat.le_refl _))
  have HT8 := hide (HT.out.below Y8.out)
  clear HB HB7 ZO7 ZS6 X5 X6 X7 X8 Y6 Y4 Z57 HT BC5 BC7
  have BC8 : Hid (∀ V, Below w8.heap.size w8 V → V.cell? ⟨bb, 0, none⟩ = some (.pointer (some ⟨a, 0, none⟩)) ∧ V.cell? ⟨bb, 2, none⟩ = some (.slice so rs.length bc)) := fun V hV => by
    have b := (HB8.out.below hV).blk
    exact ⟨by rw [cell_of_row V _ _ _ _ _ b]; rfl, by rw [cell_of_row V _ _ _ _ _ b]; rfl⟩
  obtain ⟨b0, b2⟩ := BC8.out w8 (Below.refl _ _)
  go_upto_block 2 with fail
  clear b0 b2
  go_cut [] (fun wx => Hid (Below w8.heap.size w8 wx))
  case first =>
    go_wp2
    go_loopw [17] (fun v17 wr => ∃ i : Nat, v17 = .int .i64 (i : Int) ∧ i ≤ T.length ∧ Hid (Below w8.heap.size w8 wr)) (fun v _ => T.length - (RowKit.intOf v).toNat)
    case atStart => exact ⟨0, rfl, Nat.zero_le _, Below.refl _ _⟩
    case round =>
      obtain ⟨i, rfl, hi, XR⟩ := hrel
      by_cases hlt : i < T.length
      · have hlt' : (i : Int) < (T.length : Int) := by omega
        have hmk := make_ints S.length (S.length : Int) rfl (by omega)
        obtain ⟨pb, poff, hpo, hpb, -, PT0⟩ := HT8.out.get hlt
        subst hpo
        obtain ⟨z, hz⟩ : ∃ z, T[i] = z := ⟨_, rfl⟩
        rw [hz] at PT0
        have hzl := PT0.len
        have FZ := hide PT0.fit
        have PZC : Hid (∀ V, Below w8.heap.size w8 V → V.cell? ⟨pb, poff + i, none⟩ = some (.slice z.pa z.L.length z.pc) ∧ ZAt V z.pa z.L) := fun V hV => by
          have h9 := HT8.out.below hV
          rcases h9 with e | ⟨b', off', e', _, hc'⟩
          · rw [e] at hlt; simp at hlt
          · cases e'
            have := hc' i hlt
            rw [hz] at this
            exact ⟨this.1, this.2.at'⟩
        clear hz PT0
        go_upto_block 4 with fail
        clear hmk
        have XA : Hid (Below wr.heap.size wr (wr.alloc (.cells (zC (List.replicate S.length 0)).toArray 3))) := al (Below.refl _ _) _
        have R1 := hide (RwZ.made wr (List.replicate S.length 0))
        have ESZ : Hid ((wr.alloc (.cells (zC (List.replicate S.length 0)).toArray 3)).heap.size = wr.heap.size + 1) := by unfold Hid; simp
        generalize wr.alloc (.cells (zC (List.replicate S.length 0)).toArray 3) = wa at *
        have XB : Hid (Below wa.heap.size wa (wa.alloc (.cells (zC (List.replicate S.length 0)).toArray 3))) := al (Below.refl _ _) _
        have R2 := hide (RwZ.made wa (List.replicate S.length 0))
        have R1' := hide (R1.out.below XB.out)
        have HKN : Hid (wr.heap.size < wa.heap.size) := R1.out.lt
        generalize wa.alloc (.cells (zC (List.replicate S.length 0)).toArray 3) = wb at *
        have XAB := hide (bt XR.out (bt XA.out XB.out (Nat.le_refl _)) (Nat.le_refl _))
        have XWB : Hid (Below wr.heap.size wr wb) := bt XA.out XB.out (Nat.le_refl _)
        obtain ⟨kb, hkb⟩ : ∃ kb, wr.heap.size = kb := ⟨_, rfl⟩
        obtain ⟨nb, hnb⟩ : ∃ nb, wa.heap.size = nb := ⟨_, rfl⟩
        have hnb2 : kb + 1 = nb := by have := ESZ.out; omega
        have KB : Hid (wr.heap.size ≤ kb ∧ wr.heap.size ≤ nb ∧ kb ≠ nb) := ⟨by omega, by have := HKN.out; omega, by have := HKN.out; omega⟩
        rw [hkb] at R1'
        rw [hnb] at R2
        rw [hkb, hnb2]
        clear hkb hnb hnb2 ESZ R1 XA XB HKN
        generalize wr = wo at *
        go_cut [] (fun wx => ∃ Q, Hid (PtL S Q) ∧ Hid (RwZ wx kb Q) ∧ Hid (RwZ wx nb (List.replicate S.length 0)) ∧ Hid (Below wo.heap.size wo wx))
        case first =>
          go_wp2
          go_loopw [20] (fun v20 wr => ∃ k : Nat, v20 = .int .i64 (k : Int) ∧ k ≤ S.length ∧ ∃ Q, Hid (PtL S Q) ∧ Hid (RwZ wr kb Q) ∧ Hid (RwZ wr nb (List.replicate S.length 0)) ∧ Hid (Below wo.heap.size wo wr)) (fun v _ => S.length - (RowKit.intOf v).toNat)
          case atStart => exact ⟨0, rfl, Nat.zero_le _, _, PtL.zero HSO.out.sz, R1', R2, XWB⟩
          case round =>
            obtain ⟨k, rfl, hk, Q, PQ, RQ, RN, XQ⟩ := hrel
            clear R1' R2 XAB XWB
            have X8R := hide (bt XR.out XQ.out (Nat.le_refl _))
            by_cases hks : k < S.length
            · have hks' : (k : Int) < (S.length : Int) := by omega
              obtain ⟨p1, -⟩ := PZC.out wr X8R.out
              by_cases hkz : k < z.L.length
              · have hkz' : (k : Int) < (z.L.length : Int) := by omega
                go_upto_region 28 with fail
                clear p1
                obtain ⟨zb, zo, hza, hzb, -⟩ := (PZC.out wr X8R.out).2.get hkz
                obtain ⟨cz, hcz⟩ : ∃ cz, z.L.getD k 0 = cz := ⟨_, rfl⟩
                have FC : Fit cz := by rw [← hcz, List.getD_eq_getElem?_getD, List.getElem?_eq_getElem hkz]; exact FZ.out _ (List.getElem_mem _)
                obtain ⟨sz, hsz⟩ : ∃ sz : Nat, S.getD k 0 = (sz : Int) := ⟨(S.getD k 0).toNat, by have := (HSO.out.sz.each _ (List.getElem_mem hks)).1; rw [List.getD_eq_getElem?_getD, List.getElem?_eq_getElem hks]; show S[k] = ((S[k]).toNat : Int); omega⟩
                have HSK : Hid (1 ≤ sz ∧ sz ≤ 256) := by
                  have h1 := HSO.out.sz.each _ (List.getElem_mem hks)
                  rw [List.getD_eq_getElem?_getD, List.getElem?_eq_getElem hks] at hsz
                  replace hsz : S[k] = (sz : Int) := hsz
                  rw [hsz] at h1
                  exact ⟨by omega, by omega⟩
                have RCC : Hid (∀ V, Below w8.heap.size w8 V → V.cell? ⟨pb, poff + i, none⟩ = some (.slice (some ⟨zb, zo, none⟩) z.L.length z.pc) ∧ V.cell? ⟨zb, zo + k, none⟩ = some (.int .i64 cz) ∧ V.cell? ⟨sg, k, none⟩ = some (.int .i64 (sz : Int))) := fun V hV => by
                  obtain ⟨h1, h2⟩ := PZC.out V hV
                  have h3 := (ZS8.out.below hV).cell hks
                  rw [hsz] at h3
                  obtain ⟨zb', zo', e', _, h4⟩ := h2.get hkz
                  rw [hza] at e'
                  cases e'
                  rw [hcz] at h4
                  rw [hza] at h1
                  exact ⟨h1, h4, h3⟩
                have PK := hide (pick_any cz sz FC (by have := HSK.out.1; omega) (by have := HSK.out.2; omega))
                have PQ2 : Hid (PtL S (Q.set k (pkZ cz sz : Int))) := PQ.out.set (by omega) (by rw [hsz]; have := pkZ_lt cz (n := sz) (by have := HSK.out.1; omega); omega)
                clear hza hcz FC hsz HSK
                generalize (pkZ cz sz : Nat) = pk at *
                have XD : Hid (Below wr.heap.size wr wr.drew) := (Below.refl _ wr).drew
                refine wp_unt (S := fun V => V.cell? ⟨pb, poff + i, none⟩ = some (.slice (some ⟨zb, zo, none⟩) z.L.length z.pc) ∧ V.cell? ⟨zb, zo + k, none⟩ = some (.int .i64 cz) ∧ V.cell? ⟨sg, k, none⟩ = some (.int .i64 (sz : Int))) 15 (by kernel_rfl) ?_
                generalize wr.drew = wd at *
                have HS0 := hide (RCC.out wd (bt X8R.out XD.out (Nat.le_refl _)))
                have RQD := hide (RQ.out.below XD.out)
                have RND := hide (RN.out.below XD.out)
                have XQD := hide (bt XQ.out XD.out (Nat.le_refl _))
                have c5 := RQD.out.cell (k := k) (by rw [PQ.out.len]; exact hks)
                have f5 := RQD.out.fro k
                have RQ3 := hide (RQD.out.set k (pk : Int))
                have RN3 := hide (RND.out.kept ((Kept.refl (fun z => z = kb) wd).setCell (p := ⟨kb, k, none⟩) rfl (.int .i64 (pk : Int))) (fun e => KB.out.2.2 e.symm))
                have XQ3 : Hid (Below wo.heap.size wo (wd.setCell ⟨kb, k, none⟩ (.int .i64 (pk : Int)))) := XQD.out.trans ((Kept.refl (fun z => z = kb) wd).setCell (p := ⟨kb, k, none⟩) rfl _ |>.below XQD.out.size (fun z hz => by rw [hz]; exact KB.out.1))
                refine UntH.take (i := 0) (some 143) rfl rfl (by kernel_rfl) (by kernel_rfl) (by kernel_rfl) (by kernel_rfl) (fun _ _ _ _ h => h) (by rfl) HS0.out ?_
                apply Exists.intro
                refine ⟨fun w' hw' => ?_, ?_⟩
                · obtain ⟨q0, q1, q2⟩ := hw'
                  go_simp
                  first | done | rfl
                try simp only [Act.put, List.setIfInBounds_toArray, List.set_cons_zero, List.set_cons_succ]
                refine UntH.take (i := 1) (some 144) rfl rfl (by kernel_rfl) (by kernel_rfl) (by kernel_rfl) (by kernel_rfl) (fun _ _ _ _ h => h) (by rfl) HS0.out ?_
                apply Exists.intro
                refine ⟨fun w' hw' => ?_, ?_⟩
                · obtain ⟨q0, q1, q2⟩ := hw'
                  go_simp
                  first | done | rfl
                try simp only [Act.put, List.setIfInBounds_toArray, List.set_cons_zero, List.set_cons_succ]
                refine UntH.take (i := 2) (some 145) rfl rfl (by kernel_rfl) (by kernel_rfl) (by kernel_rfl) (by kernel_rfl) (fun _ _ _ _ h => h) (by rfl) HS0.out ?_
                apply Exists.intro
                refine ⟨fun w' hw' => ?_, ?_⟩
                · obtain ⟨q0, q1, q2⟩ := hw'
                  go_simp
                  first | done | rfl
                try simp only [Act.put, List.setIfInBounds_toArray, List.set_cons_zero, List.set_cons_succ]
                refine UntH.take (i := 3) (some 146) rfl rfl (by kernel_rfl) (by kernel_rfl) (by kernel_rfl) (by kernel_rfl) (fun _ _ _ _ h => h) (by rfl) HS0.out ?_
                apply Exists.intro
                refine ⟨fun w' hw' => ?_, ?_⟩
                · obtain ⟨q0, q1, q2⟩ := hw'
                  go_simp
                  first | done | rfl
                try simp only [Act.put, List.setIfInBounds_toArray, List.set_cons_zero, List.set_cons_succ]
                refine UntH.take (i := 4) (some 147) rfl rfl (by kernel_rfl) (by kernel_rfl) (by kernel_rfl) (by kernel_rfl) (fun _ _ _ _ h => h) (by rfl) HS0.out ?_
                apply Exists.intro
                refine ⟨fun w' hw' => ?_, ?_⟩
                · obtain ⟨q0, q1, q2⟩ := hw'
                  go_simp
                  first | done | rfl
                try simp only [Act.put, List.setIfInBounds_toArray, List.set_cons_zero, List.set_cons_succ]
                refine UntH.take (i := 5) (some 148) rfl rfl (by kernel_rfl) (by kernel_rfl) (by kernel_rfl) (by kernel_rfl) (fun _ _ _ _ h => h) (by rfl) HS0.out ?_
                apply Exists.intro
                refine ⟨fun w' hw' => ?_, ?_⟩
                · obtain ⟨q0, q1, q2⟩ := hw'
                  go_simp
                  first | done | rfl
                try simp only [Act.put, List.setIfInBounds_toArray, List.set_cons_zero, List.set_cons_succ]
                refine UntH.take (i := 6) (some 149) rfl rfl (by kernel_rfl) (by kernel_rfl) (by kernel_rfl) (by kernel_rfl) (fun _ _ _ _ h => h) (by rfl) HS0.out ?_
                apply Exists.intro
                refine ⟨fun w' hw' => ?_, ?_⟩
                · obtain ⟨q0, q1, q2⟩ := hw'
                  go_simp
                  first | done | rfl
                try simp only [Act.put, List.setIfInBounds_toArray, List.set_cons_zero, List.set_cons_succ]
                refine UntH.take (i := 7) (some 150) rfl rfl (by kernel_rfl) (by kernel_rfl) (by kernel_rfl) (by kernel_rfl) (fun _ _ _ _ h => h) (by rfl) HS0.out ?_
                apply Exists.intro
                refine ⟨fun w' hw' => ?_, ?_⟩
                · obtain ⟨q0, q1, q2⟩ := hw'
                  go_simp
                  first | done | rfl
                try simp only [Act.put, List.setIfInBounds_toArray, List.set_cons_zero, List.set_cons_succ]
                refine UntH.take (i := 8) (some 151) rfl rfl (by kernel_rfl) (by kernel_rfl) (by kernel_rfl) (by kernel_rfl) (fun _ _ _ _ h => h) (by rfl) HS0.out ?_
                apply Exists.intro
                refine ⟨fun w' hw' => ?_, ?_⟩
                · obtain ⟨q0, q1, q2⟩ := hw'
                  go_simp
                  first | done | rfl
                try simp only [Act.put, List.setIfInBounds_toArray, List.set_cons_zero, List.set_cons_succ]
                refine UntH.take (i := 9) (some 152) rfl rfl (by kernel_rfl) (by kernel_rfl) (by kernel_rfl) (by kernel_rfl) (fun _ _ _ _ h => h) (by rfl) HS0.out ?_
                apply Exists.intro
                refine ⟨fun w' hw' => ?_, ?_⟩
                · obtain ⟨q0, q1, q2⟩ := hw'
                  go_simp
                  first | done | rfl
                try simp only [Act.put, List.setIfInBounds_toArray, List.set_cons_zero, List.set_cons_succ]
                refine UntH.take (i := 10) (some 153) rfl rfl (by kernel_rfl) (by kernel_rfl) (by kernel_rfl) (by kernel_rfl) (fun _ _ _ _ h => h) (by rfl) HS0.out ?_
                apply Exists.intro
                refine ⟨fun w' hw' => ?_, ?_⟩
                · obtain ⟨q0, q1, q2⟩ := hw'
                  go_simp
                  first | done | rfl
                try simp only [Act.put, List.setIfInBounds_toArray, List.set_cons_zero, List.set_cons_succ]
                refine UntH.take (i := 11) (some 154) rfl rfl (by kernel_rfl) (by kernel_rfl) (by kernel_rfl) (by kernel_rfl) (fun _ _ _ _ h => h) (by rfl) HS0.out ?_
                apply Exists.intro
                refine ⟨fun w' hw' => ?_, ?_⟩
                · obtain ⟨q0, q1, q2⟩ := hw'
                  go_simp
                  first | done | rfl
                try simp only [Act.put, List.setIfInBounds_toArray, List.set_cons_zero, List.set_cons_succ]
                refine UntH.take (i := 12) (some 155) rfl rfl (by kernel_rfl) (by kernel_rfl) (by kernel_rfl) (by kernel_rfl) (fun _ _ _ _ h => h) (by rfl) HS0.out ?_
                apply Exists.intro
                refine ⟨fun w' hw' => ?_, ?_⟩
                · obtain ⟨q0, q1, q2⟩ := hw'
                  go_simp
                  first | done | rfl
                try simp only [Act.put, List.setIfInBounds_toArray, List.set_cons_zero, List.set_cons_succ]
                refine UntH.step (i := 13) (by kernel_rfl) rfl (fun K hK => ?_)
                go_simp
                refine (PK.out wd).mono ?_
                rintro e w6 ⟨rfl, h⟩
                rw [h]
                clear h
                refine hK _ _ HS0.out ?_
                clear hK K
                try simp only [Act.put, List.setIfInBounds_toArray, List.set_cons_zero, List.set_cons_succ]
                refine UntH.take (i := 14) (some 157) rfl rfl (by kernel_rfl) (by kernel_rfl) (by kernel_rfl) (by kernel_rfl) (fun _ _ _ _ h => h) (by rfl) HS0.out ?_
                apply Exists.intro
                refine ⟨fun w' hw' => ?_, ?_⟩
                · obtain ⟨q0, q1, q2⟩ := hw'
                  go_simp
                  first | done | rfl
                try simp only [Act.put, List.setIfInBounds_toArray, List.set_cons_zero, List.set_cons_succ]
                refine UntH.last (by kernel_rfl) rfl (by kernel_rfl) (by kernel_rfl) (fun K hK => ?_)
                go_simp
                refine hK _ _ ?_
                clear hK K HS0 RCC PK RQD RND XQD c5 f5
                go_wp2
                go_roundw
                case rel => exact ⟨k + 1, by go_num, by omega, _, PQ2, RQ3, RN3, XQ3⟩
                case measure => simp [RowKit.intOf]; omega
              · have hkz' : ¬ (k : Int) < (z.L.length : Int) := by omega
                go_wp2
                go_roundw
                case rel => exact ⟨k + 1, by go_num, by omega, Q, PQ, RQ, RN, XQ⟩
                case measure => simp [RowKit.intOf]; omega
            · have hks' : ¬ (k : Int) < (S.length : Int) := by omega
              go_wp2
              go_meet
              exact ⟨Q, PQ, RQ, RN, XQ⟩
        obtain ⟨Q, PQ, RQ, RN, XQ⟩ := hcut
        clear R1' R2 XAB XWB
        go_upto_block 6 with fail
        generalize wc = we at *
        go_cut [] (fun wx => ∃ Q2, Hid (NwP o Q o.length Q2) ∧ Hid (RwZ wx kb Q) ∧ Hid (RwZ wx nb Q2) ∧ Hid (Below wo.heap.size wo wx))
        case first =>
          go_wp2
          go_loopw [21] (fun v21 wr => ∃ k : Nat, v21 = .int .i64 (k : Int) ∧ k ≤ S.length ∧ ∃ Q2, Hid (NwP o Q k Q2) ∧ Hid (RwZ wr kb Q) ∧ Hid (RwZ wr nb Q2) ∧ Hid (Below wo.heap.size wo wr)) (fun v _ => S.length - (RowKit.intOf v).toNat)
          case atStart =>
            have e := NwP.start (o := o) (old := Q)
            rw [HOL.out] at e
            exact ⟨0, rfl, Nat.zero_le _, _, e, RQ, RN, XQ⟩
          case round =>
            obtain ⟨k, rfl, hk, Q2, NQ, RQ2, RN2, XQ2⟩ := hrel
            clear RQ RN XQ
            by_cases hks : k < S.length
            · have hks' : (k : Int) < (S.length : Int) := by omega
              have hko : k < o.length := by have := HOL.out; omega
              obtain ⟨zb, zo, hao, hzb, q1⟩ := (ZO8.out.below (bt XR.out XQ2.out (Nat.le_refl _))).get hko
              subst hao
              rw [show o.getD k 0 = o[k] by rw [List.getD_eq_getElem?_getD, List.getElem?_eq_getElem hko]; rfl] at q1
              have hrg := HO.out.rng _ (List.getElem_mem hko)
              obtain ⟨v, hv⟩ : ∃ v : Nat, o[k] = (v : Int) := ⟨(o[k]).toNat, by omega⟩
              have NS := hide (NQ.out.step hko)
              rw [hv, Int.toNat_natCast] at NS
              rw [hv] at q1 hrg
              have hvs : v < S.length := by omega
              have hvs' : (v : Int) < (S.length : Int) := by omega
              have q2 := RQ2.out.cell (k := v) (by rw [PQ.out.len]; exact hvs)
              have q3 := RN2.out.cell (k := k) (by rw [NQ.out.len]; exact hko)
              have f3 := RN2.out.fro k
              obtain ⟨u, hu⟩ : ∃ u, Q.getD v 0 = u := ⟨_, rfl⟩
              rw [hu] at q2 NS
              clear hv hrg hko hu
              have RQ3 := hide (RQ2.out.kept ((Kept.refl (fun z => z = nb) wr).setCell (p := ⟨nb, k, none⟩) rfl (.int .i64 u)) (fun e => KB.out.2.2 e))
              have RN3 := hide (RN2.out.set k u)
              have XQ3 : Hid (Below wo.heap.size wo (wr.setCell ⟨nb, k, none⟩ (.int .i64 u))) := XQ2.out.trans ((Kept.refl (fun z => z = nb) wr).setCell (p := ⟨nb, k, none⟩) rfl _ |>.below XQ2.out.size (fun z hz => by rw [hz]; exact KB.out.2.1))
              go_wp2
              go_roundw
              case rel => exact ⟨k + 1, by go_num, by omega, _, NS, RQ3, RN3, XQ3⟩
              case measure => simp [RowKit.intOf]; omega
            · have hks' : ¬ (k : Int) < (S.length : Int) := by omega
              go_wp2
              go_meet
              have e : k = o.length := by have := HOL.out; omega
              rw [e] at NQ
              exact ⟨Q2, NQ, RQ2, RN2, XQ2⟩
        obtain ⟨Q2, NQ, RQ2, RN2, XQ2⟩ := hcut
        clear RQ RN XQ
        generalize wc = wf at *
        have X8F := hide (bt XR.out XQ2.out (Nat.le_refl _))
        have HPT : Hid (PtL (ledS S o) Q2 ∧ ∀ i (hi : i < o.length), ptf Q2 i = ptf Q (o[i]).toNat) := NQ.out.pt HO.out PQ.out
        have HQL : Hid (Q.length = S.length) := PQ.out.len
        have HQL2 : Hid (Q2.length = S.length) := by have h1 := HPT.out.1.len; rw [ledS_length HO.out] at h1; exact h1
        have SAY : Hid (∀ (k : Nat) (hk : k < rs.length), (foldF S 8192 (rs.map fun f p => sayR N p f) o).1.length = rs.length ∧ hasR (foldF S 8192 (rs.map fun f p => sayR N p f) o).2.2 ((foldF S 8192 (rs.map fun f p => sayR N p f) o).1.getD k 0) ∧ sayR (foldF S 8192 (rs.map fun f p => sayR N p f) o).2.2 (ptf Q2) ((foldF S 8192 (rs.map fun f p => sayR N p f) o).1.getD k 0) = sayR N (ptf Q) rs[k]) := fun k hk => led_say HSO.out HO.out HB8.out.has HG.out (by decide) (by decide) HFE.out hk PQ.out.pnt HPT.out.1.pnt HPT.out.2
        clear NQ
        go_wp2
        go_loopw [22] (fun v22 wr => ∃ k : Nat, v22 = .int .i64 (k : Int) ∧ k ≤ rs.length ∧ Hid (Below wf.heap.size wf wr)) (fun v _ => rs.length - (RowKit.intOf v).toNat)
        case atStart => exact ⟨0, rfl, Nat.zero_le _, Below.refl _ _⟩
        case round =>
          obtain ⟨k, rfl, hk, XK⟩ := hrel
          by_cases hkr : k < rs.length
          · have hkr' : (k : Int) < (rs.length : Int) := by omega
            go_upto_region 36 with fail
            obtain ⟨rb, ro2, hro, hrb, -⟩ := HB8.out.rt.get hkr
            obtain ⟨fr0, hfr⟩ : ∃ fr0, rs[k] = fr0 := ⟨_, rfl⟩
            have RCC : Hid (∀ V, Below w8.heap.size w8 V → V.cell? ⟨bb, 0, none⟩ = some (.pointer (some ⟨a, 0, none⟩)) ∧ V.cell? ⟨bb, 2, none⟩ = some (.slice (some ⟨rb, ro2, none⟩) rs.length bc) ∧ V.cell? ⟨rb, ro2 + k, none⟩ = some (.int .i64 fr0)) := fun V hV => by
              obtain ⟨h1, h2⟩ := BC8.out V hV
              obtain ⟨zb', zo', e', _, h4⟩ := (HB8.out.below hV).rt.get hkr
              rw [hro] at e' h2
              cases e'
              rw [List.getD_eq_getElem?_getD, List.getElem?_eq_getElem hkr] at h4
              replace h4 : V.cell? ⟨rb, ro2 + k, none⟩ = some (.int .i64 rs[k]) := h4
              rw [hfr] at h4
              exact ⟨h1, h2, h4⟩
            have FH : Hid (hasR N fr0) := by rw [← hfr]; exact HB8.out.has _ (List.getElem_mem hkr)
            obtain ⟨y1, y2, y3⟩ := SAY.out k hkr
            rw [hfr] at y3
            obtain ⟨ub, hub⟩ : ∃ ub, sayR N (ptf Q) fr0 = ub := ⟨_, rfl⟩
            rw [hub] at y3
            obtain ⟨lf, hlf⟩ : ∃ lf, (foldF S 8192 (rs.map fun f p => sayR N p f) o).1.getD k 0 = lf := ⟨_, rfl⟩
            rw [hlf] at y2 y3
            have EV1 : Hid (∀ V, Below wf.heap.size wf V → Calls Try.prog 18 #[.pointer (some ⟨a, 0, none⟩), .int .i64 fr0, .slice (some ⟨kb, 0, none⟩) S.length S.length] V fun e w' => e = .returned (.tuple #[.bool ub, .int .i64 0]) ∧ Below V.heap.size V w') := fun V hV => by
              obtain ⟨m, P, hc⟩ := HB8.out.ca
              have := eval_ok (cap := S.length) (hc.below (bt X8F.out hV (Nat.le_refl _))) FH.out PQ.out (RQ2.out.below hV).zbk.at
              rw [HQL.out, hub] at this
              exact this
            have EV2 : Hid (∀ V, Below wf.heap.size wf V → Calls Try.prog 18 #[.pointer (some ⟨c, 0, none⟩), .int .i64 lf, .slice (some ⟨nb, 0, none⟩) S.length S.length] V fun e w' => e = .returned (.tuple #[.bool ub, .int .i64 0]) ∧ Below V.heap.size V w') := fun V hV => by
              have := eval_ok (cap := S.length) (CC8.out.below (bt X8F.out hV (Nat.le_refl _))) y2 HPT.out.1 (RN2.out.below hV).zbk.at
              rw [HQL2.out, y3] at this
              exact this
            have LCC : Hid (∀ V, Below w8.heap.size w8 V → V.cell? ⟨g, k, none⟩ = some (.int .i64 lf)) := fun V hV => by
              have := (ZL8.out.below hV).cell (k := k) (by rw [y1]; exact hkr)
              rw [hlf] at this
              exact this
            clear y1 y2 y3 hlf hub hro hfr FH
            have XD : Hid (Below wr.heap.size wr wr.drew) := (Below.refl _ wr).drew
            refine wp_unt (S := fun V => V.cell? ⟨bb, 0, none⟩ = some (.pointer (some ⟨a, 0, none⟩)) ∧ V.cell? ⟨bb, 2, none⟩ = some (.slice (some ⟨rb, ro2, none⟩) rs.length bc) ∧ V.cell? ⟨rb, ro2 + k, none⟩ = some (.int .i64 fr0)) 17 (by kernel_rfl) ?_
            generalize wr.drew = wd at *
            have XFD := hide (bt XK.out XD.out (Nat.le_refl _))
            have HS0 := hide (RCC.out wd (bt X8F.out XFD.out (Nat.le_refl _)))
            refine UntH.take (i := 0) (some 181) rfl rfl (by kernel_rfl) (by kernel_rfl) (by kernel_rfl) (by kernel_rfl) (fun _ _ _ _ h => h) (by rfl) HS0.out ?_
            apply Exists.intro
            refine ⟨fun w' hw' => ?_, ?_⟩
            · obtain ⟨q0, q1, q2⟩ := hw'
              go_simp
              first | done | rfl
            try simp only [Act.put, List.setIfInBounds_toArray, List.set_cons_zero, List.set_cons_succ]
            refine UntH.take (i := 1) (some 182) rfl rfl (by kernel_rfl) (by kernel_rfl) (by kernel_rfl) (by kernel_rfl) (fun _ _ _ _ h => h) (by rfl) HS0.out ?_
            apply Exists.intro
            refine ⟨fun w' hw' => ?_, ?_⟩
            · obtain ⟨q0, q1, q2⟩ := hw'
              go_simp
              first | done | rfl
            try simp only [Act.put, List.setIfInBounds_toArray, List.set_cons_zero, List.set_cons_succ]
            refine UntH.take (i := 2) (some 183) rfl rfl (by kernel_rfl) (by kernel_rfl) (by kernel_rfl) (by kernel_rfl) (fun _ _ _ _ h => h) (by rfl) HS0.out ?_
            apply Exists.intro
            refine ⟨fun w' hw' => ?_, ?_⟩
            · obtain ⟨q0, q1, q2⟩ := hw'
              go_simp
              first | done | rfl
            try simp only [Act.put, List.setIfInBounds_toArray, List.set_cons_zero, List.set_cons_succ]
            refine UntH.take (i := 3) (some 184) rfl rfl (by kernel_rfl) (by kernel_rfl) (by kernel_rfl) (by kernel_rfl) (fun _ _ _ _ h => h) (by rfl) HS0.out ?_
            apply Exists.intro
            refine ⟨fun w' hw' => ?_, ?_⟩
            · obtain ⟨q0, q1, q2⟩ := hw'
              go_simp
              first | done | rfl
            try simp only [Act.put, List.setIfInBounds_toArray, List.set_cons_zero, List.set_cons_succ]
            refine UntH.take (i := 4) (some 185) rfl rfl (by kernel_rfl) (by kernel_rfl) (by kernel_rfl) (by kernel_rfl) (fun _ _ _ _ h => h) (by rfl) HS0.out ?_
            apply Exists.intro
            refine ⟨fun w' hw' => ?_, ?_⟩
            · obtain ⟨q0, q1, q2⟩ := hw'
              go_simp
              first | done | rfl
            try simp only [Act.put, List.setIfInBounds_toArray, List.set_cons_zero, List.set_cons_succ]
            refine UntH.take (i := 5) (some 186) rfl rfl (by kernel_rfl) (by kernel_rfl) (by kernel_rfl) (by kernel_rfl) (fun _ _ _ _ h => h) (by rfl) HS0.out ?_
            apply Exists.intro
            refine ⟨fun w' hw' => ?_, ?_⟩
            · obtain ⟨q0, q1, q2⟩ := hw'
              go_simp
              first | done | rfl
            try simp only [Act.put, List.setIfInBounds_toArray, List.set_cons_zero, List.set_cons_succ]
            refine UntH.take (i := 6) (some 187) rfl rfl (by kernel_rfl) (by kernel_rfl) (by kernel_rfl) (by kernel_rfl) (fun _ _ _ _ h => h) (by rfl) HS0.out ?_
            apply Exists.intro
            refine ⟨fun w' hw' => ?_, ?_⟩
            · obtain ⟨q0, q1, q2⟩ := hw'
              go_simp
              first | done | rfl
            try simp only [Act.put, List.setIfInBounds_toArray, List.set_cons_zero, List.set_cons_succ]
            refine UntH.take (i := 7) (some 188) rfl rfl (by kernel_rfl) (by kernel_rfl) (by kernel_rfl) (by kernel_rfl) (fun _ _ _ _ h => h) (by rfl) HS0.out ?_
            apply Exists.intro
            refine ⟨fun w' hw' => ?_, ?_⟩
            · obtain ⟨q0, q1, q2⟩ := hw'
              go_simp
              first | done | rfl
            try simp only [Act.put, List.setIfInBounds_toArray, List.set_cons_zero, List.set_cons_succ]
            refine UntH.take (i := 8) (some 189) rfl rfl (by kernel_rfl) (by kernel_rfl) (by kernel_rfl) (by kernel_rfl) (fun _ _ _ _ h => h) (by rfl) HS0.out ?_
            apply Exists.intro
            refine ⟨fun w' hw' => ?_, ?_⟩
            · obtain ⟨q0, q1, q2⟩ := hw'
              go_simp
              first | done | rfl
            try simp only [Act.put, List.setIfInBounds_toArray, List.set_cons_zero, List.set_cons_succ]
            refine UntH.take (i := 9) (some 190) rfl rfl (by kernel_rfl) (by kernel_rfl) (by kernel_rfl) (by kernel_rfl) (fun _ _ _ _ h => h) (by rfl) HS0.out ?_
            apply Exists.intro
            refine ⟨fun w' hw' => ?_, ?_⟩
            · obtain ⟨q0, q1, q2⟩ := hw'
              go_simp
              first | done | rfl
            try simp only [Act.put, List.setIfInBounds_toArray, List.set_cons_zero, List.set_cons_succ]
            refine UntH.take (i := 10) (some 191) rfl rfl (by kernel_rfl) (by kernel_rfl) (by kernel_rfl) (by kernel_rfl) (fun _ _ _ _ h => h) (by rfl) HS0.out ?_
            apply Exists.intro
            refine ⟨fun w' hw' => ?_, ?_⟩
            · obtain ⟨q0, q1, q2⟩ := hw'
              go_simp
              first | done | rfl
            try simp only [Act.put, List.setIfInBounds_toArray, List.set_cons_zero, List.set_cons_succ]
            refine UntH.take (i := 11) (some 192) rfl rfl (by kernel_rfl) (by kernel_rfl) (by kernel_rfl) (by kernel_rfl) (fun _ _ _ _ h => h) (by rfl) HS0.out ?_
            apply Exists.intro
            refine ⟨fun w' hw' => ?_, ?_⟩
            · obtain ⟨q0, q1, q2⟩ := hw'
              go_simp
              first | done | rfl
            try simp only [Act.put, List.setIfInBounds_toArray, List.set_cons_zero, List.set_cons_succ]
            refine UntH.step (i := 12) (by kernel_rfl) rfl (fun K hK => ?_)
            go_simp
            refine (EV1.out wd XFD.out).mono ?_
            rintro e w10 ⟨rfl, x10⟩
            have X10 := hide (bt XFD.out x10 (Nat.le_refl _))
            have HS1 := hide (RCC.out w10 (bt X8F.out X10.out (Nat.le_refl _)))
            clear x10
            refine hK _ _ HS1.out ?_
            clear hK K
            try simp only [Act.put, List.setIfInBounds_toArray, List.set_cons_zero, List.set_cons_succ]
            refine UntH.take (i := 13) (some 180) rfl rfl (by kernel_rfl) (by kernel_rfl) (by kernel_rfl) (by kernel_rfl) (fun _ _ _ _ h => h) (by rfl) HS1.out ?_
            apply Exists.intro
            refine ⟨fun w' hw' => ?_, ?_⟩
            · obtain ⟨q0, q1, q2⟩ := hw'
              go_simp
              first | done | rfl
            try simp only [Act.put, List.setIfInBounds_toArray, List.set_cons_zero, List.set_cons_succ]
            refine UntH.take (i := 14) (some 194) rfl rfl (by kernel_rfl) (by kernel_rfl) (by kernel_rfl) (by kernel_rfl) (fun _ _ _ _ h => h) (by rfl) HS1.out ?_
            apply Exists.intro
            refine ⟨fun w' hw' => ?_, ?_⟩
            · obtain ⟨q0, q1, q2⟩ := hw'
              go_simp
              first | done | rfl
            try simp only [Act.put, List.setIfInBounds_toArray, List.set_cons_zero, List.set_cons_succ]
            refine UntH.take (i := 15) (some 195) rfl rfl (by kernel_rfl) (by kernel_rfl) (by kernel_rfl) (by kernel_rfl) (fun _ _ _ _ h => h) (by rfl) HS1.out ?_
            apply Exists.intro
            refine ⟨fun w' hw' => ?_, ?_⟩
            · obtain ⟨q0, q1, q2⟩ := hw'
              go_simp
              first | done | rfl
            try simp only [Act.put, List.setIfInBounds_toArray, List.set_cons_zero, List.set_cons_succ]
            refine UntH.take (i := 16) (some 23) rfl rfl (by kernel_rfl) (by kernel_rfl) (by kernel_rfl) (by kernel_rfl) (fun _ _ _ _ h => h) (by rfl) HS1.out ?_
            apply Exists.intro
            refine ⟨fun w' hw' => ?_, ?_⟩
            · obtain ⟨q0, q1, q2⟩ := hw'
              go_simp
              first | done | rfl
            try simp only [Act.put, List.setIfInBounds_toArray, List.set_cons_zero, List.set_cons_succ]
            refine UntH.last (by kernel_rfl) rfl (by kernel_rfl) (by kernel_rfl) (fun K hK => ?_)
            go_simp
            refine hK _ _ ?_
            clear hK K HS0 HS1 RCC EV1 XFD XD
            have l1 := LCC.out w10 (bt X8F.out X10.out (Nat.le_refl _))
            have E2 := hide (EV2.out w10 X10.out)
            clear EV2 LCC
            go_upto_region 38 with (go_at_call 18; refine E2.out.mono ?_; clear E2; rintro e w11 ⟨rfl, x11⟩; have X11 := hide (bt X10.out x11 (Nat.le_refl _)); clear x11)
            clear l1 X10
            cases ub
            all_goals
              go_wp2
              go_roundw
              case rel => exact ⟨k + 1, by go_num, by omega, X11⟩
              case measure => simp [RowKit.intOf]; omega
          · have hkr' : ¬ (k : Int) < (rs.length : Int) := by omega
            have FIN := hide (bt X8F.out XK.out (Nat.le_refl _))
            go_wp2
            go_roundw
            case rel => exact ⟨i + 1, by go_num, by omega, FIN⟩
            case measure => simp [RowKit.intOf]; omega
      · have hlt' : ¬ (i : Int) < (T.length : Int) := by omega
        go_wp2
        go_meet
        exact XR
  have X9 : Hid (Below w8.heap.size w8 wc) := hcut
  generalize wc = w9 at *
  have X19 := hide (bt Y8.out X9.out (Nat.le_refl _))
  have HB9 := hide (HB8.out.below X9.out)
  have LDC : Hid (Calls Try.prog 19 #[.pointer (some ⟨bb, 0, none⟩), .pointer (some ⟨c, 0, none⟩), .slice (some ⟨g, 0, none⟩) rs.length gc, .slice oo S.length oc] w9 fun e w' => e = .returned (.bool true) ∧ Below w9.heap.size w9 w') := by
    have := led_any HB9.out HO.out HG.out HFE.out (CC8.out.below X9.out) (some ⟨g, 0, none⟩) oo gc oc (ZL8.out.below X9.out).zbk.at (ZO8.out.below X9.out)
    rw [HOL.out] at this
    exact this
  go_upto_region 41 with (go_at_call 19; refine LDC.out.mono ?_; rintro e wl ⟨rfl, xl⟩; have XL := hide xl; clear xl)
  clear LDC CC8 ZL8 ZO8 ZS8 HT8 HB8 BC8
  have HBL := hide (HB9.out.below XL.out)
  have XLL := hide (bt X19.out XL.out (Nat.le_refl _))
  clear HB9 XL X9 X19 Y8 HFE
  have BCL : Hid (∀ V, Below wl.heap.size wl V → V.cell? ⟨bb, 0, none⟩ = some (.pointer (some ⟨a, 0, none⟩)) ∧ V.cell? ⟨bb, 2, none⟩ = some (.slice so rs.length bc)) := fun V hV => by
    have b := (HBL.out.below hV).blk
    exact ⟨by rw [cell_of_row V _ _ _ _ _ b]; rfl, by rw [cell_of_row V _ _ _ _ _ b]; rfl⟩
  have XD : Hid (Below wl.heap.size wl wl.drew) := (Below.refl _ wl).drew
  refine wp_unt (S := fun V => V.cell? ⟨bb, 0, none⟩ = some (.pointer (some ⟨a, 0, none⟩)) ∧ V.cell? ⟨bb, 2, none⟩ = some (.slice so rs.length bc)) 13 (by kernel_rfl) ?_
  generalize wl.drew = wd at *
  have HS0 := hide (BCL.out wd XD.out)
  have BSC : Hid (Calls Try.prog 15 #[.pointer (some ⟨a, 0, none⟩), .slice so rs.length bc, .int .i64 8192] wd fun e w' => ∃ g, e = .returned (.tuple #[.slice (some ⟨g, 0, none⟩) S.length S.length, .int .i64 0]) ∧ RwZ w' g (bsO (cN S (rs.map fun f p => sayR N p f) 8192) (lows S.length) S.length) ∧ Below wd.heap.size wd w') := by
    obtain ⟨m, P, hc⟩ := (HBL.out.below XD.out).ca
    exact (bestAll_any so bc hc (HBL.out.below XD.out).rt HBL.out.has (by omega) (by decide) (by decide) HBL.out.sml).mono (fun e w' ⟨g, h1, h2, _, h3⟩ => ⟨g, h1, h2, h3⟩)
  refine UntH.take (i := 0) (some 223) rfl rfl (by kernel_rfl) (by kernel_rfl) (by kernel_rfl) (by kernel_rfl) (fun _ _ _ _ h => h) (by rfl) HS0.out ?_
  apply Exists.intro
  refine ⟨fun w' hw' => ?_, ?_⟩
  · obtain ⟨q0, q1⟩ := hw'
    go_simp
    first | done | rfl
  try simp only [Act.put, List.setIfInBounds_toArray, List.set_cons_zero, List.set_cons_succ]
  refine UntH.take (i := 1) (some 224) rfl rfl (by kernel_rfl) (by kernel_rfl) (by kernel_rfl) (by kernel_rfl) (fun _ _ _ _ h => h) (by rfl) HS0.out ?_
  apply Exists.intro
  refine ⟨fun w' hw' => ?_, ?_⟩
  · obtain ⟨q0, q1⟩ := hw'
    go_simp
    first | done | rfl
  try simp only [Act.put, List.setIfInBounds_toArray, List.set_cons_zero, List.set_cons_succ]
  refine UntH.take (i := 2) (some 225) rfl rfl (by kernel_rfl) (by kernel_rfl) (by kernel_rfl) (by kernel_rfl) (fun _ _ _ _ h => h) (by rfl) HS0.out ?_
  apply Exists.intro
  refine ⟨fun w' hw' => ?_, ?_⟩
  · obtain ⟨q0, q1⟩ := hw'
    go_simp
    first | done | rfl
  try simp only [Act.put, List.setIfInBounds_toArray, List.set_cons_zero, List.set_cons_succ]
  refine UntH.take (i := 3) (some 226) rfl rfl (by kernel_rfl) (by kernel_rfl) (by kernel_rfl) (by kernel_rfl) (fun _ _ _ _ h => h) (by rfl) HS0.out ?_
  apply Exists.intro
  refine ⟨fun w' hw' => ?_, ?_⟩
  · obtain ⟨q0, q1⟩ := hw'
    go_simp
    first | done | rfl
  try simp only [Act.put, List.setIfInBounds_toArray, List.set_cons_zero, List.set_cons_succ]
  refine UntH.take (i := 4) (some 227) rfl rfl (by kernel_rfl) (by kernel_rfl) (by kernel_rfl) (by kernel_rfl) (fun _ _ _ _ h => h) (by rfl) HS0.out ?_
  apply Exists.intro
  refine ⟨fun w' hw' => ?_, ?_⟩
  · obtain ⟨q0, q1⟩ := hw'
    go_simp
    first | done | rfl
  try simp only [Act.put, List.setIfInBounds_toArray, List.set_cons_zero, List.set_cons_succ]
  refine UntH.take (i := 5) (some 228) rfl rfl (by kernel_rfl) (by kernel_rfl) (by kernel_rfl) (by kernel_rfl) (fun _ _ _ _ h => h) (by rfl) HS0.out ?_
  apply Exists.intro
  refine ⟨fun w' hw' => ?_, ?_⟩
  · obtain ⟨q0, q1⟩ := hw'
    go_simp
    first | done | rfl
  try simp only [Act.put, List.setIfInBounds_toArray, List.set_cons_zero, List.set_cons_succ]
  refine UntH.take (i := 6) (some 229) rfl rfl (by kernel_rfl) (by kernel_rfl) (by kernel_rfl) (by kernel_rfl) (fun _ _ _ _ h => h) (by rfl) HS0.out ?_
  apply Exists.intro
  refine ⟨fun w' hw' => ?_, ?_⟩
  · obtain ⟨q0, q1⟩ := hw'
    go_simp
    first | done | rfl
  try simp only [Act.put, List.setIfInBounds_toArray, List.set_cons_zero, List.set_cons_succ]
  refine UntH.take (i := 7) (some 230) rfl rfl (by kernel_rfl) (by kernel_rfl) (by kernel_rfl) (by kernel_rfl) (fun _ _ _ _ h => h) (by rfl) HS0.out ?_
  apply Exists.intro
  refine ⟨fun w' hw' => ?_, ?_⟩
  · obtain ⟨q0, q1⟩ := hw'
    go_simp
    first | done | rfl
  try simp only [Act.put, List.setIfInBounds_toArray, List.set_cons_zero, List.set_cons_succ]
  refine UntH.step (i := 8) (by kernel_rfl) rfl (fun K hK => ?_)
  go_simp
  refine BSC.out.mono ?_
  rintro e wm ⟨bg, rfl, zb, xm⟩
  have ZB := hide zb
  have XM := hide (bt XD.out xm (Nat.le_refl _))
  have HS1 := hide (BCL.out wm XM.out)
  clear zb xm
  refine hK _ _ HS1.out ?_
  clear hK K
  try simp only [Act.put, List.setIfInBounds_toArray, List.set_cons_zero, List.set_cons_succ]
  refine UntH.take (i := 9) (some 222) rfl rfl (by kernel_rfl) (by kernel_rfl) (by kernel_rfl) (by kernel_rfl) (fun _ _ _ _ h => h) (by rfl) HS1.out ?_
  apply Exists.intro
  refine ⟨fun w' hw' => ?_, ?_⟩
  · obtain ⟨q0, q1⟩ := hw'
    go_simp
    first | done | rfl
  try simp only [Act.put, List.setIfInBounds_toArray, List.set_cons_zero, List.set_cons_succ]
  refine UntH.take (i := 10) (some 232) rfl rfl (by kernel_rfl) (by kernel_rfl) (by kernel_rfl) (by kernel_rfl) (fun _ _ _ _ h => h) (by rfl) HS1.out ?_
  apply Exists.intro
  refine ⟨fun w' hw' => ?_, ?_⟩
  · obtain ⟨q0, q1⟩ := hw'
    go_simp
    first | done | rfl
  try simp only [Act.put, List.setIfInBounds_toArray, List.set_cons_zero, List.set_cons_succ]
  refine UntH.take (i := 11) (some 233) rfl rfl (by kernel_rfl) (by kernel_rfl) (by kernel_rfl) (by kernel_rfl) (fun _ _ _ _ h => h) (by rfl) HS1.out ?_
  apply Exists.intro
  refine ⟨fun w' hw' => ?_, ?_⟩
  · obtain ⟨q0, q1⟩ := hw'
    go_simp
    first | done | rfl
  try simp only [Act.put, List.setIfInBounds_toArray, List.set_cons_zero, List.set_cons_succ]
  refine UntH.take (i := 12) (some 28) rfl rfl (by kernel_rfl) (by kernel_rfl) (by kernel_rfl) (by kernel_rfl) (fun _ _ _ _ h => h) (by rfl) HS1.out ?_
  apply Exists.intro
  refine ⟨fun w' hw' => ?_, ?_⟩
  · obtain ⟨q0, q1⟩ := hw'
    go_simp
    first | done | rfl
  try simp only [Act.put, List.setIfInBounds_toArray, List.set_cons_zero, List.set_cons_succ]
  refine UntH.last (by kernel_rfl) rfl (by kernel_rfl) (by kernel_rfl) (fun K hK => ?_)
  go_simp
  refine hK _ _ ?_
  clear hK K HS0 HS1 BSC XD
  have HBM := hide (HBL.out.below XM.out)
  have XMM := hide (bt XLL.out XM.out (Nat.le_refl _))
  clear HBL XM XLL BCL
  go_upto_region 42 with fail
  have BCM : Hid (∀ V, Below wm.heap.size wm V → V.cell? ⟨bb, 0, none⟩ = some (.pointer (some ⟨a, 0, none⟩)) ∧ V.cell? ⟨bb, 2, none⟩ = some (.slice so rs.length bc)) := fun V hV => by
    have b := (HBM.out.below hV).blk
    exact ⟨by rw [cell_of_row V _ _ _ _ _ b]; rfl, by rw [cell_of_row V _ _ _ _ _ b]; rfl⟩
  have XD : Hid (Below wm.heap.size wm wm.drew) := (Below.refl _ wm).drew
  refine wp_unt (S := fun V => V.cell? ⟨bb, 0, none⟩ = some (.pointer (some ⟨a, 0, none⟩)) ∧ V.cell? ⟨bb, 2, none⟩ = some (.slice so rs.length bc)) 18 (by kernel_rfl) ?_
  generalize wm.drew = wd at *
  have HS0 := hide (BCM.out wd XD.out)
  have PMU : Hid (Calls Try.prog 10 #[.slice none 0 0, .int .i64 (S.length : Int)] wd fun e w' => ∃ so co, e = .returned (.slice so S.length co) ∧ ZAt w' so (lows S.length) ∧ Below wd.heap.size wd w') := (permuted_any (w := wd) (raw := []) (n := S.length) none 0 (by omega) (.inl rfl) (fun _ h => (by cases h)) (by decide)).mono (fun e w' ⟨so, co, O, h1, h2, _, h3, h4⟩ => ⟨so, co, h1, by rw [← h3 rfl]; exact own_zat h2, h4⟩)
  refine UntH.take (i := 0) (some 235) rfl rfl (by kernel_rfl) (by kernel_rfl) (by kernel_rfl) (by kernel_rfl) (fun _ _ _ _ h => h) (by rfl) HS0.out ?_
  apply Exists.intro
  refine ⟨fun w' hw' => ?_, ?_⟩
  · obtain ⟨q0, q1⟩ := hw'
    go_simp
    first | done | rfl
  try simp only [Act.put, List.setIfInBounds_toArray, List.set_cons_zero, List.set_cons_succ]
  refine UntH.take (i := 1) (some 236) rfl rfl (by kernel_rfl) (by kernel_rfl) (by kernel_rfl) (by kernel_rfl) (fun _ _ _ _ h => h) (by rfl) HS0.out ?_
  apply Exists.intro
  refine ⟨fun w' hw' => ?_, ?_⟩
  · obtain ⟨q0, q1⟩ := hw'
    go_simp
    first | done | rfl
  try simp only [Act.put, List.setIfInBounds_toArray, List.set_cons_zero, List.set_cons_succ]
  refine UntH.take (i := 2) (some 237) rfl rfl (by kernel_rfl) (by kernel_rfl) (by kernel_rfl) (by kernel_rfl) (fun _ _ _ _ h => h) (by rfl) HS0.out ?_
  apply Exists.intro
  refine ⟨fun w' hw' => ?_, ?_⟩
  · obtain ⟨q0, q1⟩ := hw'
    go_simp
    first | done | rfl
  try simp only [Act.put, List.setIfInBounds_toArray, List.set_cons_zero, List.set_cons_succ]
  refine UntH.take (i := 3) (some 238) rfl rfl (by kernel_rfl) (by kernel_rfl) (by kernel_rfl) (by kernel_rfl) (fun _ _ _ _ h => h) (by rfl) HS0.out ?_
  apply Exists.intro
  refine ⟨fun w' hw' => ?_, ?_⟩
  · obtain ⟨q0, q1⟩ := hw'
    go_simp
    first | done | rfl
  try simp only [Act.put, List.setIfInBounds_toArray, List.set_cons_zero, List.set_cons_succ]
  refine UntH.take (i := 4) (some 239) rfl rfl (by kernel_rfl) (by kernel_rfl) (by kernel_rfl) (by kernel_rfl) (fun _ _ _ _ h => h) (by rfl) HS0.out ?_
  apply Exists.intro
  refine ⟨fun w' hw' => ?_, ?_⟩
  · obtain ⟨q0, q1⟩ := hw'
    go_simp
    first | done | rfl
  try simp only [Act.put, List.setIfInBounds_toArray, List.set_cons_zero, List.set_cons_succ]
  refine UntH.take (i := 5) (some 240) rfl rfl (by kernel_rfl) (by kernel_rfl) (by kernel_rfl) (by kernel_rfl) (fun _ _ _ _ h => h) (by rfl) HS0.out ?_
  apply Exists.intro
  refine ⟨fun w' hw' => ?_, ?_⟩
  · obtain ⟨q0, q1⟩ := hw'
    go_simp
    first | done | rfl
  try simp only [Act.put, List.setIfInBounds_toArray, List.set_cons_zero, List.set_cons_succ]
  refine UntH.take (i := 6) (some 241) rfl rfl (by kernel_rfl) (by kernel_rfl) (by kernel_rfl) (by kernel_rfl) (fun _ _ _ _ h => h) (by rfl) HS0.out ?_
  apply Exists.intro
  refine ⟨fun w' hw' => ?_, ?_⟩
  · obtain ⟨q0, q1⟩ := hw'
    go_simp
    first | done | rfl
  try simp only [Act.put, List.setIfInBounds_toArray, List.set_cons_zero, List.set_cons_succ]
  refine UntH.take (i := 7) (some 242) rfl rfl (by kernel_rfl) (by kernel_rfl) (by kernel_rfl) (by kernel_rfl) (fun _ _ _ _ h => h) (by rfl) HS0.out ?_
  apply Exists.intro
  refine ⟨fun w' hw' => ?_, ?_⟩
  · obtain ⟨q0, q1⟩ := hw'
    go_simp
    first | done | rfl
  try simp only [Act.put, List.setIfInBounds_toArray, List.set_cons_zero, List.set_cons_succ]
  refine UntH.take (i := 8) (some 243) rfl rfl (by kernel_rfl) (by kernel_rfl) (by kernel_rfl) (by kernel_rfl) (fun _ _ _ _ h => h) (by rfl) HS0.out ?_
  apply Exists.intro
  refine ⟨fun w' hw' => ?_, ?_⟩
  · obtain ⟨q0, q1⟩ := hw'
    go_simp
    first | done | rfl
  try simp only [Act.put, List.setIfInBounds_toArray, List.set_cons_zero, List.set_cons_succ]
  refine UntH.take (i := 9) (some 244) rfl rfl (by kernel_rfl) (by kernel_rfl) (by kernel_rfl) (by kernel_rfl) (fun _ _ _ _ h => h) (by rfl) HS0.out ?_
  apply Exists.intro
  refine ⟨fun w' hw' => ?_, ?_⟩
  · obtain ⟨q0, q1⟩ := hw'
    go_simp
    first | done | rfl
  try simp only [Act.put, List.setIfInBounds_toArray, List.set_cons_zero, List.set_cons_succ]
  refine UntH.step (i := 10) (by kernel_rfl) rfl (fun K hK => ?_)
  go_simp
  refine PMU.out.mono ?_
  rintro e wn ⟨po2, pc2, rfl, zp, xn⟩
  have ZP := hide zp
  have XN := hide (bt XD.out xn (Nat.le_refl _))
  have HS1 := hide (BCM.out wn XN.out)
  clear zp xn
  refine hK _ _ HS1.out ?_
  clear hK K
  try simp only [Act.put, List.setIfInBounds_toArray, List.set_cons_zero, List.set_cons_succ]
  refine UntH.step (i := 11) (by kernel_rfl) rfl (fun K hK => ?_)
  go_simp
  refine ((HBM.out.below XN.out).low HG.out po2 pc2 ZP.out).mono ?_
  rintro e wp ⟨pa, pg, pgc, pm, PP, rfl, -, cp, xp⟩
  have CP := hide cp
  have XP := hide (bt XN.out xp (Nat.le_refl _))
  have HS2 := hide (BCM.out wp XP.out)
  clear cp xp
  refine hK _ _ HS2.out ?_
  clear hK K
  try simp only [Act.put, List.setIfInBounds_toArray, List.set_cons_zero, List.set_cons_succ]
  refine UntH.take (i := 12) (some 234) rfl rfl (by kernel_rfl) (by kernel_rfl) (by kernel_rfl) (by kernel_rfl) (fun _ _ _ _ h => h) (by rfl) HS2.out ?_
  apply Exists.intro
  refine ⟨fun w' hw' => ?_, ?_⟩
  · obtain ⟨q0, q1⟩ := hw'
    go_simp
    first | done | rfl
  try simp only [Act.put, List.setIfInBounds_toArray, List.set_cons_zero, List.set_cons_succ]
  refine UntH.take (i := 13) (some 247) rfl rfl (by kernel_rfl) (by kernel_rfl) (by kernel_rfl) (by kernel_rfl) (fun _ _ _ _ h => h) (by rfl) HS2.out ?_
  apply Exists.intro
  refine ⟨fun w' hw' => ?_, ?_⟩
  · obtain ⟨q0, q1⟩ := hw'
    go_simp
    first | done | rfl
  try simp only [Act.put, List.setIfInBounds_toArray, List.set_cons_zero, List.set_cons_succ]
  refine UntH.take (i := 14) (some 248) rfl rfl (by kernel_rfl) (by kernel_rfl) (by kernel_rfl) (by kernel_rfl) (fun _ _ _ _ h => h) (by rfl) HS2.out ?_
  apply Exists.intro
  refine ⟨fun w' hw' => ?_, ?_⟩
  · obtain ⟨q0, q1⟩ := hw'
    go_simp
    first | done | rfl
  try simp only [Act.put, List.setIfInBounds_toArray, List.set_cons_zero, List.set_cons_succ]
  refine UntH.take (i := 15) (some 249) rfl rfl (by kernel_rfl) (by kernel_rfl) (by kernel_rfl) (by kernel_rfl) (fun _ _ _ _ h => h) (by rfl) HS2.out ?_
  apply Exists.intro
  refine ⟨fun w' hw' => ?_, ?_⟩
  · obtain ⟨q0, q1⟩ := hw'
    go_simp
    first | done | rfl
  try simp only [Act.put, List.setIfInBounds_toArray, List.set_cons_zero, List.set_cons_succ]
  refine UntH.take (i := 16) (some 30) rfl rfl (by kernel_rfl) (by kernel_rfl) (by kernel_rfl) (by kernel_rfl) (fun _ _ _ _ h => h) (by rfl) HS2.out ?_
  apply Exists.intro
  refine ⟨fun w' hw' => ?_, ?_⟩
  · obtain ⟨q0, q1⟩ := hw'
    go_simp
    first | done | rfl
  try simp only [Act.put, List.setIfInBounds_toArray, List.set_cons_zero, List.set_cons_succ]
  refine UntH.take (i := 17) (some 31) rfl rfl (by kernel_rfl) (by kernel_rfl) (by kernel_rfl) (by kernel_rfl) (fun _ _ _ _ h => h) (by rfl) HS2.out ?_
  apply Exists.intro
  refine ⟨fun w' hw' => ?_, ?_⟩
  · obtain ⟨q0, q1⟩ := hw'
    go_simp
    first | done | rfl
  try simp only [Act.put, List.setIfInBounds_toArray, List.set_cons_zero, List.set_cons_succ]
  refine UntH.last (by kernel_rfl) rfl (by kernel_rfl) (by kernel_rfl) (fun K hK => ?_)
  go_simp
  refine hK _ _ ?_
  clear hK K HS0 HS1 HS2 PMU XD ZP XN
  have HBP := hide (HBM.out.below XP.out)
  have ZBP := hide (ZB.out.below XP.out)
  have XPP := hide (bt XMM.out XP.out (Nat.le_refl _))
  clear HBM XP XMM BCM ZB
  go_upto_region 43 with fail
  have BCP : Hid (∀ V, Below wp.heap.size wp V → V.cell? ⟨bb, 0, none⟩ = some (.pointer (some ⟨a, 0, none⟩)) ∧ V.cell? ⟨bb, 2, none⟩ = some (.slice so rs.length bc)) := fun V hV => by
    have b := (HBP.out.below hV).blk
    exact ⟨by rw [cell_of_row V _ _ _ _ _ b]; rfl, by rw [cell_of_row V _ _ _ _ _ b]; rfl⟩
  have XD : Hid (Below wp.heap.size wp wp.drew) := (Below.refl _ wp).drew
  refine wp_unt (S := fun V => V.cell? ⟨bb, 0, none⟩ = some (.pointer (some ⟨a, 0, none⟩)) ∧ V.cell? ⟨bb, 2, none⟩ = some (.slice so rs.length bc)) 16 (by kernel_rfl) ?_
  generalize wp.drew = wd at *
  have HS0 := hide (BCP.out wd XD.out)
  have ROOM : Hid ((foldF S 8192 (rs.map fun f p => sayR N p f) (bsO (cN S (rs.map fun f p => sayR N p f) 8192) (lows S.length) S.length)).2.1 = 0 ∧ (foldF S 8192 (rs.map fun f p => sayR N p f) (bsO (cN S (rs.map fun f p => sayR N p f) 8192) (lows S.length) S.length)).2.2.length ≤ (foldF S 8192 (rs.map fun f p => sayR N p f) (lows S.length)).2.2.length) := best_room HSO.out.sz HG.out (by decide) (by decide) (low_room HSO.out HBP.out.has HG.out (by decide) (by decide))
  have REB : Hid (Calls Try.prog 12 #[.pointer (some ⟨a, 0, none⟩), .slice so rs.length bc, .slice (some ⟨bg, 0, none⟩) S.length S.length, .int .i64 8192] wd fun e w' => ∃ d dg dgc PD, e = .returned (.tuple #[.pointer (some ⟨d, 0, none⟩), .slice (some ⟨dg, 0, none⟩) rs.length dgc, .int .i64 0]) ∧ CA w' d (ledS S (bsO (cN S (rs.map fun f p => sayR N p f) 8192) (lows S.length) S.length)) 8192 (foldF S 8192 (rs.map fun f p => sayR N p f) (bsO (cN S (rs.map fun f p => sayR N p f) 8192) (lows S.length) S.length)).2.2 (foldF S 8192 (rs.map fun f p => sayR N p f) (bsO (cN S (rs.map fun f p => sayR N p f) 8192) (lows S.length) S.length)).2.2.length PD ∧ Below wd.heap.size wd w') := by
    have hbo : IsOrd S (bsO (cN S (rs.map fun f p => sayR N p f) 8192) (lows S.length) S.length) := best_ord
    have := (HBP.out.below XD.out).reb hbo (some ⟨bg, 0, none⟩) S.length (ZBP.out.below XD.out).zbk.at
    rw [hbo.len] at this
    refine this.mono (fun e w' hh => ?_)
    obtain ⟨vp, vl, er, rfl, hx, _, hor⟩ := hh.one
    rcases hor with ⟨rfl, _, d, dg, dgc, PD, rfl, rfl, _, h4⟩ | ⟨_, h5⟩
    · exact ⟨d, dg, dgc, PD, rfl, h4, hx⟩
    · exact absurd ROOM.out.1 h5
  generalize bsO (cN S (rs.map fun f p => sayR N p f) 8192) (lows S.length) S.length = bo at *
  refine UntH.take (i := 0) (some 251) rfl rfl (by kernel_rfl) (by kernel_rfl) (by kernel_rfl) (by kernel_rfl) (fun _ _ _ _ h => h) (by rfl) HS0.out ?_
  apply Exists.intro
  refine ⟨fun w' hw' => ?_, ?_⟩
  · obtain ⟨q0, q1⟩ := hw'
    go_simp
    first | done | rfl
  try simp only [Act.put, List.setIfInBounds_toArray, List.set_cons_zero, List.set_cons_succ]
  refine UntH.take (i := 1) (some 252) rfl rfl (by kernel_rfl) (by kernel_rfl) (by kernel_rfl) (by kernel_rfl) (fun _ _ _ _ h => h) (by rfl) HS0.out ?_
  apply Exists.intro
  refine ⟨fun w' hw' => ?_, ?_⟩
  · obtain ⟨q0, q1⟩ := hw'
    go_simp
    first | done | rfl
  try simp only [Act.put, List.setIfInBounds_toArray, List.set_cons_zero, List.set_cons_succ]
  refine UntH.take (i := 2) (some 253) rfl rfl (by kernel_rfl) (by kernel_rfl) (by kernel_rfl) (by kernel_rfl) (fun _ _ _ _ h => h) (by rfl) HS0.out ?_
  apply Exists.intro
  refine ⟨fun w' hw' => ?_, ?_⟩
  · obtain ⟨q0, q1⟩ := hw'
    go_simp
    first | done | rfl
  try simp only [Act.put, List.setIfInBounds_toArray, List.set_cons_zero, List.set_cons_succ]
  refine UntH.take (i := 3) (some 254) rfl rfl (by kernel_rfl) (by kernel_rfl) (by kernel_rfl) (by kernel_rfl) (fun _ _ _ _ h => h) (by rfl) HS0.out ?_
  apply Exists.intro
  refine ⟨fun w' hw' => ?_, ?_⟩
  · obtain ⟨q0, q1⟩ := hw'
    go_simp
    first | done | rfl
  try simp only [Act.put, List.setIfInBounds_toArray, List.set_cons_zero, List.set_cons_succ]
  refine UntH.take (i := 4) (some 255) rfl rfl (by kernel_rfl) (by kernel_rfl) (by kernel_rfl) (by kernel_rfl) (fun _ _ _ _ h => h) (by rfl) HS0.out ?_
  apply Exists.intro
  refine ⟨fun w' hw' => ?_, ?_⟩
  · obtain ⟨q0, q1⟩ := hw'
    go_simp
    first | done | rfl
  try simp only [Act.put, List.setIfInBounds_toArray, List.set_cons_zero, List.set_cons_succ]
  refine UntH.take (i := 5) (some 256) rfl rfl (by kernel_rfl) (by kernel_rfl) (by kernel_rfl) (by kernel_rfl) (fun _ _ _ _ h => h) (by rfl) HS0.out ?_
  apply Exists.intro
  refine ⟨fun w' hw' => ?_, ?_⟩
  · obtain ⟨q0, q1⟩ := hw'
    go_simp
    first | done | rfl
  try simp only [Act.put, List.setIfInBounds_toArray, List.set_cons_zero, List.set_cons_succ]
  refine UntH.take (i := 6) (some 257) rfl rfl (by kernel_rfl) (by kernel_rfl) (by kernel_rfl) (by kernel_rfl) (fun _ _ _ _ h => h) (by rfl) HS0.out ?_
  apply Exists.intro
  refine ⟨fun w' hw' => ?_, ?_⟩
  · obtain ⟨q0, q1⟩ := hw'
    go_simp
    first | done | rfl
  try simp only [Act.put, List.setIfInBounds_toArray, List.set_cons_zero, List.set_cons_succ]
  refine UntH.take (i := 7) (some 258) rfl rfl (by kernel_rfl) (by kernel_rfl) (by kernel_rfl) (by kernel_rfl) (fun _ _ _ _ h => h) (by rfl) HS0.out ?_
  apply Exists.intro
  refine ⟨fun w' hw' => ?_, ?_⟩
  · obtain ⟨q0, q1⟩ := hw'
    go_simp
    first | done | rfl
  try simp only [Act.put, List.setIfInBounds_toArray, List.set_cons_zero, List.set_cons_succ]
  refine UntH.take (i := 8) (some 259) rfl rfl (by kernel_rfl) (by kernel_rfl) (by kernel_rfl) (by kernel_rfl) (fun _ _ _ _ h => h) (by rfl) HS0.out ?_
  apply Exists.intro
  refine ⟨fun w' hw' => ?_, ?_⟩
  · obtain ⟨q0, q1⟩ := hw'
    go_simp
    first | done | rfl
  try simp only [Act.put, List.setIfInBounds_toArray, List.set_cons_zero, List.set_cons_succ]
  refine UntH.step (i := 9) (by kernel_rfl) rfl (fun K hK => ?_)
  go_simp
  refine REB.out.mono ?_
  rintro e wq ⟨da, dg, dgc, PD, rfl, cd, xq⟩
  have CD := hide cd
  have XQ := hide (bt XD.out xq (Nat.le_refl _))
  have HS1 := hide (BCP.out wq XQ.out)
  clear cd xq
  refine hK _ _ HS1.out ?_
  clear hK K
  try simp only [Act.put, List.setIfInBounds_toArray, List.set_cons_zero, List.set_cons_succ]
  refine UntH.take (i := 10) (some 250) rfl rfl (by kernel_rfl) (by kernel_rfl) (by kernel_rfl) (by kernel_rfl) (fun _ _ _ _ h => h) (by rfl) HS1.out ?_
  apply Exists.intro
  refine ⟨fun w' hw' => ?_, ?_⟩
  · obtain ⟨q0, q1⟩ := hw'
    go_simp
    first | done | rfl
  try simp only [Act.put, List.setIfInBounds_toArray, List.set_cons_zero, List.set_cons_succ]
  refine UntH.take (i := 11) (some 261) rfl rfl (by kernel_rfl) (by kernel_rfl) (by kernel_rfl) (by kernel_rfl) (fun _ _ _ _ h => h) (by rfl) HS1.out ?_
  apply Exists.intro
  refine ⟨fun w' hw' => ?_, ?_⟩
  · obtain ⟨q0, q1⟩ := hw'
    go_simp
    first | done | rfl
  try simp only [Act.put, List.setIfInBounds_toArray, List.set_cons_zero, List.set_cons_succ]
  refine UntH.take (i := 12) (some 262) rfl rfl (by kernel_rfl) (by kernel_rfl) (by kernel_rfl) (by kernel_rfl) (fun _ _ _ _ h => h) (by rfl) HS1.out ?_
  apply Exists.intro
  refine ⟨fun w' hw' => ?_, ?_⟩
  · obtain ⟨q0, q1⟩ := hw'
    go_simp
    first | done | rfl
  try simp only [Act.put, List.setIfInBounds_toArray, List.set_cons_zero, List.set_cons_succ]
  refine UntH.take (i := 13) (some 263) rfl rfl (by kernel_rfl) (by kernel_rfl) (by kernel_rfl) (by kernel_rfl) (fun _ _ _ _ h => h) (by rfl) HS1.out ?_
  apply Exists.intro
  refine ⟨fun w' hw' => ?_, ?_⟩
  · obtain ⟨q0, q1⟩ := hw'
    go_simp
    first | done | rfl
  try simp only [Act.put, List.setIfInBounds_toArray, List.set_cons_zero, List.set_cons_succ]
  refine UntH.take (i := 14) (some 33) rfl rfl (by kernel_rfl) (by kernel_rfl) (by kernel_rfl) (by kernel_rfl) (fun _ _ _ _ h => h) (by rfl) HS1.out ?_
  apply Exists.intro
  refine ⟨fun w' hw' => ?_, ?_⟩
  · obtain ⟨q0, q1⟩ := hw'
    go_simp
    first | done | rfl
  try simp only [Act.put, List.setIfInBounds_toArray, List.set_cons_zero, List.set_cons_succ]
  refine UntH.take (i := 15) (some 34) rfl rfl (by kernel_rfl) (by kernel_rfl) (by kernel_rfl) (by kernel_rfl) (fun _ _ _ _ h => h) (by rfl) HS1.out ?_
  apply Exists.intro
  refine ⟨fun w' hw' => ?_, ?_⟩
  · obtain ⟨q0, q1⟩ := hw'
    go_simp
    first | done | rfl
  try simp only [Act.put, List.setIfInBounds_toArray, List.set_cons_zero, List.set_cons_succ]
  refine UntH.last (by kernel_rfl) rfl (by kernel_rfl) (by kernel_rfl) (fun K hK => ?_)
  go_simp
  refine hK _ _ ?_
  clear hK K HS0 HS1 REB XD ZBP
  have LD := hide CD.out.len
  have LP := hide (CP.out.below XQ.out).len
  have FIN := hide (bt X1.out (bt XPP.out XQ.out (Nat.le_refl _)) (Nat.le_refl _))
  obtain ⟨n1, hn1⟩ : ∃ n1, (foldF S 8192 (rs.map fun f p => sayR N p f) bo).2.2.length = n1 := ⟨_, rfl⟩
  obtain ⟨n2, hn2⟩ : ∃ n2, (foldF S 8192 (rs.map fun f p => sayR N p f) (lows S.length)).2.2.length = n2 := ⟨_, rfl⟩
  have hle := ROOM.out.2
  rw [hn1] at LD hle
  rw [hn2] at LP hle
  have hle' : (n1 : Int) ≤ (n2 : Int) := by omega
  clear hn1 hn2 ROOM CD CP BCP HBP XPP XQ
  go_wp2_with (first
    | (go_at_call 20; refine LD.out.mono ?_; clear LD; rintro e w12 ⟨rfl, h⟩; rw [h]; clear h)
    | (go_at_call 20; refine LP.out.mono ?_; clear LP; rintro e w13 ⟨rfl, h⟩; rw [h]; clear h))
  go_ret
  exact ⟨rfl, FIN.out⟩
end
end Go.Proofs.Ytnddhkhmbjeefaa
