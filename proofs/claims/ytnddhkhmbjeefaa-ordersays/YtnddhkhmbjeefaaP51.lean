/-
  led by its contract. Conditions: as Rebuild's.
-/
import Derived.Test.YtnddhkhmbjeefaaP49
import Derived.Test.YtnddhkhmbjeefaaP40
namespace Go.Proofs.Ytnddhkhmbjeefaa
open Go.RowKit Go.Lib Go.Maps

section
variable {w : World} {bb a : Nat} {xv : Value} {ro : Option Addr} {rc : Nat} {S : List Int} {M : Int} {N : List Nd} {rs o : List Int} {R : List Int} {L0 : List Lay} {c mc : Nat} {PC : Nat → Prop}
set_option maxRecDepth 100000 in
set_option maxHeartbeats 8000000 in
theorem led_any (h : BoX w bb a xv ro rc S M N rs) (ho : IsOrd S o) (G : GD S (rs.map fun f p => sayR N p f) R L0) (he : (foldF S 8192 (rs.map fun f p => sayR N p f) o).2.1 = 0) (hc : CA w c (ledS S o) 8192 (foldF S 8192 (rs.map fun f p => sayR N p f) o).2.2 mc PC) (lo po : Option Addr) (lc pc : Nat) (hl : ZAt w lo (foldF S 8192 (rs.map fun f p => sayR N p f) o).1) (hp : ZAt w po o) :
    Calls Try.prog 19 #[.pointer (some ⟨bb, 0, none⟩), .pointer (some ⟨c, 0, none⟩), .slice lo rs.length lc, .slice po o.length pc] w fun e w' => e = .returned (.bool true) ∧ Below w.heap.size w w' := by
  have HOL : Hid (o.length = S.length) := ho.len
  have h7 : o.length ≤ 7 := by have := h.ls; have := ho.len; omega
  have h20 : rs.length ≤ 20 := h.few
  have hmk := make_ints o.length (o.length : Int) rfl (by omega)
  have X1 : Hid (Below w.heap.size w (w.alloc (.cells (zC (List.replicate o.length 0)).toArray 3))) := al (Below.refl _ _) _
  have Z1 := hide (RwZ.made w (List.replicate o.length 0))
  have HB := hide h
  have HO := hide ho
  have HG := hide G
  have HP := hide hp
  have TRN : Hid (∀ (V : World), Below w.heap.size w V → ∀ (kb : Nat) (b : List Int), BackO o b → RwZ V kb b → Calls Try.prog 12 #[.pointer (some ⟨c, 0, none⟩), .slice lo rs.length lc, .slice (some ⟨kb, 0, none⟩) o.length o.length, .int .i64 8192] V fun e w' => ∃ d g cc m' P', e = .returned (.tuple #[.pointer (some ⟨d, 0, none⟩), .slice (some ⟨g, 0, none⟩) rs.length cc, .int .i64 0]) ∧ RwZ w' g (foldF S 8192 (rs.map fun f p => sayR N p f) (lows S.length)).1 ∧ CA w' d S 8192 (foldF S 8192 (rs.map fun f p => sayR N p f) (lows S.length)).2.2 m' P' ∧ Below V.heap.size V w') := fun V hV kb b hb hk => by
    have := (h.below hV).turn ho hb G he (hc.below hV) lo (some ⟨kb, 0, none⟩) lc o.length (hl.below hV) hk.zbk.at
    rw [hb.len] at this
    exact this
  have YL : Hid ((foldF S 8192 (rs.map fun f p => sayR N p f) (lows S.length)).1.length = rs.length ∧ (foldF S 8192 (rs.map fun f p => sayR N p f) (lows S.length)).2.2.length ≤ 8192) := by
    have e2 := low_room h.ok h.has G (M2 := 8192) (by have := h.m8; omega) (by decide)
    obtain ⟨L', G', e'⟩ := order_ex h.ok.sz (lows_ord S) G
    have oo := fold_out h.ok.sz G' (M := 8192) (by decide) (by decide)
    rw [e'] at oo
    obtain ⟨_, k1, _⟩ := oo.res.resolve_right (fun hh => by have := hh.1; omega)
    rw [List.length_map, List.length_map] at k1
    have := oo.ok.few
    exact ⟨k1, by omega⟩
  clear h ho hc hl hp he G
  generalize hy : foldF S 8192 (rs.map fun f p => sayR N p f) (lows S.length) = y at *
  have HYY := hide hy
  clear hy
  go_enter Try.func19, Try.ntmps19
  go_wp2
  clear hmk
  generalize w.alloc (.cells (zC (List.replicate o.length 0)).toArray 3) = w1 at *
  obtain ⟨kb, hkb⟩ : ∃ kb, w.heap.size = kb := ⟨_, rfl⟩
  have HKB := hide hkb
  rw [hkb] at Z1 ⊢
  clear hkb
  go_loopw [10] (fun v10 wr => ∃ k : Nat, k ≤ o.length ∧ v10 = .int .i64 (k : Int) ∧ ∃ L, Hid (BkP o k L) ∧ Hid (RwZ wr kb L) ∧ Hid (Below w.heap.size w wr)) (fun v _ => o.length - (RowKit.intOf v).toNat)
  case atStart => exact ⟨0, Nat.zero_le _, rfl, _, BkP.start, Z1, X1⟩
  case round =>
    obtain ⟨k, hk, rfl, L, BP, ZL, BL⟩ := hrel
    clear Z1 X1
    by_cases hlk : k < o.length
    · have hlk' : (k : Int) < (o.length : Int) := by omega
      obtain ⟨zb, zo, hao, hzb, q1⟩ := (HP.out.below BL.out).get hlk
      subst hao
      rw [show o.getD k 0 = o[k] by rw [List.getD_eq_getElem?_getD, List.getElem?_eq_getElem hlk]; rfl] at q1
      have hr := HO.out.rng _ (List.getElem_mem hlk)
      obtain ⟨v, hv⟩ : ∃ v : Nat, o[k] = (v : Int) := ⟨(o[k]).toNat, by omega⟩
      have BS := hide (BP.out.step HO.out hlk)
      rw [hv, Int.toNat_natCast] at BS
      rw [hv] at q1 hr
      have hvl : v < L.length := by rw [BP.out.len]; have := HOL.out; omega
      have hvn : (v : Int) < (o.length : Int) := by have := HOL.out; omega
      have q2 := ZL.out.cell hvl
      have f2 := ZL.out.fro v
      have Z3 := hide (ZL.out.set v (k : Int))
      have BB : Hid (Below w.heap.size w (wr.setCell ⟨kb, v, none⟩ (.int .i64 (k : Int)))) := BL.out.trans ((Kept.refl (fun z => z = kb) wr).setCell (p := ⟨kb, v, none⟩) rfl _ |>.below BL.out.size (fun z hz => by rw [hz, ← HKB.out]; exact Nat.le_refl _))
      clear hv hr hvl
      go_wp2
      go_roundw
      case rel => exact ⟨k + 1, by omega, by go_num, _, BS, Z3, BB⟩
      case measure => simp [RowKit.intOf]; omega
    · have hlk' : ¬ (k : Int) < (o.length : Int) := by omega
      obtain rfl : o.length = k := by omega
      have BO := hide BP.out.done
      have T6 := hide (TRN.out wr BL.out kb L BO.out ZL.out)
      go_upto_region 7 with (go_at_call 12; refine T6.out.mono ?_; rintro e w6 ⟨da, dg, dc, dm, DP, rfl, zd, cd, x6⟩; have ZD := hide zd; have CD := hide cd; have X6 := hide (bt BL.out x6 (Nat.le_refl _)); clear zd cd x6)
      have B6 := hide (HB.out.below X6.out)
      clear T6 TRN HB
      go_upto_region 7 with fail
      have XD : Hid (Below w6.heap.size w6 w6.drew) := (Below.refl _ w6).drew
      refine wp_unt (S := fun V => V.cell? ⟨bb, 0, none⟩ = some (.pointer (some ⟨a, 0, none⟩)) ∧ V.cell? ⟨bb, 2, none⟩ = some (.slice ro rs.length rc)) 18 (by kernel_rfl) ?_
      generalize w6.drew = wd at *
      have BC : Hid (∀ W, Below w6.heap.size w6 W → W.cell? ⟨bb, 0, none⟩ = some (.pointer (some ⟨a, 0, none⟩)) ∧ W.cell? ⟨bb, 2, none⟩ = some (.slice ro rs.length rc)) := fun W hW => by
        have b := (B6.out.below hW).blk
        exact ⟨by rw [cell_of_row W _ _ _ _ _ b]; rfl, by rw [cell_of_row W _ _ _ _ _ b]; rfl⟩
      have HS0 := hide (BC.out wd XD.out)
      have PMU := hide (permuted_any (w := wd) (raw := []) (n := o.length) none 0 (by omega) (.inl rfl) (fun _ h => (by cases h)) (by decide))
      refine UntH.take (i := 0) (some 49) rfl rfl (by kernel_rfl) (by kernel_rfl) (by kernel_rfl) (by kernel_rfl) (fun _ _ _ _ h => h) (by rfl) HS0.out ?_
      apply Exists.intro
      refine ⟨fun w' hw' => ?_, ?_⟩
      · obtain ⟨q0, q1⟩ := hw'
        go_simp
        first | done | rfl
      try simp only [Act.put, List.setIfInBounds_toArray, List.set_cons_zero, List.set_cons_succ]
      refine UntH.take (i := 1) (some 50) rfl rfl (by kernel_rfl) (by kernel_rfl) (by kernel_rfl) (by kernel_rfl) (fun _ _ _ _ h => h) (by rfl) HS0.out ?_
      apply Exists.intro
      refine ⟨fun w' hw' => ?_, ?_⟩
      · obtain ⟨q0, q1⟩ := hw'
        go_simp
        first | done | rfl
      try simp only [Act.put, List.setIfInBounds_toArray, List.set_cons_zero, List.set_cons_succ]
      refine UntH.take (i := 2) (some 51) rfl rfl (by kernel_rfl) (by kernel_rfl) (by kernel_rfl) (by kernel_rfl) (fun _ _ _ _ h => h) (by rfl) HS0.out ?_
      apply Exists.intro
      refine ⟨fun w' hw' => ?_, ?_⟩
      · obtain ⟨q0, q1⟩ := hw'
        go_simp
        first | done | rfl
      try simp only [Act.put, List.setIfInBounds_toArray, List.set_cons_zero, List.set_cons_succ]
      refine UntH.take (i := 3) (some 52) rfl rfl (by kernel_rfl) (by kernel_rfl) (by kernel_rfl) (by kernel_rfl) (fun _ _ _ _ h => h) (by rfl) HS0.out ?_
      apply Exists.intro
      refine ⟨fun w' hw' => ?_, ?_⟩
      · obtain ⟨q0, q1⟩ := hw'
        go_simp
        first | done | rfl
      try simp only [Act.put, List.setIfInBounds_toArray, List.set_cons_zero, List.set_cons_succ]
      refine UntH.take (i := 4) (some 53) rfl rfl (by kernel_rfl) (by kernel_rfl) (by kernel_rfl) (by kernel_rfl) (fun _ _ _ _ h => h) (by rfl) HS0.out ?_
      apply Exists.intro
      refine ⟨fun w' hw' => ?_, ?_⟩
      · obtain ⟨q0, q1⟩ := hw'
        go_simp
        first | done | rfl
      try simp only [Act.put, List.setIfInBounds_toArray, List.set_cons_zero, List.set_cons_succ]
      refine UntH.take (i := 5) (some 54) rfl rfl (by kernel_rfl) (by kernel_rfl) (by kernel_rfl) (by kernel_rfl) (fun _ _ _ _ h => h) (by rfl) HS0.out ?_
      apply Exists.intro
      refine ⟨fun w' hw' => ?_, ?_⟩
      · obtain ⟨q0, q1⟩ := hw'
        go_simp
        first | done | rfl
      try simp only [Act.put, List.setIfInBounds_toArray, List.set_cons_zero, List.set_cons_succ]
      refine UntH.take (i := 6) (some 55) rfl rfl (by kernel_rfl) (by kernel_rfl) (by kernel_rfl) (by kernel_rfl) (fun _ _ _ _ h => h) (by rfl) HS0.out ?_
      apply Exists.intro
      refine ⟨fun w' hw' => ?_, ?_⟩
      · obtain ⟨q0, q1⟩ := hw'
        go_simp
        first | done | rfl
      try simp only [Act.put, List.setIfInBounds_toArray, List.set_cons_zero, List.set_cons_succ]
      refine UntH.take (i := 7) (some 56) rfl rfl (by kernel_rfl) (by kernel_rfl) (by kernel_rfl) (by kernel_rfl) (fun _ _ _ _ h => h) (by rfl) HS0.out ?_
      apply Exists.intro
      refine ⟨fun w' hw' => ?_, ?_⟩
      · obtain ⟨q0, q1⟩ := hw'
        go_simp
        first | done | rfl
      try simp only [Act.put, List.setIfInBounds_toArray, List.set_cons_zero, List.set_cons_succ]
      refine UntH.take (i := 8) (some 57) rfl rfl (by kernel_rfl) (by kernel_rfl) (by kernel_rfl) (by kernel_rfl) (fun _ _ _ _ h => h) (by rfl) HS0.out ?_
      apply Exists.intro
      refine ⟨fun w' hw' => ?_, ?_⟩
      · obtain ⟨q0, q1⟩ := hw'
        go_simp
        first | done | rfl
      try simp only [Act.put, List.setIfInBounds_toArray, List.set_cons_zero, List.set_cons_succ]
      refine UntH.take (i := 9) (some 58) rfl rfl (by kernel_rfl) (by kernel_rfl) (by kernel_rfl) (by kernel_rfl) (fun _ _ _ _ h => h) (by rfl) HS0.out ?_
      apply Exists.intro
      refine ⟨fun w' hw' => ?_, ?_⟩
      · obtain ⟨q0, q1⟩ := hw'
        go_simp
        first | done | rfl
      try simp only [Act.put, List.setIfInBounds_toArray, List.set_cons_zero, List.set_cons_succ]
      refine UntH.step (i := 10) (by kernel_rfl) rfl (fun K hK => ?_)
      go_simp
      refine PMU.out.mono ?_
      rintro e w7 ⟨so, co, O, rfl, own7, _, hid7, x7⟩
      have X7 := hide (bt XD.out x7 (Nat.le_refl _))
      have ZL : Hid (ZAt w7 so (lows S.length)) := by
        have e1 := hid7 rfl
        rw [HOL.out] at e1 own7
        rw [e1] at own7
        rcases own7.2 with ⟨e2, h2⟩ | ⟨g, cap, cur, e2, _, hg, _⟩
        · refine .inl ?_
          rw [h2]
          rfl
        · injection e2 with e3 e4 e5
          subst e3
          refine .inr ⟨g, 0, rfl, lt_of_block hg, fun i hi => ?_⟩
          rw [lows_len] at hi
          rw [Nat.zero_add, World.ownsRow.cellAt own7 i (by omega), zC_get (lows S.length) (by rw [lows_len]; exact hi)]
      have HS1 := hide (BC.out _ X7.out)
      have LOW := hide ((B6.out.below X7.out).low HG.out so co ZL.out)
      rw [← HOL.out] at LOW
      refine hK _ _ HS1.out ?_
      clear hK K own7 hid7 x7
      try simp only [Act.put, List.setIfInBounds_toArray, List.set_cons_zero, List.set_cons_succ]
      refine UntH.step (i := 11) (by kernel_rfl) rfl (fun K hK => ?_)
      go_simp
      refine LOW.out.mono ?_
      rintro e w8 ⟨fa, fg, fc, fm, FP, rfl, zf, cf, x8⟩
      have X8 := hide (bt X7.out x8 (Nat.le_refl _))
      have ZF := hide zf
      have CF := hide cf
      have HS2 := hide (BC.out _ X8.out)
      refine hK _ _ HS2.out ?_
      clear hK K zf cf x8
      try simp only [Act.put, List.setIfInBounds_toArray, List.set_cons_zero, List.set_cons_succ]
      refine UntH.take (i := 12) (some 48) rfl rfl (by kernel_rfl) (by kernel_rfl) (by kernel_rfl) (by kernel_rfl) (fun _ _ _ _ h => h) (by rfl) HS2.out ?_
      apply Exists.intro
      refine ⟨fun w' hw' => ?_, ?_⟩
      · obtain ⟨q0, q1⟩ := hw'
        go_simp
        first | done | rfl
      try simp only [Act.put, List.setIfInBounds_toArray, List.set_cons_zero, List.set_cons_succ]
      refine UntH.take (i := 13) (some 61) rfl rfl (by kernel_rfl) (by kernel_rfl) (by kernel_rfl) (by kernel_rfl) (fun _ _ _ _ h => h) (by rfl) HS2.out ?_
      apply Exists.intro
      refine ⟨fun w' hw' => ?_, ?_⟩
      · obtain ⟨q0, q1⟩ := hw'
        go_simp
        first | done | rfl
      try simp only [Act.put, List.setIfInBounds_toArray, List.set_cons_zero, List.set_cons_succ]
      refine UntH.take (i := 14) (some 62) rfl rfl (by kernel_rfl) (by kernel_rfl) (by kernel_rfl) (by kernel_rfl) (fun _ _ _ _ h => h) (by rfl) HS2.out ?_
      apply Exists.intro
      refine ⟨fun w' hw' => ?_, ?_⟩
      · obtain ⟨q0, q1⟩ := hw'
        go_simp
        first | done | rfl
      try simp only [Act.put, List.setIfInBounds_toArray, List.set_cons_zero, List.set_cons_succ]
      refine UntH.take (i := 15) (some 63) rfl rfl (by kernel_rfl) (by kernel_rfl) (by kernel_rfl) (by kernel_rfl) (fun _ _ _ _ h => h) (by rfl) HS2.out ?_
      apply Exists.intro
      refine ⟨fun w' hw' => ?_, ?_⟩
      · obtain ⟨q0, q1⟩ := hw'
        go_simp
        first | done | rfl
      try simp only [Act.put, List.setIfInBounds_toArray, List.set_cons_zero, List.set_cons_succ]
      refine UntH.take (i := 16) (some 14) rfl rfl (by kernel_rfl) (by kernel_rfl) (by kernel_rfl) (by kernel_rfl) (fun _ _ _ _ h => h) (by rfl) HS2.out ?_
      apply Exists.intro
      refine ⟨fun w' hw' => ?_, ?_⟩
      · obtain ⟨q0, q1⟩ := hw'
        go_simp
        first | done | rfl
      try simp only [Act.put, List.setIfInBounds_toArray, List.set_cons_zero, List.set_cons_succ]
      refine UntH.take (i := 17) (some 15) rfl rfl (by kernel_rfl) (by kernel_rfl) (by kernel_rfl) (by kernel_rfl) (fun _ _ _ _ h => h) (by rfl) HS2.out ?_
      apply Exists.intro
      refine ⟨fun w' hw' => ?_, ?_⟩
      · obtain ⟨q0, q1⟩ := hw'
        go_simp
        first | done | rfl
      try simp only [Act.put, List.setIfInBounds_toArray, List.set_cons_zero, List.set_cons_succ]
      refine UntH.last (by kernel_rfl) rfl (by kernel_rfl) (by kernel_rfl) (fun K hK => ?_)
      go_simp
      refine hK _ _ ?_
      clear hK K HS0 HS1 HS2 BC LOW PMU ZL XD X7
      have CD8 := hide (CD.out.below X8.out)
      have ZD8 := hide (ZD.out.below X8.out)
      rw [HOL.out, HYY.out] at ZF CF
      have IN : Hid (Calls Try.prog 23 #[.slice (some ⟨dg, 0, none⟩) rs.length dc, .slice (some ⟨fg, 0, none⟩) rs.length fc] w8 fun e w' => e = .returned (.bool true) ∧ Below w8.heap.size w8 w') := by
        have := ints_any (some ⟨dg, 0, none⟩) (some ⟨fg, 0, none⟩) dc fc y.1 y.1 w8 (by rw [YL.out.1]; omega) ZD8.out.zbk.at ZF.out.zbk.at
        rw [YL.out.1, decide_eq_true rfl] at this
        exact this
      go_upto_region 9 with (go_at_call 23; refine IN.out.mono ?_; rintro e w9 ⟨rfl, x9⟩; have X9 := hide x9; clear x9)
      clear IN
      have CD9 := hide (CD8.out.below X9.out)
      have CF9 := hide (CF.out.below X9.out)
      have W9 : Hid (Below w.heap.size w w9) := bt (bt X6.out X8.out (Nat.le_refl _)) X9.out (Nat.le_refl _)
      have LD := hide CD9.out.len
      have LF := hide CF9.out.len
      clear CD CF CD8 ZD ZD8 ZF X8 X9 B6
      go_upto_region 11 with (first
        | (go_at_call 20; refine LD.out.mono ?_; clear LD; rintro e w10 ⟨rfl, h⟩; rw [h]; clear h)
        | (go_at_call 20; refine LF.out.mono ?_; clear LF; rintro e w11 ⟨rfl, h⟩; rw [h]; clear h))
      have NDA : Hid (∀ (D : Nat) (m : Nat) (Q : Nat → Prop) (V : World), CA V D S 8192 y.2.2 m Q → ∀ (i : Nat) (lv : Int) (ks : List Int), y.2.2[i]? = some (lv, ks) → Calls Try.prog 45 #[.pointer (some ⟨D, 0, none⟩), .int .i64 ((i : Int) + 2)] V fun e w' => ∃ g c, e = .returned (.tuple #[.agg #[.int .i64 lv, .slice (some ⟨g, 0, none⟩) ks.length c], .int .i64 0]) ∧ ZBk w' g ks ∧ Below V.heap.size V w') := fun D m Q V hc i lv ks hn => (hc.node ((i : Int) + 2)).mono (fun e w' hh => by
        obtain ⟨hor, hb⟩ := hh
        rcases hor with ⟨i', lv', ks', g, c, h1, h2, h3, _, h4, _⟩ | ⟨h1, _⟩
        · have : i' = i := by omega
          subst this
          rw [hn] at h1
          cases h1
          exact ⟨g, c, h3, h4, hb⟩
        · exfalso
          have := some_lt hn
          exact h1 ⟨by omega, by omega⟩)
      have KSL : Hid (∀ (i : Nat) (lv : Int) (ks : List Int), y.2.2[i]? = some (lv, ks) → ks.length ≤ 140737488351232) := fun i lv ks hn => by
        have hok := CF9.out.ok
        have hi := some_lt hn
        rw [List.getElem?_eq_getElem hi] at hn
        have hm := (hok.each i hi).1
        rw [Option.some.inj hn] at hm
        have h1 : (ks.length : Int) = S.getD lv.toNat 0 := hm.len
        have h2 : S.getD lv.toNat 0 ≤ 256 := by
          rcases Nat.lt_or_ge lv.toNat S.length with h | h
          · rw [List.getD_eq_getElem?_getD, List.getElem?_eq_getElem h]
            exact (hok.sz.each _ (List.getElem_mem _)).2
          · rw [List.getD_eq_getElem?_getD, List.getElem?_eq_none h]
            decide
        omega
      go_wp2
      go_loopw [18] (fun v18 wr => ∃ i : Nat, i ≤ y.2.2.length ∧ v18 = .int .i64 ((i : Int) + 2) ∧ Hid (Below w9.heap.size w9 wr)) (fun v _ => y.2.2.length + 2 - (RowKit.intOf v).toNat)
      case atStart => exact ⟨0, Nat.zero_le _, rfl, Below.refl _ _⟩
      case round =>
        obtain ⟨i, hi, rfl, XR⟩ := hrel
        have hy8 := YL.out.2
        have LR := hide ((CF9.out.below XR.out).len)
        have ew : IntKind.i64.wrap ((y.2.2.length : Int) + 2) = (y.2.2.length : Int) + 2 := by simp [IntKind.wrap, IntKind.bits, IntKind.signed]; omega
        by_cases hlt : i < y.2.2.length
        · have hlt' : (i : Int) + 2 < (y.2.2.length : Int) + 2 := by omega
          obtain ⟨lv, ks, hnd⟩ : ∃ lv ks, y.2.2[i]? = some (lv, ks) := ⟨_, _, List.getElem?_eq_getElem hlt⟩
          have HND := hide hnd
          have hks := KSL.out i lv ks hnd
          clear hnd
          have N1 := hide (NDA.out da _ _ _ (CD9.out.below XR.out) i lv ks HND.out)
          go_upto_region 15 with (first
            | (go_at_call 20; refine LR.out.mono ?_; rintro e w10 ⟨rfl, h⟩; rw [h]; clear h)
            | (go_at_call 45; refine N1.out.mono ?_; rintro e w11 ⟨g1, c1, rfl, z1, x1⟩; have ZK1 := hide z1; have XN1 := hide x1; clear z1 x1))
          clear N1 LR ew
          have Y12 : Hid (Below w11.heap.size w11 (w11.alloc (.cells #[.int .i64 lv, .slice (some ⟨g1, 0, none⟩) ks.length c1] 86))) := al (Below.refl _ _) _
          have BA := hide (heap_alloc_new w11 (.cells #[.int .i64 lv, .slice (some ⟨g1, 0, none⟩) ks.length c1] 86))
          have XR12 := hide (bt (bt XR.out XN1.out (Nat.le_refl _)) Y12.out (Nat.le_refl _))
          have ZK12 := hide (ZK1.out.below Y12.out)
          have N2 := hide (NDA.out fa _ _ _ (CF9.out.below XR12.out) i lv ks HND.out)
          generalize w11.alloc (.cells #[.int .i64 lv, .slice (some ⟨g1, 0, none⟩) ks.length c1] 86) = w12 at *
          generalize w11.heap.size = ba at *
          go_upto_region 16 with (go_at_call 45; refine N2.out.mono ?_; rintro e w13 ⟨g2, c2, rfl, z2, x2⟩; have ZK2 := hide z2; have XN2 := hide x2; clear z2 x2)
          clear N2
          have Y14 : Hid (Below w13.heap.size w13 (w13.alloc (.cells #[.int .i64 lv, .slice (some ⟨g2, 0, none⟩) ks.length c2] 86))) := al (Below.refl _ _) _
          have BB2 := hide (heap_alloc_new w13 (.cells #[.int .i64 lv, .slice (some ⟨g2, 0, none⟩) ks.length c2] 86))
          have XR14 := hide (bt (bt XR12.out XN2.out (Nat.le_refl _)) Y14.out (Nat.le_refl _))
          have BA14 := hide (((bt XN2.out Y14.out (Nat.le_refl _)).block _ (lt_of_obj BA.out)).trans BA.out)
          have ZA14 := hide (ZK12.out.below (bt XN2.out Y14.out (Nat.le_refl _)))
          have ZB14 := hide (ZK2.out.below Y14.out)
          generalize w13.alloc (.cells #[.int .i64 lv, .slice (some ⟨g2, 0, none⟩) ks.length c2] 86) = w14 at *
          generalize w13.heap.size = bk at *
          have q0 : w14.cell? ⟨ba, 0, none⟩ = some (.int .i64 lv) := by rw [cell_of_row w14 _ _ _ _ _ BA14.out]; rfl
          have q1 : w14.cell? ⟨ba, 1, none⟩ = some (.slice (some ⟨g1, 0, none⟩) ks.length c1) := by rw [cell_of_row w14 _ _ _ _ _ BA14.out]; rfl
          have q2 : w14.cell? ⟨bk, 0, none⟩ = some (.int .i64 lv) := by rw [cell_of_row w14 _ _ _ _ _ BB2.out]; rfl
          have q3 : w14.cell? ⟨bk, 1, none⟩ = some (.slice (some ⟨g2, 0, none⟩) ks.length c2) := by rw [cell_of_row w14 _ _ _ _ _ BB2.out]; rfl
          have IN2 : Hid (Calls Try.prog 23 #[.slice (some ⟨g1, 0, none⟩) ks.length c1, .slice (some ⟨g2, 0, none⟩) ks.length c2] w14 fun e w' => e = .returned (.bool true) ∧ Below w14.heap.size w14 w') := by
            have := ints_any (some ⟨g1, 0, none⟩) (some ⟨g2, 0, none⟩) c1 c2 ks ks w14 hks ZA14.out.at ZB14.out.at
            rw [decide_eq_true rfl] at this
            exact this
          go_upto_region 17 with (go_at_call 23; refine IN2.out.mono ?_; rintro e w15 ⟨rfl, x15⟩; have X15 := hide x15; clear x15)
          clear q0 q1 q2 q3
          have BA15 := (X15.out.block _ (lt_of_obj BA14.out)).trans BA14.out
          have BB15 := (X15.out.block _ (lt_of_obj BB2.out)).trans BB2.out
          have q0 : w15.cell? ⟨ba, 0, none⟩ = some (.int .i64 lv) := by rw [cell_of_row w15 _ _ _ _ _ BA15]; rfl
          have q2 : w15.cell? ⟨bk, 0, none⟩ = some (.int .i64 lv) := by rw [cell_of_row w15 _ _ _ _ _ BB15]; rfl
          have FIN := hide (bt XR14.out X15.out (Nat.le_refl _))
          have ew3 : IntKind.i64.wrap ((i : Int) + 2 + 1) = ((i + 1 : Nat) : Int) + 2 := by simp [IntKind.wrap, IntKind.bits, IntKind.signed]; omega
          clear BA15 BB15 IN2 XR14 BA14 ZA14 ZB14 BB2 XR12 ZK12 ZK1 ZK2 XN1 XN2 BA
          go_wp2
          go_roundw
          case rel => exact ⟨i + 1, by omega, by first | rfl | (congr 1; omega), FIN⟩
          case measure => simp [RowKit.intOf]; omega
        · have hlt' : ¬ (i : Int) + 2 < (y.2.2.length : Int) + 2 := by omega
          go_wp2_with (go_at_call 20; refine LR.out.mono ?_; rintro e w10 ⟨rfl, h⟩; rw [h]; clear h)
          go_ret
          exact ⟨rfl, bt W9.out XR.out (Nat.le_refl _)⟩
end
end Go.Proofs.Ytnddhkhmbjeefaa
/-
  Best by its contract, of what may be. Conditions: at most 7 levels of at most 4 classes, at most 4095 functions.
-/
namespace Go.Proofs.Ytnddhkhmbjeefaa
open Go.RowKit Go.Lib Go.Maps

section
variable {w : World} {a : Nat} {S : List Int} {M : Int} {N : List Nd} {m : Nat} {PA : Nat → Prop} {rs : List Int} {most : Int}
set_option maxRecDepth 100000 in
set_option maxHeartbeats 4000000 in
theorem bestAll_any (ao : Option Addr) (cap : Nat) (hA : CA w a S M N m PA) (hz : ZAt w ao rs) (hrs : ∀ f ∈ rs, hasR N f) (hl : rs.length ≤ 65536) (h0 : 0 ≤ most) (h8 : most ≤ 8192) (hm : Sml S (rs.map fun f p => sayR N p f)) :
    Calls Try.prog 15 #[.pointer (some ⟨a, 0, none⟩), .slice ao rs.length cap, .int .i64 most] w fun e w' => ∃ g, e = .returned (.tuple #[.slice (some ⟨g, 0, none⟩) S.length S.length, .int .i64 0]) ∧ RwZ w' g (bsO (cN S (rs.map fun f p => sayR N p f) most) (lows S.length) S.length) ∧ w.heap.size ≤ g ∧ Below w.heap.size w w' := by
  have hS := hA.ok.sz
  have hS12 : S.length ≤ 12 := hS.le
  have HMB : Hid (Calls Try.prog 29 #[.pointer (some ⟨a, 0, none⟩), .slice ao rs.length cap, .int .i64 most] w fun e w' => e = .returned (.bool true) ∧ Below w.heap.size w w') := (mayBe_any ao cap rs most (by omega) hz hA).mono (fun e w' ⟨⟨b, e1, hb⟩, hx⟩ => ⟨by rw [e1, hb.2 ⟨by omega, by omega, hrs⟩], hx⟩)
  have HRD : Hid (∀ V, Below w.heap.size w V → Calls Try.prog 31 #[.pointer (some ⟨a, 0, none⟩), .slice ao rs.length cap] V fun e w' => ∃ ra rc lb lc R Ls, e = .returned (dgV ra R.length rc lb Ls.length lc) ∧ DgX w' w'.heap.size ra lb lc R Ls ∧ Ls.length = S.length ∧ GD S (rs.map fun f p => sayR N p f) R (layL Ls) ∧ ordL Ls = lows S.length ∧ Below V.heap.size V w') := fun V hV => (read_any ao cap (hA.below hV) (hz.below hV) hrs hl).mono (fun e w' ⟨ra, rc, lb, lc, R, Ls, e1, D, hR, hL, G, ⟨Q', hC⟩, hx⟩ => ⟨ra, rc, lb, lc, R, Ls, by rw [hR, hL]; exact e1, D, hL, G, by
    have := chp_lv hC
    rw [List.length_map, hL] at this
    rw [show ordL Ls = (layL Ls).map (·.1) from rfl, this, lows, List.range_eq_range'], hx⟩)
  have HSM := hide hm
  have HSZ := hide hS
  clear hA hz hrs hm hS
  generalize (rs.map fun f p => sayR N p f) = F at *
  go_enter Try.func15, Try.ntmps15
  go_upto_region 4 with (first
    | (go_at_call 29; refine HMB.out.mono ?_; rintro e w1 ⟨rfl, x1⟩; have X1 := hide x1; clear x1)
    | (go_at_call 31; refine (HRD.out _ X1.out).mono ?_; rintro e w4 ⟨ra, rc, lb, lc, R, Ls, rfl, hD, hLl, hG, hO, x4⟩; have D4 := hide hD; have HLL := hide hLl; have G4 := hide hG; have O4 := hide hO; have X4 := hide (bt X1.out x4 (Nat.le_refl _)); clear hD hLl hG hO x4))
  clear HMB HRD X1
  have y5 : Below w4.heap.size w4 (w4.alloc (.cells #[.slice ra R.length rc, .slice (some ⟨lb, 0, none⟩) Ls.length lc] 70)) := al (Below.refl _ _) _
  have ST : Hid (BeI w (w4.alloc (.cells #[.slice ra R.length rc, .slice (some ⟨lb, 0, none⟩) Ls.length lc] 70)) w4.heap.size S F ra rc R (bsO (cN S F most) (lows S.length) 0) ⟨lb, lc, Ls⟩) := ⟨heap_alloc_new w4 _, ⟨(D4.out.below y5).mono y5.size (Nat.le_refl _), G4.out⟩, O4.out, bt X4.out y5 (Nat.le_refl _)⟩
  have LDC : Hid (w.heap.size ≤ w4.heap.size) := X4.out.size
  clear y5 D4 G4 X4 O4
  generalize w4.alloc (.cells #[.slice ra R.length rc, .slice (some ⟨lb, 0, none⟩) Ls.length lc] 70) = w5 at *
  generalize w4.heap.size = dc at *
  have d1 : w5.cell? ⟨dc, 1, none⟩ = some (.slice (some ⟨lb, 0, none⟩) Ls.length lc) := by rw [cell_of_row w5 _ _ _ _ _ ST.out.blk]; rfl
  go_wp2
  clear d1
  have hLn := HLL.out
  have hL12 : Ls.length ≤ 12 := by omega
  clear hLn
  go_loopw [21] (fun v21 wr => ∃ k : Nat, k ≤ Ls.length ∧ v21 = .int .i64 (k : Int) ∧ ∃ x, Hid (BeI w wr dc S F ra rc R (bsO (cN S F most) (lows S.length) k) x)) (fun v _ => Ls.length - (RowKit.intOf v).toNat)
  case atStart => exact ⟨0, Nat.zero_le _, rfl, _, ST⟩
  case round =>
    obtain ⟨k, hk, rfl, x, BI⟩ := hrel
    clear ST
    have d0 : wr.cell? ⟨dc, 0, none⟩ = some (.slice ra R.length rc) := by rw [cell_of_row wr _ _ _ _ _ BI.out.blk]; rfl
    have d1 : wr.cell? ⟨dc, 1, none⟩ = some (.slice (some ⟨x.lb, 0, none⟩) x.Ls.length x.lc) := by rw [cell_of_row wr _ _ _ _ _ BI.out.blk]; rfl
    by_cases hlk : k < Ls.length
    · have hlk' : (k : Int) < (Ls.length : Int) := by omega
      obtain ⟨o, ho⟩ : ∃ o, bsO (cN S F most) (lows S.length) k = o := ⟨_, rfl⟩
      have HO := hide ho
      have hod : ordL x.Ls = o := by rw [BI.out.od, ho]
      have hmem : (k : Int) ∈ o := by
        have h1 := HLL.out
        have hO : IsOrd S o := by rw [← hod]; exact BI.out.px.2.ord
        exact hO.mem (by omega)
      obtain ⟨ls, hls⟩ : ∃ ls : Int, (if most + 1 < (nodesL (layL x.Ls) : Int) then most + 1 else (nodesL (layL x.Ls) : Int)) = ls := ⟨_, rfl⟩
      have BA := hide (best_any (rc := rc) HSZ.out HSM.out BI.out.px.2 (hod.trans (mv_back hmem).symm) (idx_le hmem) h0 h8 BI.out.px.1 hls)
      have NX : Hid (∀ xs, SOt S F R (ls - 1) (o.erase (k : Int)) (k : Int) (o.idxOf (k : Int)) xs → ordL (bstF (⟨x.lb, x.lc, x.Ls⟩, ls) xs).1.Ls = bsO (cN S F most) (lows S.length) (k + 1)) := fun xs h => by
        have := best_next HSZ.out h0 h8 (d := ⟨x.lb, x.lc, x.Ls⟩) BI.out.px.2 hod hmem hls h
        rw [this, ← ho]
        rfl
      clear hls ho hod hmem
      go_upto_region 8 with (go_at_call 39; refine BA.out.mono ?_; rintro e w6 ⟨xs, hS6, rfl, px6, x6⟩; obtain ⟨x', hx'⟩ : ∃ x', (bstF (⟨x.lb, x.lc, x.Ls⟩, ls) xs).1 = x' := ⟨_, rfl⟩; have n6 := NX.out xs hS6; rw [hx'] at px6 n6; rw [hx']; have PX6 := hide px6; have N6 := hide n6; have X6 := hide x6; have b6 := (x6.block _ (lt_of_obj BI.out.blk)).trans BI.out.blk; have s0 : w6.cell? ⟨dc, 0, none⟩ = some (.slice ra R.length rc) := (by rw [cell_of_row w6 _ _ _ _ _ b6]; rfl); have s1 : w6.cell? ⟨dc, 1, none⟩ = some (.slice (some ⟨x.lb, 0, none⟩) x.Ls.length x.lc) := (by rw [cell_of_row w6 _ _ _ _ _ b6]; rfl); have g0 := frozen_of_row w6 dc 0 _ _ b6; have g1 := frozen_of_row w6 dc 1 _ _ b6; clear px6 n6 x6 b6 hx' hS6)
      have FIN := hide (BI.out.put (w3 := (w6.setCell ⟨dc, 0, none⟩ (.slice ra R.length rc)).setCell ⟨dc, 1, none⟩ (.slice (some ⟨x'.lb, 0, none⟩) x'.Ls.length x'.lc)) X6.out PX6.out N6.out LDC.out rfl)
      clear s0 s1 g0 g1 d0 d1
      generalize (w6.setCell ⟨dc, 0, none⟩ (.slice ra R.length rc)).setCell ⟨dc, 1, none⟩ (.slice (some ⟨x'.lb, 0, none⟩) x'.Ls.length x'.lc) = w7 at *
      go_wp2
      go_roundw
      case rel => exact ⟨k + 1, by omega, by go_num, x', FIN⟩
      case measure => simp [RowKit.intOf]; omega
    · have hlk' : ¬ (k : Int) < (Ls.length : Int) := by omega
      obtain rfl : k = Ls.length := by omega
      have hx12 : x.Ls.length ≤ 12 := by have h1 := BI.out.px.2.len; rw [List.length_map] at h1; omega
      have OA := hide (order_any (rc := rc) hx12 BI.out.px.1)
      go_wp2_with (go_at_call 40; refine OA.out.mono ?_; rintro e w6 ⟨g, rfl, hz, hg, x6⟩; have Z6 := hide hz; have G6 := hide hg; have X6 := hide x6; clear hz hg x6)
      go_ret2
      have h1 := BI.out.px.2.len
      rw [List.length_map] at h1
      refine ⟨g, by rw [h1]; rfl, ?_, Nat.le_trans BI.out.bel.size G6.out, bt BI.out.bel X6.out (Nat.le_refl _)⟩
      have h2 := Z6.out
      have h3 := BI.out.od
      rw [HLL.out] at h3
      rw [show x.Ls.map LA.lv = ordL x.Ls by simp [LA.lay], h3] at h2
      exact h2
end
end Go.Proofs.Ytnddhkhmbjeefaa
