/-
  The document's Right by its contract. Condition: lists no longer than a process can hold.
-/
import Derived.Test.YtdgoilkgplnhfaaGreatB34
import Derived.Test.YtdgoilkgplnhfaaGreatB46
import Derived.Test.YtdgoilkgplnhfaaGreatB44
import Derived.BigQuiet
import Derived.Test.YtdgoilkgplnhfaaGreatB45
import Derived.Test.YtdgoilkgplnhfaaGreatB32
namespace Go.Proofs.YtdgoilkgplnhfaaGreat
open Go.RowKit Go.Lib

theorem NAt.raw {w : World} {ao : Option Addr} {L : List Nat} (h : NAt w ao L) : ZAt w ao (zN L) := by
  rcases h with h | ⟨b, off, h1, h2, h3⟩
  · exact .inl (by rw [h]; rfl)
  · refine .inr ⟨b, off, h1, h2, fun i hi => ?_⟩
    have := h3 i (by rw [zN_len] at hi; exact hi)
    rw [this]
    simp [zN]
/-- What Least tells, in one shape: and whether the automaton is in its one form already. -/
theorem LeP.flat {bs : By} {NZ OZ : List Int} {base : Nat} {e : Ending} {w : World} (h : LeP bs NZ OZ base e w) (hl : OZ.length ≤ 256) : ∃ (bs' : By) (xa : Option Addr) (xc : Nat) (oa : Option Addr) (oc : Nat) (NZ' OZ' : List Int) (m : Int), e = .returned (.tuple #[auV bs' xa NZ'.length xc oa OZ'.length oc, .int .i64 m]) ∧ ZAt w xa NZ' ∧ ZAt w oa OZ' ∧ (((bs = bs' ∧ NZ = NZ' ∧ OZ = OZ') ∧ m = 0) ↔ RightZ bs NZ OZ) := by
  rcases h with ⟨hno, rfl⟩ | ⟨NX, OU, rfl, rfl, hM, _, ⟨bs', xa, xn, xc, oa, on, oc, rfl, NX', OU', d⟩ | ⟨rfl, hno⟩⟩
  · refine ⟨[], none, 0, none, 0, [], [], 60, rfl, .inl rfl, .inl rfl, ⟨fun h => by have := h.2; omega, fun h => ?_⟩⟩
    obtain ⟨_, A, B, e1, e2, h1, h2⟩ := h
    exact absurd (by rw [e1, e2]; exact may_back h1 h2) hno
  · obtain rfl : xn = NX'.length := d.rws.shape (j := 0) (by simp) rfl
    obtain rfl : on = OU'.length := d.rws.shape (j := 1) (by simp) rfl
    have KX' : NAt w xa NX' := (d.rws.own 0 (by simp)).nat
    have KO' : NAt w oa OU' := (d.rws.own 1 (by simp)).nat
    refine ⟨bs', xa, xc, oa, oc, zN NX', zN OU', 0, by rw [zN_len, zN_len], KX'.raw, KO'.raw, ?_⟩
    rw [right_iff6 hM (by rw [zN_len] at hl; exact hl) d]
    exact ⟨fun ⟨⟨h1, h2, h3⟩, _⟩ => ⟨h1, zN_inj h2, zN_inj h3⟩, fun ⟨h1, h2, h3⟩ => ⟨⟨h1, by rw [h2], by rw [h3]⟩, rfl⟩⟩
  · exact ⟨[], none, 0, none, 0, [], [], 2, rfl, .inl rfl, .inl rfl, ⟨fun h => by have := h.2; omega, fun h => absurd h (not_right_of hno)⟩⟩
set_option maxRecDepth 100000 in
set_option maxHeartbeats 4000000 in
theorem rightD_any (bs : By) (na oa : Option Addr) (nc oc : Nat) (NZ OZ : List Int) (w : World) (hnl : NZ.length ≤ 140737488351232) (hol : OZ.length ≤ 140737488351232) (hnx : ZAt w na NZ) (hou : ZAt w oa OZ) :
    Calls Tryz.prog 17 #[auV bs na NZ.length nc oa OZ.length oc] w fun e w' => TellsB (RightZ bs NZ OZ) e ∧ Below w.heap.size w w' := by
  have X1 : Below w.heap.size w (w.alloc (.cells #[.string ⟨bs.toArray⟩, .slice na NZ.length nc, .slice oa OZ.length oc] 24)) := al (Below.refl _ _) _
  have B1 := heap_alloc_new w (.cells #[.string ⟨bs.toArray⟩, .slice na NZ.length nc, .slice oa OZ.length oc] 24)
  obtain ⟨w1, hw1⟩ : ∃ w1, w1 = w.alloc (.cells #[.string ⟨bs.toArray⟩, .slice na NZ.length nc, .slice oa OZ.length oc] 24) := ⟨_, rfl⟩
  rw [← hw1] at X1 B1
  have HC : Hid (∀ V, Below w1.heap.size w1 V → V.cell? ⟨w.heap.size, 0, none⟩ = some (.string ⟨bs.toArray⟩) ∧ V.cell? ⟨w.heap.size, 1, none⟩ = some (.slice na NZ.length nc) ∧ V.cell? ⟨w.heap.size, 2, none⟩ = some (.slice oa OZ.length oc) ∧ ZAt V na NZ ∧ ZAt V oa OZ) := fun V x => by
    have Bv := (x.block _ (lt_of_block B1)).trans B1
    exact ⟨by rw [cell_of_row _ _ _ _ _ _ Bv]; rfl, by rw [cell_of_row _ _ _ _ _ _ Bv]; rfl, by rw [cell_of_row _ _ _ _ _ _ Bv]; rfl, hnx.below (bt X1 x (Nat.le_refl _)), hou.below (bt X1 x (Nat.le_refl _))⟩
  have HX1 := hide X1
  have hlw := lt_of_block B1
  obtain ⟨c0, c1, c2, kx, ko⟩ := HC.out w1 (Below.refl _ _)
  have HMB := hide (leastD_any bs na oa nc oc NZ OZ w1 hnl hol kx ko)
  clear X1 B1 hnx hou kx ko
  unfold auV at HMB ⊢
  by_cases h1 : (256 : Int) < (OZ.length : Int)
  · have HN : Hid (¬ RightZ bs NZ OZ) := fun h => by have := h.1; omega
    have h1d : decide ((256 : Int) < (OZ.length : Int)) = true := by simpa using h1
    go_enter Tryz.func17, Tryz.ntmps17
    go_upto_region 1 with fail
    rw [← hw1]
    clear hw1
    go_wp2
    go_ret
    exact ⟨⟨false, rfl, ⟨fun h => (by cases h), fun h => absurd h HN.out⟩⟩, HX1.out⟩
  · have h1d : decide ((256 : Int) < (OZ.length : Int)) = false := by simpa using h1
    have h256 : OZ.length ≤ 256 := by omega
    go_enter Tryz.func17, Tryz.ntmps17
    go_upto_region 1 with fail
    rw [← hw1]
    clear hw1
    go_wp2_with (fail)
    refine HMB.out.mono ?_
    rintro e w4 ⟨hP, x4⟩
    obtain ⟨bs', xa, xc, oa', oc', NZ', OZ', m, rfl, kx', ko', hR⟩ := hP.flat h256
    have X4 := hide x4
    have HRI := hide hR
    have KX' := hide kx'
    have KO' := hide ko'
    clear HMB c0 c1 c2 hP hR x4 kx' ko' h1 h1d
    unfold auV
    have x5 : Below w4.heap.size w4 (w4.alloc (.cells #[.string ⟨bs'.toArray⟩, .slice xa NZ'.length xc, .slice oa' OZ'.length oc'] 24)) := al (Below.refl _ _) _
    have B5 := heap_alloc_new w4 (.cells #[.string ⟨bs'.toArray⟩, .slice xa NZ'.length xc, .slice oa' OZ'.length oc'] 24)
    have HX5 := hide x5
    have HB5 := hide B5
    have HC5 := hide (HC.out (w4.alloc (.cells #[.string ⟨bs'.toArray⟩, .slice xa NZ'.length xc, .slice oa' OZ'.length oc'] 24)) (bt X4.out x5 (Nat.le_refl _)))
    clear x5 B5
    go_upto_region 4 with fail
    generalize w4.alloc (.cells #[.string ⟨bs'.toArray⟩, .slice xa NZ'.length xc, .slice oa' OZ'.length oc'] 24) = w5 at *
    obtain ⟨c0, c1, c2, kx, ko⟩ := HC5.out
    have e0 : w5.cell? ⟨w4.heap.size, 0, none⟩ = some (.string ⟨bs'.toArray⟩) := by rw [cell_of_row _ _ _ _ _ _ HB5.out]; rfl
    have e1 : w5.cell? ⟨w4.heap.size, 1, none⟩ = some (.slice xa NZ'.length xc) := by rw [cell_of_row _ _ _ _ _ _ HB5.out]; rfl
    have e2 : w5.cell? ⟨w4.heap.size, 2, none⟩ = some (.slice oa' OZ'.length oc') := by rw [cell_of_row _ _ _ _ _ _ HB5.out]; rfl
    have X5 := hide (bt HX1.out (bt X4.out HX5.out (Nat.le_refl _)) (Nat.le_refl _))
    have HSM := hide (sameZ_any bs bs' na oa xa oa' nc oc xc oc' NZ OZ NZ' OZ' w5 hnl hol kx ko (KX'.out.below HX5.out) (KO'.out.below HX5.out))
    unfold auV at HSM
    clear kx ko
    go_wp2_with (fail)
    refine HSM.out.mono ?_
    rintro e w6 ⟨⟨b, rfl, hb⟩, x6⟩
    have X6 := hide (bt X5.out x6 (Nat.le_refl _))
    have HBB := hide hb
    clear HSM hb x6 c0 c1 c2 e0 e1 e2
    by_cases hm : m = 0
    · subst hm
      have HT : Hid (b = true ↔ RightZ bs NZ OZ) := ⟨fun h => HRI.out.1 ⟨HBB.out.1 h, rfl⟩, fun h => HBB.out.2 (HRI.out.2 h).1⟩
      go_wp2
      go_ret
      exact ⟨⟨b, rfl, HT.out⟩, X6.out⟩
    · have hm' : (m == 0) = false := by simpa using hm
      have HN : Hid (¬ RightZ bs NZ OZ) := fun h => hm (HRI.out.2 h).2
      go_wp2
      go_ret
      exact ⟨⟨false, rfl, ⟨fun h => (by cases h), fun h => absurd h HN.out⟩⟩, X6.out⟩
end Go.Proofs.YtdgoilkgplnhfaaGreat
/-
  The document's Runs and Run by their contracts. Condition: lists no longer than a process can hold.
-/
namespace Go.Proofs.YtdgoilkgplnhfaaGreat
open Go.RowKit Go.Lib

set_option maxRecDepth 100000 in
set_option maxHeartbeats 4000000 in
theorem runsD_any (bs : By) (na oa : Option Addr) (nc oc W : Nat) (NX OU : List Nat) (t : By) (w : World) (hM : MayA bs NX OU) (hW : NX.length / OU.length = W) (hWm : W = mxL (ntL bs) + 1) (htl : t.length ≤ 140737488351232) (hnx : NAt w na NX) (hou : NAt w oa OU) :
    Calls Tryz.prog 65 #[auV bs na NX.length nc oa OU.length oc, .string ⟨t.toArray⟩] w fun e w' => e = .returned (.int .i64 ((dfA bs NX OU).lab 0 (ntL t))) ∧ Below w.heap.size w w' := by
  have hxl := hM.nxl
  have hbl := hM.bl
  have X1 : Below w.heap.size w (w.alloc (.cells #[.string ⟨bs.toArray⟩, .slice na NX.length nc, .slice oa OU.length oc] 24)) := al (Below.refl _ _) _
  have B1 := heap_alloc_new w (.cells #[.string ⟨bs.toArray⟩, .slice na NX.length nc, .slice oa OU.length oc] 24)
  obtain ⟨w1, hw1⟩ : ∃ w1, w1 = w.alloc (.cells #[.string ⟨bs.toArray⟩, .slice na NX.length nc, .slice oa OU.length oc] 24) := ⟨_, rfl⟩
  rw [← hw1] at X1 B1
  have HC : Hid (∀ V, Below w1.heap.size w1 V → V.cell? ⟨w.heap.size, 0, none⟩ = some (.string ⟨bs.toArray⟩) ∧ V.cell? ⟨w.heap.size, 1, none⟩ = some (.slice na NX.length nc) ∧ V.cell? ⟨w.heap.size, 2, none⟩ = some (.slice oa OU.length oc) ∧ NAt V na NX ∧ NAt V oa OU) := fun V x => by
    have Bv := (x.block _ (lt_of_block B1)).trans B1
    exact ⟨by rw [cell_of_row _ _ _ _ _ _ Bv]; rfl, by rw [cell_of_row _ _ _ _ _ _ Bv]; rfl, by rw [cell_of_row _ _ _ _ _ _ Bv]; rfl, hnx.below (bt X1 x (Nat.le_refl _)), hou.below (bt X1 x (Nat.le_refl _))⟩
  have HX1 := hide X1
  obtain ⟨c0, c1, c2, -, -⟩ := HC.out w1 (Below.refl _ _)
  have HWD := hide (wideD_any bs na oa NX.length nc OU.length oc w1 hM.bl)
  rw [← hWm] at HWD
  unfold auV at HWD
  have HMM := hide hM
  have HW := hide hW
  clear X1 B1 hnx hou hM hW hWm
  unfold auV
  go_enter Tryz.func65, Tryz.ntmps65
  go_upto_region 1 with fail
  rw [← hw1]
  clear hw1
  go_upto_region 2 with (go_at_call 68; refine HWD.out.mono ?_; rintro e w3 ⟨rfl, x3⟩; have X3 := hide x3; clear x3)
  clear c0 c1 c2 HWD
  have R0 : Hid ((dfA bs NX OU).run 0 (ntL (t.take 0)) < OU.length) := HMM.out.ok.run HMM.out.n0 (ntL_txt _)
  go_wp2
  go_loopg [6, 7] (t.length + 1) (fun g s x wr => ∃ i : Nat, x = .int .i64 (i : Nat) ∧ s = .int .i64 (((dfA bs NX OU).run 0 (ntL (t.take i)) : Nat) : Int) ∧ Hid (Below w1.heap.size w1 wr) ∧ i ≤ t.length ∧ t.length - i < g)
  case atStart => exact ⟨0, rfl, rfl, X3, by omega, by omega⟩
  case round =>
    obtain ⟨i, rfl, rfl, X, hil, hg⟩ := hrel
    have HG := hide hg
    clear hg R0 X3
    obtain ⟨c0, c1, c2, kx, ko⟩ := HC.out wr X.out
    have hsl := HMM.out.ok.run HMM.out.n0 (ntL_txt (t.take i))
    have hsl : (dfA bs NX OU).run 0 (ntL (t.take i)) < OU.length := hsl
    by_cases hi : i < t.length
    · as_aux_lemma =>
      have hi' : (i : Int) < (t.length : Int) := by omega
      have hb256 := (t[i]).toNat_lt
      have HNXT : Hid ((dfA bs NX OU).run 0 (ntL (t.take (i + 1))) = (dfA bs NX OU).step ((dfA bs NX OU).run 0 (ntL (t.take i))) (t[i]).toNat) := by unfold Hid; rw [ntL_take t hi, DF.run_snoc]
      obtain ⟨y, hy⟩ : ∃ y, t[i] = y := ⟨_, rfl⟩
      have hgy : ∀ hk, (⟨t.toArray⟩ : ByteArray)[i]'hk = y := fun _ => hy
      rw [hy] at hb256 HNXT
      have hyb : y.toNat < bs.length := by rw [hbl]; exact hb256
      have hcw := HMM.out.bw y.toNat hb256
      obtain ⟨z, hz⟩ : ∃ z, bs[y.toNat] = z := ⟨_, rfl⟩
      have hgz : ∀ hk, (⟨bs.toArray⟩ : ByteArray)[y.toNat]'hk = z := fun _ => hz
      have hgd : bs.getD y.toNat 0 = z := by simp [List.getD_eq_getElem?_getD, hyb, hz]
      rw [hgd, HW.out] at hcw
      obtain ⟨st, hst⟩ : ∃ st, st = (dfA bs NX OU).run 0 (ntL (t.take i)) := ⟨_, rfl⟩
      rw [← hst] at hsl HNXT ⊢
      have hq : st * W + z.toNat < NX.length := by rw [HMM.out.wl, HW.out]; exact at_lt hsl hcw
      obtain ⟨xb, xoff, rfl, -, -⟩ := kx.get hq
      have sx := kx.atG hq
      have HSV : Hid (gN NX (st * W + z.toNat) = (dfA bs NX OU).run 0 (ntL (t.take (i + 1)))) := by
        unfold Hid
        rw [HNXT.out]
        show _ = gN NX (st * (NX.length / OU.length) + (bs.getD y.toNat 0).toNat)
        rw [HW.out, hgd]
      have hy' : ((y.toNat : Nat) : Int) < (bs.length : Int) := by omega
      have wz : IntKind.i64.wrap ((z.toNat : Nat) : Int) = ((z.toNat : Nat) : Int) := w64_n _ (by have := z.toNat_lt; omega)
      clear hst HNXT kx ko hcw hgd hy hz
      obtain ⟨st2, hst2⟩ : ∃ st2, st2 = (dfA bs NX OU).run 0 (ntL (t.take (i + 1))) := ⟨_, rfl⟩
      rw [← hst2] at HSV
      have HS2 := hide hst2
      clear hst2
      rw [HSV.out] at sx
      have f1 : IntKind.i64.wrap ((st : Int) * (W : Int)) = ((st * W : Nat) : Int) := by rw [show (st : Int) * (W : Int) = ((st * W : Nat) : Int) by simp]; exact w64_n _ (by omega)
      generalize hmm : st * W = z0 at *
      have f3 : IntKind.i64.wrap ((z0 : Int) + ((z.toNat : Nat) : Int)) = ((z0 + z.toNat : Nat) : Int) := by rw [show (z0 : Int) + ((z.toNat : Nat) : Int) = ((z0 + z.toNat : Nat) : Int) by simp]; exact w64_n _ (by omega)
      have hln : (z0 : Int) + ((z.toNat : Nat) : Int) < (NX.length : Int) := by omega
      have hlz : (0 : Int) ≤ (z0 : Int) + ((z.toNat : Nat) : Int) := by omega
      have hlt : ((z0 : Int) + ((z.toNat : Nat) : Int)).toNat = z0 + z.toNat := by omega
      clear hmm HSV
      go_wp2
      go_quiet (fail)
      have X6 : Hid (Below w1.heap.size w1 (wr.drewN nq)) := X.out.trans ⟨rfl, rfl, rfl, Nat.le_refl _, fun _ _ => rfl⟩
      go_wp2
      go_roundg (t.length - (i + 1) + 1)
      case measure => have := HG.out; omega
      case rel => exact ⟨i + 1, by first | rfl | go_num | (congr 1; omega), by rw [← HS2.out], X6, by omega, by omega⟩
    · as_aux_lemma =>
      have hi' : ¬ (i : Int) < (t.length : Int) := by omega
      obtain rfl : i = t.length := by omega
      rw [List.take_length] at hsl
      rw [List.take_length]
      obtain ⟨ob, off, rfl, _, co⟩ := ko.get hsl
      rw [← gN_lt hsl] at co
      have HLAB : Hid ((((gN OU ((dfA bs NX OU).run 0 (ntL t)) : Nat) : Int)) = (dfA bs NX OU).lab 0 (ntL t)) := rfl
      have hs' : (((dfA bs NX OU).run 0 (ntL t) : Nat) : Int) < (OU.length : Int) := by omega
      have Xf := hide (bt HX1.out X.out (Nat.le_refl _))
      clear kx ko
      go_wp2
      go_ret
      exact ⟨by rw [← HLAB.out]; rfl, Xf.out⟩
set_option maxRecDepth 100000 in
set_option maxHeartbeats 4000000 in
theorem runD_any (bs : By) (na oa : Option Addr) (nc oc : Nat) (NZ OZ : List Int) (t : By) (w : World) (hnl : NZ.length ≤ 140737488351232) (hol : OZ.length ≤ 140737488351232) (htl : t.length ≤ 140737488351232) (hnx : ZAt w na NZ) (hou : ZAt w oa OZ) :
    Calls Tryz.prog 28 #[auV bs na NZ.length nc oa OZ.length oc, .string ⟨t.toArray⟩] w fun e w' => RunP bs NZ OZ t e ∧ Below w.heap.size w w' := by
  have X1 : Below w.heap.size w (w.alloc (.cells #[.string ⟨bs.toArray⟩, .slice na NZ.length nc, .slice oa OZ.length oc] 24)) := al (Below.refl _ _) _
  have B1 := heap_alloc_new w (.cells #[.string ⟨bs.toArray⟩, .slice na NZ.length nc, .slice oa OZ.length oc] 24)
  obtain ⟨w1, hw1⟩ : ∃ w1, w1 = w.alloc (.cells #[.string ⟨bs.toArray⟩, .slice na NZ.length nc, .slice oa OZ.length oc] 24) := ⟨_, rfl⟩
  rw [← hw1] at X1 B1
  have HC : Hid (∀ V, Below w1.heap.size w1 V → V.cell? ⟨w.heap.size, 0, none⟩ = some (.string ⟨bs.toArray⟩) ∧ V.cell? ⟨w.heap.size, 1, none⟩ = some (.slice na NZ.length nc) ∧ V.cell? ⟨w.heap.size, 2, none⟩ = some (.slice oa OZ.length oc) ∧ ZAt V na NZ ∧ ZAt V oa OZ) := fun V x => by
    have Bv := (x.block _ (lt_of_block B1)).trans B1
    exact ⟨by rw [cell_of_row _ _ _ _ _ _ Bv]; rfl, by rw [cell_of_row _ _ _ _ _ _ Bv]; rfl, by rw [cell_of_row _ _ _ _ _ _ Bv]; rfl, hnx.below (bt X1 x (Nat.le_refl _)), hou.below (bt X1 x (Nat.le_refl _))⟩
  have HX1 := hide X1
  obtain ⟨c0, c1, c2, kx, ko⟩ := HC.out w1 (Below.refl _ _)
  have HR := hide (rightD_any bs na oa nc oc NZ OZ w1 hnl hol kx ko)
  clear X1 B1 hnx hou kx ko
  unfold auV at HR ⊢
  go_enter Tryz.func28, Tryz.ntmps28
  go_upto_region 1 with fail
  rw [← hw1]
  clear hw1
  go_wp2_with (fail)
  refine HR.out.mono ?_
  rintro e w3 ⟨⟨b, rfl, hb⟩, x3⟩
  have HBB := hide hb
  have X3 := hide x3
  clear HR c0 c1 c2 hb x3
  obtain ⟨c0, c1, c2, kx, ko⟩ := HC.out w3 X3.out
  cases b with
  | false =>
    have HN : Hid (¬ RightZ bs NZ OZ) := fun h => by have := HBB.out.2 h; cases this
    have Xf := hide (bt HX1.out X3.out (Nat.le_refl _))
    clear kx ko
    go_wp2
    go_ret2
    exact ⟨.inl ⟨HN.out, rfl⟩, Xf.out⟩
  | true =>
    as_aux_lemma =>
      obtain ⟨h256, NX, OU, rfl, rfl, hM, hRt⟩ := HBB.out.1 rfl
      have HMZ := may_back hM hRt
      have hwm : NX.length / OU.length = mxL (ntL bs) + 1 := hM.w (by have := HMZ.2.2.2.1; rw [zN_len, zN_len] at this; exact this)
      have HRD := hide (runsD_any bs na oa nc oc _ NX OU t w3 hM rfl hwm htl kx.nat ko.nat)
      unfold auV at HRD
      rw [zN_len] at c1 c2 h256
      have HMM := hide hM
      have HRT := hide hRt
      have H256 := hide h256
      clear kx ko hM hRt HMZ hwm HBB h256
      go_wp2_with (fail)
      refine HRD.out.mono ?_
      rintro e w4 ⟨rfl, x4⟩
      have Xf := hide (bt HX1.out (bt X3.out x4 (Nat.le_refl _)) (Nat.le_refl _))
      clear HRD c0 c1 c2 x4
      go_wp2
      go_ret2
      exact ⟨.inr ⟨NX, OU, rfl, rfl, HMM.out, HRT.out, H256.out, rfl⟩, Xf.out⟩
end Go.Proofs.YtdgoilkgplnhfaaGreat
/-
  The document's least texts: states met breadth first, byte by byte, come up in their own order. Of no program: the automaton is in its one form.
-/
namespace Go.Proofs.YtdgoilkgplnhfaaGreat

/-- m states were met: i of them gone through, b bytes of the next one; T: their texts. -/
structure SdS (D : DF) (m i b : Nat) (T : List (List Nat)) : Prop where
  pos : 0 < m
  le : m ≤ D.n
  tl : T.length = m
  lt : ∀ j, j < m → D.LT j (T.getD j [])
  dn : ∀ s, s < i → ∀ c, c < 256 → D.step s c < m
  dk : ∀ c, c < b → D.step i c < m
section
variable {D : DF} {m i b : Nat} {T : List (List Nat)}
theorem DF.LT.len {s : Nat} {t : List Nat} (h : D.LT s t) : t.length ≤ s := by
  induction h with
  | zero => exact Nat.le_refl _
  | step m f _ ih =>
    have := m.lt
    simp
    omega
theorem SdS.start (hn : 0 < D.n) : SdS D 1 0 0 [[]] := ⟨by omega, hn, rfl, fun j hj => by
  obtain rfl : j = 0 := by omega
  exact .zero, fun s hs => by omega, fun c hc => by omega⟩
theorem SdS.old (h : SdS D m i b T) (hs : D.step i b < m) : SdS D m i (b + 1) T := ⟨h.pos, h.le, h.tl, h.lt, h.dn, fun c hc => by
  rcases Nat.lt_or_ge c b with h1 | h1
  · exact h.dk c h1
  · rw [show c = b by omega]; exact hs⟩
theorem SdS.ahead (h : SdS D m i b T) (R : D.Right) (hb : b < 256) {p c : Nat} (hc : c < D.W) (ha : Ahead p c i (D.bc b)) : D.nx p c < m := by
  rcases ha with ha | ⟨rfl, ha⟩
  · obtain ⟨x, h1, h2⟩ := R.cols c hc
    have := h.dn p ha x h1
    unfold DF.step at this
    rw [h2] at this
    exact this
  · obtain ⟨x, h1, h2⟩ := R.colf b hb c ha
    have := h.dk x h1
    unfold DF.step at this
    rw [h2] at this
    exact this
theorem SdS.is (h : SdS D m i b T) (R : D.Right) (hi : i < m) (hb : b < 256) (hs : m ≤ D.step i b) : D.step i b = m := by
  apply Classical.byContradiction
  intro hne
  have hi2 := h.le
  obtain ⟨s', c', h1, h2, h3⟩ := R.stf i (by omega) (D.bc b) (R.bc b hb) m h.pos (by show m < D.step i b; omega)
  have := h.ahead R hb h1 h2
  omega
theorem SdS.new (h : SdS D m i b T) (R : D.Right) (hi : i < m) (hb : b < 256) (hs : m ≤ D.step i b) : SdS D (m + 1) i (b + 1) (T ++ [T.getD i [] ++ [b]]) := by
  have e := h.is R hi hb hs
  have hle := h.le
  have htl := h.tl
  have hlt := R.toOk.step (show i < D.n by omega) hb
  refine ⟨by omega, by omega, by simp [htl], fun j hj => ?_, fun s h1 c h2 => ?_, fun c hc => ?_⟩
  · rcases Nat.lt_or_ge j m with h1 | h1
    · rw [List.getD_eq_getElem?_getD, List.getElem?_append_left (by omega), ← List.getD_eq_getElem?_getD]
      exact h.lt j h1
    · obtain rfl : j = m := by omega
      rw [List.getD_eq_getElem?_getD, ← htl, List.getElem?_concat_length]
      refine .step (c := D.bc b) ⟨by omega, R.bc b hb, e.trans htl.symm, fun p' c' k1 k2 => ?_⟩ ⟨hb, rfl, fun x k1 k2 => ?_⟩ (h.lt i hi)
      · rw [htl]; exact h.ahead R hb k1 k2
      · have := h.dk x k1
        unfold DF.step at this e
        rw [k2, e] at this
        omega
  · have := h.dn s h1 c h2; omega
  · rcases Nat.lt_or_ge c b with h1 | h1
    · have := h.dk c h1; omega
    · rw [show c = b by omega]; omega
theorem SdS.row (h : SdS D m i 256 T) : SdS D m (i + 1) 0 T := ⟨h.pos, h.le, h.tl, h.lt, fun s hs c hc => by
  rcases Nat.lt_or_ge s i with h1 | h1
  · exact h.dn s h1 c hc
  · rw [show s = i by omega]; exact h.dk c hc, fun c hc => by omega⟩
theorem SdS.done (h : SdS D m m 0 T) (R : D.Right) : m = D.n := by
  apply Classical.byContradiction
  intro hne
  have hle := h.le
  obtain ⟨t, ht, hr⟩ := R.reach m (by omega)
  have key : ∀ t, Txt t → ∀ p, p < m → D.run p t < m := by
    intro t
    induction t with
    | nil => intro _ p hp; exact hp
    | cons b t ih =>
      intro ht p hp
      rw [DF.run_cons]
      exact ih ht.tail.2 _ (h.dn p hp b ht.tail.1)
  have := key t ht 0 h.pos
  omega
end
end Go.Proofs.YtdgoilkgplnhfaaGreat
/-
  A region that draws its order, behind the operation that is told apart. Of no program: no condition.
-/
namespace Go.Proofs.YtdgoilkgplnhfaaGreat
open Go.RowKit Go.Lib

section
variable {P : Program} {ops : Array Oper} {Q : Exit → Act → World → Prop} {md : Region.Mode} {S : World → Prop} {z : Nat}
/-- Only one may come up, and z has come up, or is it: nothing is asked of the world. -/
theorem UntH.stepf {i n : Nat} {o : Oper} {done : Array Bool} {a : Act} {w : World} (hr : Region.ready md ops done = [i]) (ho : ops[i]? = some o) (hz : (done.setIfInBounds i true).getD z true = true) (h : ∀ K' : Act → World → Prop, Shut (∀ a w, UntH P md ops Q S z n (done.setIfInBounds i true) a w → K' a w) → if Region.wanted o (yielded ops a.tmps) = true then Oper.wp P o a w K' Q else K' (a.put o.dst undef) w) : UntH P md ops Q S z (n + 1) done a w :=
  UntH.one hr (wpOp_step ho (fun K' hK => h K' (fun a w h1 => hK a w ⟨fun h2 => (by rw [hz] at h2; cases h2), h1⟩)))
end
end Go.Proofs.YtdgoilkgplnhfaaGreat
