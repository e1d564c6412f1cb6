/-
  The code's Run by its contract. Condition: lists no longer than a process can hold.
-/
import Derived.Test.YtdgoilkgplnhfaaGreatB40
namespace Go.Proofs.YtdgoilkgplnhfaaGreat
open Go.RowKit Go.Lib

/-- What Run tells. -/
def RunP (bs : By) (NZ OZ : List Int) (t : By) (e : Ending) : Prop :=
  (¬ RightZ bs NZ OZ ∧ e = .returned (.tuple #[.int .i64 0, .int .i64 1])) ∨ ∃ NX OU, NZ = zN NX ∧ OZ = zN OU ∧ MayA bs NX OU ∧ (dfA bs NX OU).Right ∧ OU.length ≤ 256 ∧ e = .returned (.tuple #[.int .i64 ((dfA bs NX OU).lab 0 (ntL t)), .int .i64 0])
theorem ntL_txt (t : By) : Txt (ntL t) := fun b hb => by
  obtain ⟨y, _, rfl⟩ := List.mem_map.1 hb
  exact y.toNat_lt
theorem ntL_take (t : By) {i : Nat} (h : i < t.length) : ntL (t.take (i + 1)) = ntL (t.take i) ++ [(t[i]).toNat] := by
  unfold ntL
  rw [List.take_succ_eq_append_getElem h, List.map_append]
  rfl
set_option maxRecDepth 100000 in
set_option maxHeartbeats 4000000 in
theorem run_any (bs : By) (na oa : Option Addr) (nc oc : Nat) (NZ OZ : List Int) (t : By) (w : World) (hnl : NZ.length ≤ 140737488351232) (hol : OZ.length ≤ 140737488351232) (htl : t.length ≤ 140737488351232) (hnx : ZAt w na NZ) (hou : ZAt w oa OZ) :
    Calls Tryz.prog 27 #[auV bs na NZ.length nc oa OZ.length oc, .string ⟨t.toArray⟩] w fun e w' => RunP bs NZ OZ t e ∧ Below w.heap.size w w' := by
  have X1 : Below w.heap.size w (w.alloc (.cells #[.string ⟨bs.toArray⟩, .slice na NZ.length nc, .slice oa OZ.length oc] 24)) := al (Below.refl _ _) _
  have B1 := heap_alloc_new w (.cells #[.string ⟨bs.toArray⟩, .slice na NZ.length nc, .slice oa OZ.length oc] 24)
  obtain ⟨w1, hw1⟩ : ∃ w1, w1 = w.alloc (.cells #[.string ⟨bs.toArray⟩, .slice na NZ.length nc, .slice oa OZ.length oc] 24) := ⟨_, rfl⟩
  rw [← hw1] at X1 B1
  have hlw := lt_of_block B1
  have HC : Hid (∀ V, Below w1.heap.size w1 V → V.cell? ⟨w.heap.size, 0, none⟩ = some (.string ⟨bs.toArray⟩) ∧ V.cell? ⟨w.heap.size, 1, none⟩ = some (.slice na NZ.length nc) ∧ V.cell? ⟨w.heap.size, 2, none⟩ = some (.slice oa OZ.length oc) ∧ ZAt V na NZ ∧ ZAt V oa OZ) := fun V x => by
    have Bv := (x.block _ hlw).trans B1
    exact ⟨by rw [cell_of_row _ _ _ _ _ _ Bv]; rfl, by rw [cell_of_row _ _ _ _ _ _ Bv]; rfl, by rw [cell_of_row _ _ _ _ _ _ Bv]; rfl, hnx.below (bt X1 x (Nat.le_refl _)), hou.below (bt X1 x (Nat.le_refl _))⟩
  have HX1 := hide X1
  obtain ⟨c0, c1, c2, kx, ko⟩ := HC.out w1 (Below.refl _ _)
  have HR := hide (rightA_any bs na oa nc oc NZ OZ w1 hnl hol kx ko)
  clear X1 B1 hnx hou kx ko
  unfold auV at HR ⊢
  go_enter Tryz.func27, Tryz.ntmps27
  go_upto_region 1 with fail
  rw [← hw1]
  clear hw1
  go_wp2_with (fail)
  refine HR.out.mono ?_
  rintro e w3 ⟨⟨b, rfl, hb⟩, x3⟩
  have HBB := hide hb
  have X3 := hide x3
  clear HR c0 c1 c2 hb x3
  cases b with
  | false =>
    have HN : Hid (¬ RightZ bs NZ OZ) := fun h => by have := HBB.out.2 h; cases this
    have Xf := hide (bt HX1.out X3.out (Nat.le_refl _))
    go_wp2
    go_ret2
    exact ⟨.inl ⟨HN.out, rfl⟩, Xf.out⟩
  | true =>
    as_aux_lemma =>
      obtain ⟨h256, NX, OU, rfl, rfl, hM, hRt⟩ := HBB.out.1 rfl
      have ln : (zN NX).length = NX.length := by unfold zN; rw [List.length_map]
      have lo : (zN OU).length = OU.length := by unfold zN; rw [List.length_map]
      have HLN := hide ln
      have HLO := hide lo
      have HMM := hide hM
      have HRT := hide hRt
      have H256 : Hid (OU.length ≤ 256) := by unfold Hid; rw [← lo]; exact h256
      clear ln lo hM hRt h256 HBB
      have R0 : Hid ((dfA bs NX OU).run 0 (ntL (t.take 0)) < OU.length) := HMM.out.ok.run HMM.out.n0 (ntL_txt _)
      go_wp2
      go_loopg [6, 13] (t.length + 1) (fun g s x wr => ∃ i : Nat, x = .int .i64 (i : Nat) ∧ s = .int .i64 (((dfA bs NX OU).run 0 (ntL (t.take i)) : Nat) : Int) ∧ Hid (Below w1.heap.size w1 wr) ∧ i ≤ t.length ∧ t.length - i < g)
      case atStart => exact ⟨0, rfl, rfl, X3, by omega, by omega⟩
      case round =>
        obtain ⟨i, rfl, rfl, X, hil, hg⟩ := hrel
        have HG := hide hg
        clear hg R0
        obtain ⟨c0, c1, c2, kx, ko⟩ := HC.out wr X.out
        have hsl := HMM.out.ok.run HMM.out.n0 (ntL_txt (t.take i))
        have hsl : (dfA bs NX OU).run 0 (ntL (t.take i)) < OU.length := hsl
        by_cases hi : i < t.length
        · have hi' : (i : Int) < (t.length : Int) := by omega
          have hbl := (t[i]).toNat_lt
          have HNXT : Hid ((dfA bs NX OU).run 0 (ntL (t.take (i + 1))) = (dfA bs NX OU).step ((dfA bs NX OU).run 0 (ntL (t.take i))) (t[i]).toNat) := by unfold Hid; rw [ntL_take t hi, DF.run_snoc]
          obtain ⟨y, hy⟩ : ∃ y, t[i] = y := ⟨_, rfl⟩
          have hgy : ∀ hk, (⟨t.toArray⟩ : ByteArray)[i]'hk = y := fun _ => hy
          rw [hy] at hbl HNXT
          have hyb : y.toNat < bs.length := by rw [HMM.out.bl]; exact hbl
          have hcw := HMM.out.bw y.toNat hbl
          have hgd : bs.getD y.toNat 0 = bs[y.toNat] := by simp [List.getD_eq_getElem?_getD, hyb]
          rw [hgd] at hcw
          have hq := HMM.out.at hsl hcw
          have HST := fun V (kV : NAt V na NX) => step_any bs na oa nc oc OU.length ((dfA bs NX OU).run 0 (ntL (t.take i))) y.toNat (NX.length / OU.length) (bs[y.toNat]).toNat NX V (by rw [← HLN.out]; exact hnl) HMM.out.n0 rfl hyb rfl hq kV
          have HSV : Hid (NX[(dfA bs NX OU).run 0 (ntL (t.take i)) * (NX.length / OU.length) + (bs[y.toNat]).toNat] = (dfA bs NX OU).run 0 (ntL (t.take (i + 1)))) := by
            unfold Hid
            rw [HNXT.out, ← gN_lt hq, ← hgd]
            rfl
          rw [HSV.out] at HST
          unfold auV at HST
          rw [← HLN.out, ← HLO.out] at HST
          have lw : w.heap.size < wr.heap.size := Nat.lt_of_lt_of_le hlw X.out.size
          have HDr : Hid (Below wr.heap.size wr wr.drew) := (Below.refl _ _).drew
          have KN := hide kx.nat
          have wy : IntKind.i64.wrap ((y.toNat : Nat) : Int) = ((y.toNat : Nat) : Int) := w64_n _ (by omega)
          clear hy hgd kx ko HSV HNXT hcw hq hsl
          generalize (dfA bs NX OU).run 0 (ntL (t.take i)) = st at *
          obtain ⟨st2, hst2⟩ : ∃ st2, st2 = (dfA bs NX OU).run 0 (ntL (t.take (i + 1))) := ⟨_, rfl⟩
          rw [← hst2] at HST
          have HS2 := hide hst2
          clear hst2
          go_wp2
          refine wp_region_quiet (C := fun w' => Below wr.heap.size wr w') (by kernel_rfl) (by kernel_rfl) HDr.out ?_
          refine QW.out (l := _ :: _) ?_
          iterate 6 (refine QW.take (by rfl) ?_; apply Exists.intro; refine ⟨fun w' hw' => ?_, ?_⟩; (· (have g0 := (hw'.cell (p := ⟨w.heap.size, 0, none⟩) lw).trans c0; have g1 := (hw'.cell (p := ⟨w.heap.size, 1, none⟩) lw).trans c1; have g2 := (hw'.cell (p := ⟨w.heap.size, 2, none⟩) lw).trans c2; go_simp; first | done | (first | done | rfl))); try simp only [Act.put, List.setIfInBounds_toArray, List.set_cons_zero, List.set_cons_succ])
          iterate 1 (refine QW.take (by rfl) ?_; apply Exists.intro; refine ⟨fun w' hw' => ?_, ?_⟩; (· (have g0 := (hw'.cell (p := ⟨w.heap.size, 0, none⟩) lw).trans c0; have g1 := (hw'.cell (p := ⟨w.heap.size, 1, none⟩) lw).trans c1; have g2 := (hw'.cell (p := ⟨w.heap.size, 2, none⟩) lw).trans c2; go_simp; (refine (HST _ (KN.out.below hw')).mono ?_; rintro e w4 ⟨rfl, x4⟩; exact ⟨rfl, hw'.trans (x4.mono hw'.size)⟩))); try simp only [Act.put, List.setIfInBounds_toArray, List.set_cons_zero, List.set_cons_succ])
          iterate 1 (refine QW.take (by rfl) ?_; apply Exists.intro; refine ⟨fun w' hw' => ?_, ?_⟩; (· (have g0 := (hw'.cell (p := ⟨w.heap.size, 0, none⟩) lw).trans c0; have g1 := (hw'.cell (p := ⟨w.heap.size, 1, none⟩) lw).trans c1; have g2 := (hw'.cell (p := ⟨w.heap.size, 2, none⟩) lw).trans c2; go_simp; first | done | (first | done | rfl))); try simp only [Act.put, List.setIfInBounds_toArray, List.set_cons_zero, List.set_cons_succ])
          refine QW.nil ?_
          intro w5 x5
          have X5 := hide (bt X.out x5 (Nat.le_refl _))
          clear x5 HDr c0 c1 c2 HST
          go_wp2
          go_roundg (t.length - (i + 1) + 1)
          case measure => have := HG.out; omega
          case rel => exact ⟨i + 1, by first | rfl | go_num | (congr 1; omega), by rw [← HS2.out], X5, by omega, by omega⟩
        · have hi' : ¬ (i : Int) < (t.length : Int) := by omega
          obtain rfl : i = t.length := by omega
          rw [List.take_length] at hsl
          rw [List.take_length]
          obtain ⟨ob, off, rfl, _, co⟩ := ko.nat.get hsl
          rw [← gN_lt hsl] at co
          have HLAB : Hid ((((gN OU ((dfA bs NX OU).run 0 (ntL t)) : Nat) : Int)) = (dfA bs NX OU).lab 0 (ntL t)) := rfl
          have hs' : (((dfA bs NX OU).run 0 (ntL t) : Nat) : Int) < ((zN OU).length : Int) := by rw [HLO.out]; omega
          have Xf := hide (bt HX1.out X.out (Nat.le_refl _))
          clear kx ko
          go_wp2
          go_ret2
          exact ⟨.inr ⟨NX, OU, rfl, rfl, HMM.out, HRT.out, H256.out, by rw [← HLAB.out]; rfl⟩, Xf.out⟩
end Go.Proofs.YtdgoilkgplnhfaaGreat
