/-
  Map by its contract: an automaton with other labels, in its one form. Condition: lists no longer than a process can hold.
-/
import Derived.Test.YtdgoilkgplnhfaaGreatB44
import Derived.BigQuiet
import Derived.Test.YtdgoilkgplnhfaaGreatB47
namespace Go.Proofs.YtdgoilkgplnhfaaGreat
open Go.RowKit Go.Lib

/-- A label has a label in its place. -/
def Mpd (LZ : List Int) (o : Nat) : Prop := o < LZ.length ∧ Lab (LZ.getD o 0)
def mpO (LZ : List Int) (OU : List Nat) : List Nat := OU.map fun o => (LZ.getD o 0).toNat
theorem mpO_len (LZ : List Int) (OU : List Nat) : (mpO LZ OU).length = OU.length := by simp [mpO]
/-- What Map tells. -/
def MpP (bs : By) (NZ OZ LZ : List Int) (base : Nat) (e : Ending) (w : World) : Prop :=
  (¬ RightZ bs NZ OZ ∧ e = .returned (.tuple #[auV [] none 0 0 none 0 0, .int .i64 1])) ∨ ∃ NX OU, NZ = zN NX ∧ OZ = zN OU ∧ MayA bs NX OU ∧ (dfA bs NX OU).Right ∧ OU.length ≤ 256 ∧
    (((∃ i, i < OU.length ∧ ¬ Mpd LZ (gN OU i)) ∧ e = .returned (.tuple #[auV [] none 0 0 none 0 0, .int .i64 1])) ∨ ((∀ i, i < OU.length → Mpd LZ (gN OU i)) ∧ OneP bs NX (mpO LZ OU) base e w))
theorem mp_may {bs : By} {NX OU : List Nat} {LZ : List Int} (h : MayA bs NX OU) (hm : ∀ i, i < OU.length → Mpd LZ (gN OU i)) : MayA bs NX (mpO LZ OU) := by
  have e := mpO_len LZ OU
  refine ⟨h.bl, by rw [e]; exact h.n0, by rw [e]; exact h.n1, by rw [e]; exact h.wl, by rw [e]; exact h.bw, by rw [e]; exact h.w1, by rw [e]; exact h.nl, fun x hx => ?_⟩
  unfold mpO at hx
  obtain ⟨o, ho, rfl⟩ := List.mem_map.1 hx
  obtain ⟨i, hi, rfl⟩ := List.getElem_of_mem ho
  have := (hm i hi).2
  rw [gN_lt hi] at this
  unfold Lab at this
  omega
theorem ZAt.get' {w : World} {ao : Option Addr} {L : List Int} (h : ZAt w ao L) {i : Nat} (hi : i < L.length) : ∃ b off, ao = some ⟨b, off, none⟩ ∧ w.cell? ⟨b, off + i, none⟩ = some (.int .i64 (L.getD i 0)) := by
  rcases h with rfl | ⟨b, off, e, hb, h⟩
  · simp at hi
  · exact ⟨b, off, e, by rw [h i hi]; simp [List.getD_eq_getElem?_getD, hi]⟩
set_option maxRecDepth 100000 in
set_option maxHeartbeats 8000000 in
theorem map_any (bs : By) (na oa la : Option Addr) (nc oc lc : Nat) (NZ OZ LZ : List Int) (w : World) (hnl : NZ.length ≤ 140737488351232) (hol : OZ.length ≤ 140737488351232) (hnx : ZAt w na NZ) (hou : ZAt w oa OZ) (hla : ZAt w la LZ) :
    Calls Tryz.prog 25 #[auV bs na NZ.length nc oa OZ.length oc, .slice la LZ.length lc] w fun e w' => MpP bs NZ OZ LZ w.heap.size e w' ∧ Below w.heap.size w w' := by
  obtain ⟨w2, hw2⟩ : ∃ w2, w2 = (w.alloc (.cells #[.string ⟨bs.toArray⟩, .slice na NZ.length nc, .slice oa OZ.length oc] 24)).alloc (.cells #[.string ⟨#[]⟩, .slice none 0 0, .slice none 0 0] 24) := ⟨_, rfl⟩
  obtain ⟨X2, B1, B2, hs2⟩ := two_alloc' w #[.string ⟨bs.toArray⟩, .slice na NZ.length nc, .slice oa OZ.length oc] #[.string ⟨#[]⟩, .slice none 0 0, .slice none 0 0] 24 24
  rw [← hw2] at X2 B1 B2 hs2
  have HC : Hid (∀ V, Below w2.heap.size w2 V → V.cell? ⟨w.heap.size, 0, none⟩ = some (.string ⟨bs.toArray⟩) ∧ V.cell? ⟨w.heap.size, 1, none⟩ = some (.slice na NZ.length nc) ∧ V.cell? ⟨w.heap.size, 2, none⟩ = some (.slice oa OZ.length oc) ∧ V.heap[w.heap.size + 1]? = some (.cells #[.string ⟨#[]⟩, .slice none 0 0, .slice none 0 0] 24 (0, 0)) ∧ ZAt V na NZ ∧ ZAt V oa OZ ∧ ZAt V la LZ) := fun V x => by
    have Bv := (x.block _ (lt_of_block B1)).trans B1
    exact ⟨by rw [cell_of_row _ _ _ _ _ _ Bv]; rfl, by rw [cell_of_row _ _ _ _ _ _ Bv]; rfl, by rw [cell_of_row _ _ _ _ _ _ Bv]; rfl, (x.block _ (lt_of_block B2)).trans B2, hnx.below (bt X2 x (Nat.le_refl _)), hou.below (bt X2 x (Nat.le_refl _)), hla.below (bt X2 x (Nat.le_refl _))⟩
  have HX2 := hide X2
  have HS2 := hide hs2
  obtain ⟨c0, c1, c2, _, kx, ko, _⟩ := HC.out w2 (Below.refl _ _)
  have HR := hide (rightA_any bs na oa nc oc NZ OZ w2 hnl hol kx ko)
  have HI : Hid ((Tryz.prog.info? 24).map (·.size) = some 3) := by unfold Hid; kernel_rfl
  have A0 : Hid ((#[.string ⟨#[]⟩, .slice none 0 0, .slice none 0 0] : Array Value).all (·.oneCell') = true) := by unfold Hid; simp [Value.oneCell']
  have HNO : Hid (∀ V, Below w2.heap.size w2 V → (V.setRow (w.heap.size + 1) #[.string ⟨#[]⟩, .slice none 0 0, .slice none 0 0]).cell? ⟨w.heap.size + 1, 0, none⟩ = some (.string ⟨#[]⟩) ∧ (V.setRow (w.heap.size + 1) #[.string ⟨#[]⟩, .slice none 0 0, .slice none 0 0]).cell? ⟨w.heap.size + 1, 1, none⟩ = some (.slice none 0 0) ∧ (V.setRow (w.heap.size + 1) #[.string ⟨#[]⟩, .slice none 0 0, .slice none 0 0]).cell? ⟨w.heap.size + 1, 2, none⟩ = some (.slice none 0 0) ∧ Below w.heap.size w (V.setRow (w.heap.size + 1) #[.string ⟨#[]⟩, .slice none 0 0, .slice none 0 0])) := fun V x => by
    have B3 := (HC.out V x).2.2.2.1
    have B6 := setRow_heap V (w.heap.size + 1) _ #[.string ⟨#[]⟩, .slice none 0 0, .slice none 0 0] 24 (0, 0) B3
    have k6 : Kept (fun k => k = w.heap.size + 1) V (V.setRow (w.heap.size + 1) #[.string ⟨#[]⟩, .slice none 0 0, .slice none 0 0]) := kept_row
    have x3 := bt HX2.out x (Nat.le_refl _)
    exact ⟨by rw [cell_of_row _ _ _ _ _ _ B6]; rfl, by rw [cell_of_row _ _ _ _ _ _ B6]; rfl, by rw [cell_of_row _ _ _ _ _ _ B6]; rfl, x3.trans (k6.below x3.size (fun b hb => by omega))⟩
  clear X2 B1 B2 hs2 hnx hou hla kx ko
  unfold auV at HR ⊢
  go_enter Tryz.func25, Tryz.ntmps25
  go_upto_region 1 with fail
  rw [← hw2]
  clear hw2
  go_wp2_with (fail)
  refine HR.out.mono ?_
  rintro e w3 ⟨⟨b, rfl, hb⟩, x3⟩
  have HBB := hide hb
  have X3 := hide x3
  clear HR c0 c1 c2 hb x3
  obtain ⟨c0, c1, c2, B3, kx, ko, kl⟩ := HC.out w3 X3.out
  have HB3 := hide B3
  cases b with
  | false =>
    as_aux_lemma =>
      have HN : Hid (¬ RightZ bs NZ OZ) := fun h => by have := HBB.out.2 h; cases this
      obtain ⟨z0, z1, z2, z3⟩ := HNO.out w3 X3.out
      have X6 := hide z3
      clear B3 z3 kx ko kl
      go_wp2_with (refine wpList_store_row rfl 24 (.tmp 4) (.tmp 12) rfl (w.heap.size + 1) #[.string ⟨#[]⟩, .slice none 0 0, .slice none 0 0] rfl rfl 24 #[.string ⟨#[]⟩, .slice none 0 0, .slice none 0 0] HB3.out HI.out rfl A0.out ?_)
      refine bodyPost_ret (by simp [results, Tryz.results25, go_sem, z0, z1, z2]; try rfl) rfl ?_
      exact ⟨.inl ⟨HN.out, rfl⟩, X6.out⟩
  | true =>
    as_aux_lemma =>
      obtain ⟨h256, NX, OU, rfl, rfl, hM, hRt⟩ := HBB.out.1 rfl
      rw [zN_len] at h256
      rw [zN_len] at c1 c2
      have HMM := hide hM
      have HRT := hide hRt
      have HC2 : Hid (∀ V, Below w3.heap.size w3 V → (V.cell? ⟨w.heap.size, 0, none⟩ = some (.string ⟨bs.toArray⟩) ∧ V.cell? ⟨w.heap.size, 1, none⟩ = some (.slice na NX.length nc) ∧ V.cell? ⟨w.heap.size, 2, none⟩ = some (.slice oa OU.length oc)) ∧ V.heap[w.heap.size + 1]? = some (.cells #[.string ⟨#[]⟩, .slice none 0 0, .slice none 0 0] 24 (0, 0)) ∧ NAt V na NX ∧ NAt V oa OU ∧ ZAt V la LZ) := fun V x => by
        obtain ⟨q0, q1, q2, q3, q4, q5, q6⟩ := HC.out V (bt X3.out x (Nat.le_refl _))
        rw [zN_len] at q1 q2
        exact ⟨⟨q0, q1, q2⟩, q3, q4.nat, q5.nat, q6⟩
      obtain ⟨i3, hi3, hz30, hz31, hz32⟩ := info_parts Tryz.info3n
      obtain ⟨O0, hO0⟩ : ∃ O, Hid (O = mpO LZ OU) := ⟨_, rfl⟩
      have hOl : O0.length = OU.length := by rw [hO0.out, mpO_len]
      rw [zN_len, zN_len]
      clear B3 kx ko kl hM hRt HBB
      go_wp2_with (at_make; refine wpList_make_full _ rfl (.tmp 15) (.tmp 15) 22 rfl w3.heap.size 3 i3 (.int .i64 0) 1 Tryz.underlying22 hi3 hz30 hz31 .i64 .i64 _ _ OU.length rfl rfl rfl rfl (by rw [hz32]; omega) (by unfold maxLen; omega) (Nat.le_refl _) ?_; intro wm h1 h2; have XM0 := hide (below_of_grown h2); have OM0 : Hid (OwnN wm w3.heap.size (.slice (some ⟨w3.heap.size, 0, none⟩) OU.length OU.length) (O0.take 0 ++ List.replicate (OU.length - 0) 0)) := (by unfold Hid OwnN; rw [made_nums] at h1; simpa using h1); clear h1 h2; obtain ⟨⟨d0, d1, d2⟩, _⟩ := HC2.out wm XM0.out)
      go_loopg [20] (OU.length + 1) (fun g x wr => ∃ i : Nat, x = .int .i64 (i : Nat) ∧ i ≤ OU.length ∧ Hid (OwnN wr w3.heap.size (.slice (some ⟨w3.heap.size, 0, none⟩) OU.length OU.length) (O0.take i ++ List.replicate (OU.length - i) 0)) ∧ Hid (Below w3.heap.size w3 wr) ∧ Hid (∀ j, j < i → Mpd LZ (gN OU j)) ∧ OU.length - i < g)
      case atStart => exact ⟨0, rfl, by omega, OM0, XM0, fun j hj => by omega, by omega⟩
      case round =>
        obtain ⟨i, rfl, hi1, O, XB, HMP, hg⟩ := hrel
        have HG := hide hg
        clear hg OM0 XM0 d0 d1 d2 c0 c1 c2
        obtain ⟨⟨d0, d1, d2⟩, BR, kx, ko, kl⟩ := HC2.out wr XB.out
        have HBR := hide BR
        by_cases hi : i < OU.length
        · have hi' : (i : Int) < (OU.length : Int) := by omega
          obtain ⟨ob, off, hoa, _, co⟩ := ko.get hi
          subst hoa
          have hgo : OU[i] = gN OU i := (gN_lt hi).symm
          rw [hgo] at co
          have hlo : gN OU i ≤ 65535 := by rw [gN_lt hi]; exact HMM.out.lb _ (List.getElem_mem hi)
          by_cases hmd : Mpd LZ (gN OU i)
          · as_aux_lemma =>
            obtain ⟨hm1, hm2⟩ := hmd
            obtain ⟨lb, loff, hla, cl⟩ := kl.get' hm1
            subst hla
            have HLB := fun V => isLabel_any (LZ.getD (gN OU i) 0) V
            have hm1' : (gN OU i : Int) < (LZ.length : Int) := by omega
            have hm1n : ¬ (LZ.length : Int) ≤ (gN OU i : Int) := by omega
            have hm1nn : ¬ LZ.length ≤ gN OU i := by omega
            have hdl : decide (Lab (LZ.getD (gN OU i) 0)) = true := decide_eq_true hm2
            rw [hdl] at HLB
            have HLB := hide HLB
            have HMN : Hid (∀ j, j < i + 1 → Mpd LZ (gN OU j)) := fun j hj => by
              by_cases e : j = i
              · rw [e]; exact ⟨hm1, hm2⟩
              · exact HMP.out j (by omega)
            have hO0l : i < O0.length := by omega
            obtain ⟨x, hx⟩ : ∃ x : Nat, Hid (x = (LZ.getD (gN OU i) 0).toNat) := ⟨_, rfl⟩
            have hxx : LZ.getD (gN OU i) 0 = (x : Int) := by rw [hx.out]; unfold Lab at hm2; omega
            have hO0i : O0[i] = x := by
              have h9 : gN O0 i = O0[i] := gN_lt hO0l
              rw [← h9, hO0.out, hx.out]
              unfold mpO
              rw [gN_lt (by rw [List.length_map]; exact hi), List.getElem_map, gN_lt hi]
            have e3 : (O0.take i ++ List.replicate (OU.length - i) 0).set i O0[i] = O0.take (i + 1) ++ List.replicate (OU.length - (i + 1)) 0 := by
              rw [List.set_append_right _ _ (by simp; omega), List.take_succ_eq_append_getElem hO0l, List.append_assoc]
              congr 1
              obtain ⟨q, hq⟩ : ∃ q, OU.length - i = q + 1 := ⟨OU.length - i - 1, by omega⟩
              rw [hq, show OU.length - (i + 1) = q by omega, show i - (O0.take i).length = 0 by simp; omega]
              rfl
            have hll2 : (O0.take i ++ List.replicate (OU.length - i) 0).length = OU.length := by simp; omega
            obtain ⟨⟨u1, q1⟩, q2⟩ := slotN O.out (i := i) (by omega)
            obtain ⟨o3, k3⟩ := O.out.store i x
            rw [← hO0i, e3] at o3
            rw [hO0i] at o3
            have ON := hide o3
            have X5 := hide (XB.out.trans (k3.below XB.out.size (fun k hk => by omega)))
            rw [hxx] at cl HLB
            have HLC : Hid (∀ V, Calls Tryz.prog 64 #[.int .i64 (x : Int)] V fun e w' => e = .returned (.bool true) ∧ w' = V) := HLB
            clear HLB
            clear e3 hO0i hll2 o3 k3 hdl hxx hm2 kx ko kl BR d0 d1 d2
            generalize gN OU i = o at *
            go_wp2_with (go_at_call 64; refine (HLC.out _).mono ?_; rintro e w5 ⟨rfl, hw5⟩; have hw5 := hw5.symm; subst hw5)
            go_roundg (OU.length - (i + 1) + 1)
            case measure => have := HG.out; omega
            case rel => exact ⟨i + 1, by first | rfl | go_num | (congr 1; omega), by omega, ON, X5, HMN, by omega⟩
          · as_aux_lemma =>
            have HEX : Hid (∃ i, i < OU.length ∧ ¬ Mpd LZ (gN OU i)) := ⟨i, hi, hmd⟩
            obtain ⟨z0, z1, z2, z3⟩ := HNO.out wr (bt X3.out XB.out (Nat.le_refl _))
            have X6 := hide z3
            have HRES : Hid (MpP bs (zN NX) (zN OU) LZ w.heap.size (.returned (.tuple #[auV [] none 0 0 none 0 0, .int .i64 1])) (wr.setRow (w.heap.size + 1) #[.string ⟨#[]⟩, .slice none 0 0, .slice none 0 0])) := .inr ⟨NX, OU, rfl, rfl, HMM.out, HRT.out, h256, .inl ⟨HEX.out, rfl⟩⟩
            by_cases hm1 : gN OU i < LZ.length
            · obtain ⟨lb, loff, hla, cl⟩ := kl.get' hm1
              subst hla
              have hm1' : (gN OU i : Int) < (LZ.length : Int) := by omega
              have hm1n : ¬ (LZ.length : Int) ≤ (gN OU i : Int) := by omega
              have hm1nn : ¬ LZ.length ≤ gN OU i := by omega
              have HLB := fun V => isLabel_any (LZ.getD (gN OU i) 0) V
              have hdl : decide (Lab (LZ.getD (gN OU i) 0)) = false := decide_eq_false (fun h => hmd ⟨hm1, h⟩)
              rw [hdl] at HLB
              have HLB := hide HLB
              clear hmd hdl z3 kx ko kl BR d0 d1 d2
              generalize LZ.getD (gN OU i) 0 = lv at *
              generalize gN OU i = o at *
              go_wp2_with (first
                | (go_at_call 64; refine (HLB.out _).mono ?_; rintro e w5 ⟨rfl, hw5⟩; have hw5 := hw5.symm; subst hw5)
                | (refine wpList_store_row rfl 24 (.tmp 4) (.tmp 37) rfl (w.heap.size + 1) #[.string ⟨#[]⟩, .slice none 0 0, .slice none 0 0] rfl rfl 24 #[.string ⟨#[]⟩, .slice none 0 0, .slice none 0 0] HBR.out HI.out rfl A0.out ?_))
              refine bodyPost_ret (by simp [results, Tryz.results25, go_sem, z0, z1, z2]; try rfl) rfl ?_
              exact ⟨HRES.out, X6.out⟩
            · have hm1n : (LZ.length : Int) ≤ (gN OU i : Int) := by omega
              have hm1nn : LZ.length ≤ gN OU i := by omega
              clear hmd z3 kx ko kl BR d0 d1 d2
              generalize gN OU i = o at *
              go_wp2_with (refine wpList_store_row rfl 24 (.tmp 4) (.tmp 37) rfl (w.heap.size + 1) #[.string ⟨#[]⟩, .slice none 0 0, .slice none 0 0] rfl rfl 24 #[.string ⟨#[]⟩, .slice none 0 0, .slice none 0 0] HBR.out HI.out rfl A0.out ?_)
              refine bodyPost_ret (by simp [results, Tryz.results25, go_sem, z0, z1, z2]; try rfl) rfl ?_
              exact ⟨HRES.out, X6.out⟩
        · as_aux_lemma =>
          have hi' : ¬ (i : Int) < (OU.length : Int) := by omega
          obtain rfl : i = OU.length := by omega
          have o4 : OwnN wr w3.heap.size (.slice (some ⟨w3.heap.size, 0, none⟩) OU.length OU.length) O0 := by have := O.out; rwa [Nat.sub_self, List.replicate_zero, List.append_nil, List.take_of_length_le (by omega)] at this
          have HOF : Hid (Calls Tryz.prog 34 #[.agg #[.string ⟨bs.toArray⟩, .slice na NX.length nc, .slice (some ⟨w3.heap.size, 0, none⟩) OU.length OU.length]] wr fun e w' => OneP bs NX O0 wr.heap.size e w' ∧ Below wr.heap.size wr w') := by
            have hM := mp_may HMM.out HMP.out
            rw [← hO0.out] at hM
            have := oneForm_any bs na (some ⟨w3.heap.size, 0, none⟩) nc OU.length NX O0 wr hM kx (OwnN.nat o4)
            rw [hOl] at this
            exact this
          have HNW : Hid (w.heap.size + 1 < w3.heap.size) := lt_of_block HB3.out
          clear o4 kx ko kl BR
          go_wp2_with (fail)
          refine HOF.out.mono ?_
          rintro e w5 ⟨hP, x5⟩
          obtain ⟨bs', ya, yn, yc, oa', on, oc', mm, rfl⟩ := hP.shape
          have X5 := hide (bt XB.out x5 (Nat.le_refl _))
          obtain ⟨_, B4, _⟩ := HC2.out w5 X5.out
          have A4 : Hid ((#[.string ⟨bs'.toArray⟩, .slice ya yn yc, .slice oa' on oc'] : Array Value).all (·.oneCell') = true) := by unfold Hid; simp [Value.oneCell']
          have HB4 := hide B4
          have B6 := setRow_heap w5 (w.heap.size + 1) _ #[.string ⟨bs'.toArray⟩, .slice ya yn yc, .slice oa' on oc'] 24 (0, 0) B4
          have k6 : Kept (fun k => k = w.heap.size + 1) w5 (w5.setRow (w.heap.size + 1) #[.string ⟨bs'.toArray⟩, .slice ya yn yc, .slice oa' on oc']) := kept_row
          have x9 := bt HX2.out (bt X3.out X5.out (Nat.le_refl _)) (Nat.le_refl _)
          have X9 := hide (x9.trans (k6.below x9.size (fun b hb => by omega)))
          have hs3 := XB.out.size
          have hsw := HNW.out
          have HP6 := hide (hP.kept k6 (by omega) (show w.heap.size ≤ wr.heap.size by omega))
          have z0 := cell_of_row _ _ 0 _ _ _ B6
          have z1 := cell_of_row _ _ 1 _ _ _ B6
          have z2 := cell_of_row _ _ 2 _ _ _ B6
          clear B6 k6 B4 x9 x5 hP HOF
          go_wp2_with (refine wpList_store_row rfl 24 (.tmp 4) (.tmp 53) rfl (w.heap.size + 1) #[.string ⟨bs'.toArray⟩, .slice ya yn yc, .slice oa' on oc'] rfl rfl 24 #[.string ⟨#[]⟩, .slice none 0 0, .slice none 0 0] HB4.out HI.out rfl A4.out ?_)
          refine bodyPost_ret (by simp [results, Tryz.results25, go_sem, z0, z1, z2]; try rfl) rfl ?_
          refine ⟨.inr ⟨NX, OU, rfl, rfl, HMM.out, HRT.out, h256, .inr ⟨HMP.out, ?_⟩⟩, X9.out⟩
          have := HP6.out
          rw [hO0.out] at this
          exact this
end Go.Proofs.YtdgoilkgplnhfaaGreat
/-
  The document's Same, of two automata that read alike: true. Condition: lists no longer than a process can hold.
-/
namespace Go.Proofs.YtdgoilkgplnhfaaGreat
open Go.RowKit Go.Lib

set_option maxRecDepth 100000 in
set_option maxHeartbeats 4000000 in
theorem same_any (bs : By) (xA oA xB oB : Option Addr) (xAc oAc xBc oBc : Nat) (NX OU : List Nat) (w : World) (hn : NX.length ≤ 140737488351232) (ho : OU.length ≤ 140737488351232) (h1 : NAt w xA NX) (h2 : NAt w oA OU) (h3 : NAt w xB NX) (h4 : NAt w oB OU) :
    Calls Tryz.prog 14 #[.agg #[.string ⟨bs.toArray⟩, .slice xA NX.length xAc, .slice oA OU.length oAc], .agg #[.string ⟨bs.toArray⟩, .slice xB NX.length xBc, .slice oB OU.length oBc]] w fun e w' => e = .returned (.bool true) ∧ Below w.heap.size w w' := by
  obtain ⟨w2, hw2⟩ : ∃ w2, w2 = (w.alloc (.cells #[.string ⟨bs.toArray⟩, .slice xA NX.length xAc, .slice oA OU.length oAc] 24)).alloc (.cells #[.string ⟨bs.toArray⟩, .slice xB NX.length xBc, .slice oB OU.length oBc] 24) := ⟨_, rfl⟩
  obtain ⟨X2, B1, B2, hs2⟩ := two_alloc' w #[.string ⟨bs.toArray⟩, .slice xA NX.length xAc, .slice oA OU.length oAc] #[.string ⟨bs.toArray⟩, .slice xB NX.length xBc, .slice oB OU.length oBc] 24 24
  rw [← hw2] at X2 B1 B2 hs2
  have HC : Hid (∀ V, Below w2.heap.size w2 V → (V.cell? ⟨w.heap.size, 0, none⟩ = some (.string ⟨bs.toArray⟩) ∧ V.cell? ⟨w.heap.size, 1, none⟩ = some (.slice xA NX.length xAc) ∧ V.cell? ⟨w.heap.size, 2, none⟩ = some (.slice oA OU.length oAc)) ∧ (V.cell? ⟨w.heap.size + 1, 0, none⟩ = some (.string ⟨bs.toArray⟩) ∧ V.cell? ⟨w.heap.size + 1, 1, none⟩ = some (.slice xB NX.length xBc) ∧ V.cell? ⟨w.heap.size + 1, 2, none⟩ = some (.slice oB OU.length oBc)) ∧ NAt V xA NX ∧ NAt V oA OU ∧ NAt V xB NX ∧ NAt V oB OU) := fun V x => by
    have Bv := (x.block _ (lt_of_block B1)).trans B1
    have Bw := (x.block _ (lt_of_block B2)).trans B2
    have y := bt X2 x (Nat.le_refl _)
    exact ⟨⟨by rw [cell_of_row _ _ _ _ _ _ Bv]; rfl, by rw [cell_of_row _ _ _ _ _ _ Bv]; rfl, by rw [cell_of_row _ _ _ _ _ _ Bv]; rfl⟩, ⟨by rw [cell_of_row _ _ _ _ _ _ Bw]; rfl, by rw [cell_of_row _ _ _ _ _ _ Bw]; rfl, by rw [cell_of_row _ _ _ _ _ _ Bw]; rfl⟩, h1.below y, h2.below y, h3.below y, h4.below y⟩
  have HX2 := hide X2
  obtain ⟨⟨c0, c1, c2⟩, ⟨d0, d1, d2⟩, _⟩ := HC.out w2 (Below.refl _ _)
  clear X2 B1 B2 hs2 h1 h2 h3 h4
  go_enter Tryz.func14, Tryz.ntmps14
  go_upto_region 1 with fail
  rw [← hw2]
  clear hw2
  go_wp2
  go_loopg [5] (NX.length + 1) (fun g x wr => ∃ k : Nat, x = .int .i64 (k : Nat) ∧ k ≤ NX.length ∧ Hid (Below w2.heap.size w2 wr) ∧ NX.length - k < g)
  case atStart => exact ⟨0, rfl, by omega, Below.refl _ _, by omega⟩
  case round =>
    obtain ⟨k, rfl, hk1, X, hg⟩ := hrel
    have HG := hide hg
    clear hg c0 c1 c2 d0 d1 d2
    obtain ⟨⟨c0, c1, c2⟩, ⟨d0, d1, d2⟩, kxA, koA, kxB, koB⟩ := HC.out wr X.out
    by_cases hk : k < NX.length
    · have hk' : (k : Int) < (NX.length : Int) := by omega
      obtain ⟨pa, oa, rfl, _, ca⟩ := kxA.get hk
      obtain ⟨pb, ob, rfl, _, cb⟩ := kxB.get hk
      rw [← gN_lt hk] at ca cb
      generalize gN NX k = x at ca cb
      clear kxA kxB koA koB
      have bxy : ((x : Int) != (x : Int)) = false := by simp
      go_wp2
      go_quiet (fail)
      have X6 : Hid (Below w2.heap.size w2 (wr.drewN nq)) := X.out.trans ⟨rfl, rfl, rfl, Nat.le_refl _, fun _ _ => rfl⟩
      go_wp2
      go_roundg (NX.length - (k + 1) + 1)
      case measure => have := HG.out; omega
      case rel => exact ⟨k + 1, by first | rfl | go_num | (congr 1; omega), by omega, X6, by omega⟩
    · have hk' : ¬ (k : Int) < (NX.length : Int) := by omega
      clear kxA kxB koA koB
      go_wp2
      go_loopg [6] (OU.length + 1) (fun g x wr => ∃ k : Nat, x = .int .i64 (k : Nat) ∧ k ≤ OU.length ∧ Hid (Below w2.heap.size w2 wr) ∧ OU.length - k < g)
      case atStart => exact ⟨0, rfl, by omega, X, by omega⟩
      case round =>
        clear hk' hk hk1
        obtain ⟨k, rfl, hk1, X', hg⟩ := hrel
        have HG' := hide hg
        clear hg c0 c1 c2 d0 d1 d2
        obtain ⟨⟨c0, c1, c2⟩, ⟨d0, d1, d2⟩, kxA, koA, kxB, koB⟩ := HC.out _ X'.out
        by_cases hk : k < OU.length
        · have hk' : (k : Int) < (OU.length : Int) := by omega
          obtain ⟨pa, oa, rfl, _, ca⟩ := koA.get hk
          obtain ⟨pb, ob, rfl, _, cb⟩ := koB.get hk
          rw [← gN_lt hk] at ca cb
          generalize gN OU k = x at ca cb
          clear kxA kxB koA koB
          have bxy : ((x : Int) != (x : Int)) = false := by simp
          go_wp2
          go_quiet (fail)
          have X6 : Hid (Below w2.heap.size w2 (World.drewN _ nq)) := X'.out.trans ⟨rfl, rfl, rfl, Nat.le_refl _, fun _ _ => rfl⟩
          go_wp2
          go_roundg (OU.length - (k + 1) + 1)
          case measure => have := HG'.out; omega
          case rel => exact ⟨k + 1, by first | rfl | go_num | (congr 1; omega), by omega, X6, by omega⟩
        · have hk' : ¬ (k : Int) < (OU.length : Int) := by omega
          have XW := hide (bt HX2.out X'.out (Nat.le_refl _))
          clear kxA kxB koA koB
          go_wp2
          go_ret
          exact ⟨rfl, XW.out⟩
end Go.Proofs.YtdgoilkgplnhfaaGreat
/-
  What two joined automata tell: each pair has a least text, and the pairs lead back. The conditions are named.
-/
namespace Go.Proofs.YtdgoilkgplnhfaaGreat
open Go.RowKit Go.Lib

theorem DF.LT.len {D : DF} {s : Nat} {t : List Nat} (h : D.LT s t) : t.length ≤ s := by
  induction h with
  | zero => exact Nat.le_refl _
  | step hm _ _ ih =>
    have := hm.1
    simp
    omega
/-- Join's answer, of two in their one form. -/
structure JoR (A B : DF) (w : World) (bs : By) (xa oa : Option Addr) (NX OU : List Nat) (g c : Nat) (P : List Spn) : Prop where
  at' : AtA w bs xa oa NX OU
  q : ∃ base, OwnQ w base (.slice (some ⟨g, 0, none⟩) P.length c) P
  up : P.Pairwise PLt
  rch : ∀ x ∈ P, ∃ t, Txt t ∧ x = (A.lab 0 t, B.lab 0 t)
  lab : ∀ t, Txt t → ∃ i : Nat, (dfA bs NX OU).lab 0 t = (i : Int) ∧ i < P.length ∧ gQ P i = (A.lab 0 t, B.lab 0 t)
theorem JoP.yes {A B : DF} {base : Nat} {e : Ending} {w : World} (h : JoP A B base e w) : e = .returned (.tuple #[.agg #[.string ⟨#[]⟩, .slice none 0 0, .slice none 0 0], .slice none 0 0, .int .i64 2]) ∨ ∃ (bs : By) (xa : Option Addr) (xc : Nat) (oa : Option Addr) (oc : Nat) (NX OU : List Nat) (g c : Nat) (P : List Spn), e = .returned (.tuple #[.agg #[.string ⟨bs.toArray⟩, .slice xa NX.length xc, .slice oa OU.length oc], .slice (some ⟨g, 0, none⟩) P.length c, .int .i64 0]) ∧ JoR A B w bs xa oa NX OU g c P := by
  rcases h with ⟨_, e⟩ | ⟨bs, xa, xn, xc, oa, on, oc, NX, OU, g, c, P, rfl, h1, h2, h3, h4, h5, h6, h7, h8⟩
  · exact .inl e
  · obtain rfl : xn = NX.length := h1.shape (j := 0) (by simp) rfl
    obtain rfl : on = OU.length := h1.shape (j := 1) (by simp) rfl
    exact .inr ⟨bs, xa, xc, oa, oc, NX, OU, g, c, P, rfl, ⟨⟨h3, h4, h5, OwnN.nat (h1.own 0 (by simp)), OwnN.nat (h1.own 1 (by simp))⟩, ⟨_, h2⟩, h6, h7, h8⟩⟩
section
variable {A B : DF} {w w' : World} {bs : By} {xa oa : Option Addr} {NX OU : List Nat} {g c : Nat} {P : List Spn}
theorem JoR.below (h : JoR A B w bs xa oa NX OU g c P) (x : Below w.heap.size w w') : JoR A B w' bs xa oa NX OU g c P := by
  obtain ⟨b, q⟩ := h.q
  exact ⟨h.at'.below x, ⟨b, own_below q x⟩, h.up, h.rch, h.lab⟩
theorem JoR.text (h : JoR A B w bs xa oa NX OU g c P) {n : Nat} (hn : n < P.length) : ∃ t, Txt t ∧ (dfA bs NX OU).lab 0 t = (n : Int) ∧ gQ P n = (A.lab 0 t, B.lab 0 t) := by
  obtain ⟨t, h1, h2⟩ := h.rch (gQ P n) (by rw [gQ_lt hn]; exact List.getElem_mem hn)
  obtain ⟨i, h3, h4, h5⟩ := h.lab t h1
  have : i = n := plt_inj h.up h4 hn (by rw [h5, h2])
  subst this
  exact ⟨t, h1, h3, h2⟩
theorem JoR.short (h : JoR A B w bs xa oa NX OU g c P) {n : Nat} (hn : n < P.length) {s : By} {is : Bool} (hs : ShR bs NX OU (n : Int) s is) : is = true ∧ (dfA bs NX OU).lab 0 (ntL s) = (n : Int) ∧ s.length ≤ 140737488351232 := by
  obtain ⟨t, h1, h2, _⟩ := h.text hn
  have hR := h.at'.rt
  rcases hs with ⟨h3, st, u, k1, k2, k3, k4, rfl⟩ | ⟨_, _, k⟩
  · obtain ⟨r1, r2⟩ := k4.run
    refine ⟨h3, ?_, ?_⟩
    · rw [txt_nt r1]
      unfold DF.lab
      rw [r2]; exact k2
    · have h5 := k4.len
      have h6 := h.at'.n
      unfold btOf
      rw [List.length_map]
      omega
  · exact absurd h2 (k _ (hR.toOk.run hR.n0 h1))
theorem JoR.few (h : JoR A B w bs xa oa NX OU g c P) : P.length ≤ OU.length := by
  have hx : ∀ n, ∃ s, n < P.length → s < OU.length ∧ (dfA bs NX OU).ou s = (n : Int) := fun n => by
    by_cases hn : n < P.length
    · obtain ⟨t, h1, h2, _⟩ := h.text hn
      exact ⟨_, fun _ => ⟨h.at'.rt.toOk.run h.at'.rt.n0 h1, h2⟩⟩
    · exact ⟨0, fun h => absurd h hn⟩
  obtain ⟨f, hf⟩ : ∃ f : Nat → Nat, ∀ n, n < P.length → f n < OU.length ∧ (dfA bs NX OU).ou (f n) = (n : Int) := ⟨fun n => (hx n).choose, fun n => (hx n).choose_spec⟩
  refine pigeon OU.length P.length f (fun i hi => (hf i hi).1) (fun i hi j hj e => ?_)
  have h1 := (hf i hi).2
  rw [e, (hf j hj).2] at h1
  omega
theorem JoR.out (h : JoR A B w bs xa oa NX OU g c P) {i : Nat} (hi : i < OU.length) : ∃ t, Txt t ∧ gN OU i < P.length ∧ gQ P (gN OU i) = (A.lab 0 t, B.lab 0 t) := by
  obtain ⟨t, h1, h2⟩ := h.at'.rt.reach i hi
  obtain ⟨j, h3, h4, h5⟩ := h.lab t h1
  have e : ((gN OU i : Nat) : Int) = (j : Int) := by
    rw [← h3]
    unfold DF.lab
    rw [h2]; rfl
  have e : gN OU i = j := by omega
  rw [e]
  exact ⟨t, h1, h4, h5⟩
end
theorem lab_ok {bs : By} {NX OU : List Nat} (h : MayA bs NX OU) (hr : (dfA bs NX OU).Right) {t : List Nat} (ht : Txt t) : Lab ((dfA bs NX OU).lab 0 t) := by
  have h1 := hr.toOk.run hr.n0 ht
  have h1 : (dfA bs NX OU).run 0 t < OU.length := h1
  have h2 := h.lb _ (List.getElem_mem h1)
  have e : (dfA bs NX OU).lab 0 t = ((gN OU ((dfA bs NX OU).run 0 t) : Nat) : Int) := rfl
  rw [e, gN_lt h1]
  unfold Lab
  omega
theorem map_snd {P : List Spn} {f : Spn → Int} {i : Nat} (h : i < P.length) : (P.map f).getD i 0 = f (gQ P i) := by
  rw [gQ_lt h]
  simp [List.getD_eq_getElem?_getD, h]
theorem run_len {bs : By} {NX OU OV : List Nat} (h : OV.length = OU.length) : ∀ (t : List Nat) (s : Nat), (dfA bs NX OV).run s t = (dfA bs NX OU).run s t
  | [], _ => rfl
  | b :: t, s => by
    have e : (dfA bs NX OV).step s b = (dfA bs NX OU).step s b := by
      show gN NX (s * (NX.length / OV.length) + _) = gN NX (s * (NX.length / OU.length) + _)
      rw [h]
      rfl
    show (dfA bs NX OV).run ((dfA bs NX OV).step s b) t = (dfA bs NX OU).run ((dfA bs NX OU).step s b) t
    rw [e]
    exact run_len h t _
/-- Map of one side of the pairs: that side again. -/
theorem JoR.map {A B : DF} {w w' : World} {bs bs1 : By} {xa oa : Option Addr} {NX OU NX1 OU1 : List Nat} {g c base : Nat} {P : List Spn} {e : Ending} (h : JoR A B w bs xa oa NX OU g c P) (f : Spn → Int) (hf : ∀ t, Txt t → f (A.lab 0 t, B.lab 0 t) = (dfA bs1 NX1 OU1).lab 0 t) (hM1 : MayA bs1 NX1 OU1) (hR1 : (dfA bs1 NX1 OU1).Right) (hn1 : OU1.length ≤ 256) (hm : MpP bs (zN NX) (zN OU) (P.map f) base e w') :
    ∃ ya yc za zc, e = .returned (.tuple #[.agg #[.string ⟨bs1.toArray⟩, .slice ya NX1.length yc, .slice za OU1.length zc], .int .i64 0]) ∧ NAt w' ya NX1 ∧ NAt w' za OU1 := by
  have hall : ∀ i, i < OU.length → Mpd (P.map f) (gN OU i) := fun i hi => by
    obtain ⟨t, h1, h2, h3⟩ := h.out hi
    refine ⟨by rw [List.length_map]; exact h2, ?_⟩
    rw [map_snd h2, h3, hf t h1]
    exact lab_ok hM1 hR1 h1
  rcases hm with ⟨hn, _⟩ | ⟨NX2, OU2, e1, e2, hM2, hR2, h256, hm⟩
  · exact absurd h.at'.rz hn
  · obtain rfl := zN_inj e1
    obtain rfl := zN_inj e2
    have hlab : ∀ t, Txt t → (dfA bs NX (mpO (P.map f) OU)).lab 0 t = (dfA bs1 NX1 OU1).lab 0 t := fun t ht => by
      obtain ⟨j, h3, h4, h5⟩ := h.lab t ht
      have hr := h.at'.rt.toOk.run h.at'.rt.n0 ht
      have hr : (dfA bs NX OU).run 0 t < OU.length := hr
      have e5 : (dfA bs NX OU).lab 0 t = ((gN OU ((dfA bs NX OU).run 0 t) : Nat) : Int) := rfl
      have e6 : gN OU ((dfA bs NX OU).run 0 t) = j := by rw [h3] at e5; omega
      show ((gN (mpO (P.map f) OU) ((dfA bs NX (mpO (P.map f) OU)).run 0 t) : Nat) : Int) = _
      rw [run_len (mpO_len _ _)]
      have hl := lab_ok hM1 hR1 ht
      have e7 : gN (mpO (P.map f) OU) ((dfA bs NX OU).run 0 t) = ((P.map f).getD j 0).toNat := by
        rw [gN_lt (by rw [mpO_len]; exact hr), ← e6, gN_lt hr]
        unfold mpO
        rw [List.getElem_map]
      rw [e7, map_snd h4, h5, hf t ht]
      unfold Lab at hl
      omega
    rcases hm with ⟨⟨i, hi, hb⟩, _⟩ | ⟨_, hO⟩
    · exact absurd (hall i hi) hb
    · rcases hO with ⟨bs', ya, yn, yc, za, zn, zc, rfl, NX', OU', hd⟩ | ⟨_, hno⟩
      · obtain ⟨rfl, rfl, rfl⟩ := one_lists hM1 hd.may hR1 hd.rt (fun t ht => by rw [hd.lb t ht, hlab t ht])
        obtain rfl : yn = NX1.length := hd.rws.shape (j := 0) (by simp) rfl
        obtain rfl : zn = OU1.length := hd.rws.shape (j := 1) (by simp) rfl
        exact ⟨ya, yc, za, zc, rfl, OwnN.nat (hd.rws.own 0 (by simp)), OwnN.nat (hd.rws.own 1 (by simp))⟩
      · have h1 := hno (dfA bs1 NX1 OU1) hM1.ok (fun t ht => (hlab t ht).symm)
        have h2 : (dfA bs1 NX1 OU1).n = OU1.length := rfl
        omega
end Go.Proofs.YtdgoilkgplnhfaaGreat
