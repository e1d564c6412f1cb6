/-
  The code's oneForm by its contract. Condition: the automaton may be.
-/
import Derived.Test.YtdgoilkgplnhfaaGreatC26
set_option maxRecDepth 100000
set_option maxHeartbeats 16000000
namespace Go.Proofs.YtdgoilkgplnhfaaGreat
open Go.RowKit Go.Lib
def NoForm (D : DF) : Prop := ∀ E : DF, E.Ok → (∀ t, Txt t → E.lab 0 t = D.lab 0 t) → 257 ≤ E.n
structure OneD (bs : By) (NX OU : List Nat) (base : Nat) (bs' : By) (xv ov : Value) (NX' OU' : List Nat) (w : World) : Prop where
 rws : Rws w base [(xv, NX'), (ov, OU')]
 rt : (dfA bs' NX' OU').Right
 lb : ∀ t, Txt t → (dfA bs' NX' OU').lab 0 t = (dfA bs NX OU).lab 0 t
 may : MayA bs' NX' OU'
 n : OU'.length ≤ 256
def OneP (bs : By) (NX OU : List Nat) (base : Nat) (e : Ending) (w : World) : Prop :=
 (∃ bs' xa xn xc oa on oc, e = .returned (.tuple #[auV bs' xa xn xc oa on oc, .int .i64 0]) ∧ ∃ NX' OU', OneD bs NX OU base bs' (.slice xa xn xc) (.slice oa on oc) NX' OU' w) ∨
 (e = .returned (.tuple #[auV [] none 0 0 none 0 0, .int .i64 2]) ∧ NoForm (dfA bs NX OU))
theorem OwnN.nat {w : World} {base n cap : Nat} {ao : Option Addr} {L : List Nat} (h : OwnN w base (.slice ao n cap) L) : NAt w ao L := by
 obtain ⟨a, c, e, k⟩ := h.at
 injection e with e _ _
 rw [e]; exact k
theorem Rws.shape {w : World} {base : Nat} {R : List RN} (h : Rws w base R) {j : Nat} (hj : j < R.length) {xa : Option Addr} {xn xc : Nat} {L : List Nat} (e : R[j] = (.slice xa xn xc, L)) : xn = L.length := by
 have := h.own j hj
 rw [e] at this
 obtain ⟨a, c, e2⟩ := OwnN.shape this
 injection e2
theorem noForm_of {D D1 : DF} (hl : ∀ t, Txt t → D1.lab 0 t = D.lab 0 t) (hm : Many D1 257) (hr : ∀ s, s < D1.n → ∃ t, Txt t ∧ D1.run 0 t = s) : NoForm D := fun E hE he =>
 hm.le hr hE (fun t ht => by rw [hl t ht, he t ht])
theorem oneForm_any (bs : By) (na oa : Option Addr) (nc oc : Nat) (NX OU : List Nat) (w : World) (hM : MayA bs NX OU) (hnx : NAt w na NX) (hou : NAt w oa OU) :
 Calls Tryz.prog 34 #[auV bs na NX.length nc oa OU.length oc] w fun e w' => OneP bs NX OU w.heap.size e w' ∧ Below w.heap.size w w' := by
 obtain ⟨w2, hw2⟩ : ∃ w2, w2 = (w.alloc (.cells #[.string ⟨bs.toArray⟩, .slice na NX.length nc, .slice oa OU.length oc] 24)).alloc (.cells #[.string ⟨#[]⟩, .slice none 0 0, .slice none 0 0] 24) := ⟨_, rfl⟩
 obtain ⟨X2, B1, B2, hs2⟩ := two_alloc' w #[.string ⟨bs.toArray⟩, .slice na NX.length nc, .slice oa OU.length oc] #[.string ⟨#[]⟩, .slice none 0 0, .slice none 0 0] 24 24
 rw [← hw2] at X2 B1 B2 hs2
 have c0 : w2.cell? ⟨w.heap.size, 0, none⟩ = some (.string ⟨bs.toArray⟩) := by rw [cell_of_row _ _ _ _ _ _ B1]; rfl
 have c1 : w2.cell? ⟨w.heap.size, 1, none⟩ = some (.slice na NX.length nc) := by rw [cell_of_row _ _ _ _ _ _ B1]; rfl
 have c2 : w2.cell? ⟨w.heap.size, 2, none⟩ = some (.slice oa OU.length oc) := by rw [cell_of_row _ _ _ _ _ _ B1]; rfl
 have HRC := hide (reached_any bs na oa nc oc NX OU w2 hM (hnx.below X2) (hou.below X2))
 have HI : Hid ((Tryz.prog.info? 24).map (·.size) = some 3) := by unfold Hid; kernel_rfl
 have HX2 := hide X2
 have HB1 := hide B1
 have HB2 := hide B2
 have HS2 := hide hs2
 have HMA := hide hM
 clear X2 B1 B2 hs2 hM hnx hou
 unfold auV at HRC ⊢
 go_enter Tryz.func34, Tryz.ntmps34
 go_upto_region 1 with fail
 rw [← hw2]
 clear hw2
 go_wp2_with (fail)
 refine HRC.out.mono ?_
 rintro e w3 ⟨⟨col, xa, xn, xc, oa1, on1, oc1, rfl, fst, St, X, hd⟩, x3⟩
 obtain rfl : xn = X.length := hd.rws.shape (j := 0) (by simp) rfl
 obtain ⟨O1, hO1⟩ : ∃ O1, O1 = St.map (gN OU) := ⟨_, rfl⟩
 have hr := hd.rws
 rw [← hO1] at hr
 obtain rfl : on1 = O1.length := hr.shape (j := 1) (by simp) rfl
 have HO1 := hide hO1
 clear hO1
 have B3 := (x3.block _ (lt_of_block HB1.out)).trans HB1.out
 have A1 : Hid ((#[.string ⟨(btOf col).toArray⟩, .slice xa X.length xc, .slice oa1 O1.length oc1] : Array Value).all (·.oneCell') = true) := by unfold Hid; simp [Value.oneCell']
 have HB3 := hide B3
 have B4 := setRow_heap w3 w.heap.size _ #[.string ⟨(btOf col).toArray⟩, .slice xa X.length xc, .slice oa1 O1.length oc1] 24 (0, 0) B3
 have k4 : Kept (fun k => k = w.heap.size) w3 (w3.setRow w.heap.size #[.string ⟨(btOf col).toArray⟩, .slice xa X.length xc, .slice oa1 O1.length oc1]) := kept_row
 clear HRC c0 c1 c2 B3
 go_upto_region 2 with (refine wpList_store_row rfl 24 (.tmp 1) (.tmp 7) rfl w.heap.size #[.string ⟨(btOf col).toArray⟩, .slice xa X.length xc, .slice oa1 O1.length oc1] rfl rfl 24 #[.string ⟨bs.toArray⟩, .slice na NX.length nc, .slice oa OU.length oc] HB3.out HI.out rfl A1.out ?_)
 have X4 : Hid (Below w.heap.size w (w3.setRow w.heap.size #[.string ⟨(btOf col).toArray⟩, .slice xa X.length xc, .slice oa1 O1.length oc1])) := (bt HX2.out x3 (Nat.le_refl _)).trans (k4.below (by have := HS2.out; have := x3.size; omega) (fun b hb => by omega))
 have R4 : Hid (Rws (w3.setRow w.heap.size #[.string ⟨(btOf col).toArray⟩, .slice xa X.length xc, .slice oa1 O1.length oc1]) w2.heap.size [(.slice xa X.length xc, X), (.slice oa1 O1.length oc1, O1)]) := hr.kept k4 (fun j hj b hb e => by
  have := (World.ownsRow.lt (show w3.ownsRow w2.heap.size 3 1 _ _ (nCells _) from hr.own j hj) b hb).1
  have := HS2.out
  omega)
 have BR4 : Hid ((w3.setRow w.heap.size #[.string ⟨(btOf col).toArray⟩, .slice xa X.length xc, .slice oa1 O1.length oc1]).heap[w.heap.size + 1]? = some (.cells #[.string ⟨#[]⟩, .slice none 0 0, .slice none 0 0] 24 (0, 0))) := (k4.block _ (Nat.lt_of_lt_of_le (lt_of_block HB2.out) x3.size) (by omega)).trans ((x3.block _ (lt_of_block HB2.out)).trans HB2.out)
 have HD := hide hd
 have HB4 := hide B4
 have S4 : Hid (w2.heap.size ≤ (w3.setRow w.heap.size #[.string ⟨(btOf col).toArray⟩, .slice xa X.length xc, .slice oa1 O1.length oc1]).heap.size) := Nat.le_trans x3.size k4.size
 clear hd hr x3 k4 B4 HB3 A1
 generalize w3.setRow w.heap.size #[.string ⟨(btOf col).toArray⟩, .slice xa X.length xc, .slice oa1 O1.length oc1] = w4 at *
 have HOL : Hid (O1.length = St.length) := by unfold Hid; rw [HO1.out, List.length_map]
 obtain ⟨hpre, hlab⟩ := HD.out.rc.done HD.out.nf
 have HLB := hide hlab
 have hn0 : 0 < O1.length := by rw [HOL.out]; exact hpre.toOk.n0
 have hn1 : O1.length ≤ 65536 := by have := HD.out.sl; have := HMA.out.n1; have := HOL.out; omega
 have hXl : Hid (X.length = O1.length * fst.length) := by unfold Hid; rw [HOL.out]; have := HD.out.rc.len; omega
 have hW0 : 0 < fst.length := hpre.toOk.W0
 have hW1 : fst.length ≤ 256 := pigeon 256 fst.length (gN fst) HD.out.nf.fstlt (fun i h1 j h2 e => by rw [← HD.out.nf.numfst i h1, ← HD.out.nf.numfst j h2, e])
 have HNL : Hid (∀ t, t < X.length → gN X t < O1.length) := fun t ht => by
  have hm := Nat.mod_lt t hW0
  have hd := Nat.div_add_mod t fst.length
  have hq : t / fst.length < St.length := by rw [Nat.div_lt_iff_lt_mul hW0]; have := hXl.out; rw [HOL.out] at this; omega
  have := hpre.toOk.nx (t / fst.length) hq (t % fst.length) hm
  rw [HOL.out]
  show gN X t < St.length
  have e : (t / fst.length) * fst.length + t % fst.length = t := by rw [Nat.mul_comm]; exact hd
  have h9 : gN X ((t / fst.length) * fst.length + t % fst.length) < St.length := this
  rw [e] at h9
  exact h9
 have kx : NAt w4 xa X := (R4.out.own 0 (by simp)).nat
 have ko : NAt w4 oa1 O1 := (R4.out.own 1 (by simp)).nat
 have HNX := hide kx
 have HNO := hide ko
 have HAP := hide (apart_any (btOf col) xa oa1 xc oc1 fst.length X O1 (rcD (dfA bs NX OU) col fst St X) w4 hn0 hn1 hXl.out hW0 hW1 HNL.out kx ko hpre HOL.out.symm rfl (fun s c => rfl) (fun s hs => by
  show ((gN OU (gN St s) : Nat) : Int) = ((gN O1 s : Nat) : Int)
  rw [HO1.out, gN_map _ _ (by rw [← HOL.out]; exact hs)]))
 have d0 : w4.cell? ⟨w.heap.size, 0, none⟩ = some (.string ⟨(btOf col).toArray⟩) := by rw [cell_of_row _ _ _ _ _ _ HB4.out]; rfl
 have d1 : w4.cell? ⟨w.heap.size, 1, none⟩ = some (.slice xa X.length xc) := by rw [cell_of_row _ _ _ _ _ _ HB4.out]; rfl
 have d2 : w4.cell? ⟨w.heap.size, 2, none⟩ = some (.slice oa1 O1.length oc1) := by rw [cell_of_row _ _ _ _ _ _ HB4.out]; rfl
 unfold auV at HAP
 clear kx ko hlab
 go_wp2_with (fail)
 refine HAP.out.mono ?_
 rintro e w5 ⟨⟨pv, b, rfl, P, oP, hPl, hPb, hPt, hPf⟩, x5⟩
 obtain ⟨pa, pc, hpv, _⟩ := own_shape (show w5.ownsRow w4.heap.size 3 1 pv P.length (nCells P) from oP)
 subst hpv
 have HOP := hide oP
 have HPL := hide hPl
 have HPB := hide hPb
 have HPT := hide hPt
 have HPF := hide hPf
 have X5 := hide (bt X4.out x5 (Nat.le_refl _))
 have R5 := hide (R4.out.below x5)
 have HB5 := hide ((x5.block _ (lt_of_block HB4.out)).trans HB4.out)
 have BR5 := hide ((x5.block _ (lt_of_block BR4.out)).trans BR4.out)
 have S5 : Hid (w2.heap.size ≤ w5.heap.size) := Nat.le_trans S4.out x5.size
 have NX5 := hide (HNX.out.below x5)
 have NO5 := hide (HNO.out.below x5)
 clear HAP oP hPl hPb hPt hPf d0 d1 d2 x5 HNX HNO R4 HB4 BR4 X4
 have d0 : w5.cell? ⟨w.heap.size, 0, none⟩ = some (.string ⟨(btOf col).toArray⟩) := by rw [cell_of_row _ _ _ _ _ _ HB5.out]; rfl
 have d1 : w5.cell? ⟨w.heap.size, 1, none⟩ = some (.slice xa X.length xc) := by rw [cell_of_row _ _ _ _ _ _ HB5.out]; rfl
 have d2 : w5.cell? ⟨w.heap.size, 2, none⟩ = some (.slice oa1 O1.length oc1) := by rw [cell_of_row _ _ _ _ _ _ HB5.out]; rfl
 cases b with
 | false =>
   as_aux_lemma =>
    have A0 : Hid ((#[.string ⟨#[]⟩, .slice none 0 0, .slice none 0 0] : Array Value).all (·.oneCell') = true) := by unfold Hid; simp [Value.oneCell']
    have B6 := setRow_heap w5 (w.heap.size + 1) _ #[.string ⟨#[]⟩, .slice none 0 0, .slice none 0 0] 24 (0, 0) BR5.out
    have k6 : Kept (fun k => k = w.heap.size + 1) w5 (w5.setRow (w.heap.size + 1) #[.string ⟨#[]⟩, .slice none 0 0, .slice none 0 0]) := kept_row
    have X6 := hide (X5.out.trans (k6.below X5.out.size (fun b hb => by omega)))
    have z0 := cell_of_row _ _ 0 _ _ _ B6
    have z1 := cell_of_row _ _ 1 _ _ _ B6
    have z2 := cell_of_row _ _ 2 _ _ _ B6
    have HNF : Hid (NoForm (dfA bs NX OU)) := noForm_of HLB.out (HPF.out rfl) hpre.reach
    clear B6 k6 hpre
    go_wp2_with (refine wpList_store_row rfl 24 (.tmp 2) (.tmp 15) rfl (w.heap.size + 1) #[.string ⟨#[]⟩, .slice none 0 0, .slice none 0 0] rfl rfl 24 #[.string ⟨#[]⟩, .slice none 0 0, .slice none 0 0] BR5.out HI.out rfl A0.out ?_)
    refine bodyPost_ret (by simp [results, Tryz.results34, go_sem, z0, z1, z2]; try rfl) rfl ?_
    exact ⟨.inr ⟨rfl, HNF.out⟩, X6.out⟩
 | true =>
   as_aux_lemma =>
    obtain ⟨hp256, hpe⟩ := HPT.out rfl
    have HMG := hide (merged_any (btOf col) xa oa1 pa xc oc1 pc fst.length X O1 P w5 hn0 hn1 hXl.out hW0 hW1 HPL.out (fun x hx => by
     obtain ⟨k, hk, rfl⟩ := List.mem_iff_getElem.1 hx
     have := HPB.out k (by rw [← HPL.out]; exact hk)
     rw [gN_lt hk] at this
     omega) (fun x hx => by
     obtain ⟨k, hk, rfl⟩ := List.mem_iff_getElem.1 hx
     have := HNL.out k hk
     rw [gN_lt hk] at this
     exact this) (own_cap (show w5.ownsRow w2.heap.size 3 1 (.slice xa X.length xc) X.length (nCells X) from R5.out.own 0 (by simp))) NX5.out NO5.out HOP.out.nat)
    unfold auV at HMG
    have HPE := hide hpe
    have HP256 := hide hp256
    have HPRE := hide hpre
    clear hpe hp256 hpre
    go_wp2_with (fail)
    refine HMG.out.mono ?_
    rintro e w6 ⟨⟨xa2, xn2, xc2, oa2, on2, oc2, rfl, num2, fst2, Xm, hd2⟩, x6⟩
    clear HMG
    obtain rfl : xn2 = Xm.length := hd2.rws.shape (j := 0) (by simp) rfl
    obtain ⟨O2, hO2⟩ : ∃ O2, O2 = fst2.map (gN O1) := ⟨_, rfl⟩
    have hr2 := hd2.rws
    rw [← hO2] at hr2
    obtain rfl : on2 = O2.length := hr2.shape (j := 1) (by simp) rfl
    have hO2l : O2.length = fst2.length := by rw [hO2, List.length_map]
    have nf2 := hd2.nf
    have hf2 : ∀ k, k < fst2.length → gN fst2 k < P.length := nf2.fstlt
    have h256 : fst2.length ≤ 256 := pigeon 256 fst2.length (fun k => gN P (gN fst2 k)) (fun k hk => HP256.out _ (by rw [← HPL.out]; exact hf2 k hk)) (fun i hi j hj e => by
     have e' : gN P (gN fst2 i) = gN P (gN fst2 j) := e
     have := (nf2.same (hf2 i hi) (hf2 j hj)).2 e'
     rw [nf2.numfst i hi, nf2.numfst j hj] at this
     exact this)
    have hP0 : 0 < P.length := by rw [HPL.out]; exact hn0
    have hM0 : 0 < fst2.length := (nf2.zero hP0).2
    have l2 : Xm.length = fst2.length * fst.length := hd2.len
    have v2 := hd2.val
    have hcol : ∀ b, b < 256 → ((btOf col).getD b 0).toNat = gN col b := fun b hb => btOf_get col (by rw [HD.out.cl]; exact hb) (by have := HD.out.nf.numlt b hb; omega)
    have HNA := hide (narrowed_any (btOf col) xa2 oa2 xc2 oc2 fst.length Xm O2 w6 (by unfold btOf; rw [List.length_map]; exact HD.out.cl) (by omega) (by omega) (by rw [hO2l]; exact l2) hW0 hW1 (fun b hb => by rw [hcol b hb]; exact HD.out.nf.numlt b hb) (fun t ht => by
     rw [v2 t ht, hO2l]
     refine nf2.numlt _ ?_
     rw [HPL.out]
     refine HNL.out _ ?_
     have hq : t / fst.length < fst2.length := by rw [Nat.div_lt_iff_lt_mul hW0, ← l2]; exact ht
     have := at_lt (hf2 _ hq) (Nat.mod_lt t hW0)
     rw [HPL.out] at this
     have h9 := hXl.out
     omega) (hr2.own 0 (by simp)).nat)
    unfold auV at HNA
    have HD2 := hide hd2
    have HR2 := hide hr2
    have HO2 := hide hO2
    have HO2L := hide hO2l
    have H256 := hide h256
    have X6 := hide x6
    clear hd2 hr2 hO2 hO2l nf2 hf2 l2 v2 hcol h256 x6 hP0 d0 d1 d2
    go_wp2_with (fail)
    refine HNA.out.mono ?_
    rintro e w7 ⟨⟨of3, xa3, xn3, xc3, rfl, num3, fst3, X3, hd3⟩, x7⟩
    clear HNA
    obtain ⟨a3, c3, e3⟩ := OwnN.shape hd3.own
    obtain rfl : xn3 = X3.length := by injection e3
    clear e3 a3 c3
    have hone := one_form HD.out.rc HD.out.nf HD.out.cl hW1 (by rw [HPL.out]; exact HOL.out) (fun s hs t ht => HPE.out s (by rw [HOL.out]; exact hs) t (by rw [HOL.out]; exact ht)) HD2.out.nf HD2.out.len HD2.out.val H256.out (by have := hd3.nf; rw [HO2L.out] at this; exact this) hd3.ofl hd3.ofv (by have := hd3.len; rw [HO2L.out] at this; exact this) hd3.val
    rw [← HO1.out, ← HO2.out] at hone
    have BR7 := (x7.block _ (Nat.lt_of_lt_of_le (lt_of_block BR5.out) X6.out.size)).trans ((X6.out.block _ (lt_of_block BR5.out)).trans BR5.out)
    have A7 : Hid ((#[.string ⟨(btOf of3).toArray⟩, .slice xa3 X3.length xc3, .slice oa2 O2.length oc2] : Array Value).all (·.oneCell') = true) := by unfold Hid; simp [Value.oneCell']
    have HBR7 := hide BR7
    have B8 := setRow_heap w7 (w.heap.size + 1) _ #[.string ⟨(btOf of3).toArray⟩, .slice xa3 X3.length xc3, .slice oa2 O2.length oc2] 24 (0, 0) BR7
    have k8 : Kept (fun k => k = w.heap.size + 1) w7 (w7.setRow (w.heap.size + 1) #[.string ⟨(btOf of3).toArray⟩, .slice xa3 X3.length xc3, .slice oa2 O2.length oc2]) := kept_row
    have z0 := cell_of_row _ _ 0 _ _ _ B8
    have z1 := cell_of_row _ _ 1 _ _ _ B8
    have z2 := cell_of_row _ _ 2 _ _ _ B8
    have b7 := bt (bt X5.out X6.out (Nat.le_refl _)) x7 (Nat.le_refl _)
    have X8 := hide (b7.trans (k8.below b7.size (fun b hb => by omega)))
    have HON : Hid (OneD bs NX OU w.heap.size (btOf of3) (.slice xa3 X3.length xc3) (.slice oa2 O2.length oc2) X3 O2 (w7.setRow (w.heap.size + 1) #[.string ⟨(btOf of3).toArray⟩, .slice xa3 X3.length xc3, .slice oa2 O2.length oc2])) := by
     have hs2 := HS2.out
     have hs5 := S5.out
     have hs6 := X6.out.size
     have o3 : OwnN w7 w6.heap.size (.slice xa3 X3.length xc3) X3 := hd3.own
     have o2 : OwnN w7 w5.heap.size (.slice oa2 O2.length oc2) O2 := own_below (HR2.out.own 1 (by simp)) x7
     have g3 : ∀ b, (.slice xa3 X3.length xc3 : Value).ownBlock = some b → w6.heap.size ≤ b := fun b hb => (World.ownsRow.lt (show w7.ownsRow w6.heap.size 3 1 (.slice xa3 X3.length xc3) X3.length (nCells X3) from o3) b hb).1
     have g2 : ∀ b, (.slice oa2 O2.length oc2 : Value).ownBlock = some b → w5.heap.size ≤ b ∧ b < w6.heap.size := fun b hb => ⟨(World.ownsRow.lt (show w6.ownsRow w5.heap.size 3 1 (.slice oa2 O2.length oc2) O2.length (nCells O2) from HR2.out.own 1 (by simp)) b hb).1, (World.ownsRow.lt (show w6.ownsRow w5.heap.size 3 1 (.slice oa2 O2.length oc2) O2.length (nCells O2) from HR2.out.own 1 (by simp)) b hb).2⟩
     have o3' : OwnN (w7.setRow (w.heap.size + 1) #[.string ⟨(btOf of3).toArray⟩, .slice xa3 X3.length xc3, .slice oa2 O2.length oc2]) w.heap.size (.slice xa3 X3.length xc3) X3 := (show OwnN _ w6.heap.size _ _ from own_kept o3 k8 (fun b hb e => by have := g3 b hb; omega)).mono' (by omega)
     have o2' : OwnN (w7.setRow (w.heap.size + 1) #[.string ⟨(btOf of3).toArray⟩, .slice xa3 X3.length xc3, .slice oa2 O2.length oc2]) w.heap.size (.slice oa2 O2.length oc2) O2 := (show OwnN _ w5.heap.size _ _ from own_kept o2 k8 (fun b hb e => by have := (g2 b hb).1; omega)).mono' (by omega)
     have hwd : X3.length / O2.length = fst3.length := by rw [hd3.len]; exact Nat.mul_div_cancel_left _ (by rw [HO2L.out]; exact hM0)
     have ok := hone.1.toOk
     refine ⟨(Rws.nil _ w.heap.size).two o3' o2' (fun b h1 h2 => by have := g3 b h1; have := g2 b h2; omega), hone.1, hone.2, ⟨by unfold btOf; rw [List.length_map]; exact hd3.ofl, ok.n0, by have := H256.out; have := HO2L.out; omega, by rw [hwd]; exact hd3.len, fun b hb => ok.bc b hb, ?_, fun x hx => ?_, fun x hx => ?_⟩, by have := H256.out; have := HO2L.out; omega⟩
     · rw [hwd]
       exact Nat.le_trans (pigeon fst.length fst3.length (gN fst3) hd3.nf.fstlt (fun i a j b e => by rw [← hd3.nf.numfst i a, ← hd3.nf.numfst j b, e])) hW1
     · obtain ⟨t, ht, rfl⟩ := List.mem_iff_getElem.1 hx
       have hfp : 0 < fst3.length := by
        rcases Nat.eq_zero_or_pos fst3.length with e0 | e0
        · rw [hd3.len, e0] at ht; omega
        · exact e0
       have hq : t / fst3.length < O2.length := by rw [Nat.div_lt_iff_lt_mul hfp, ← hd3.len]; exact ht
       have h9 := ok.nx (t / fst3.length) hq (t % fst3.length) (by show t % fst3.length < X3.length / O2.length; rw [hwd]; exact Nat.mod_lt t hfp)
       have h10 : gN X3 (t / fst3.length * (X3.length / O2.length) + t % fst3.length) < O2.length := h9
       rw [hwd] at h10
       have e : (t / fst3.length) * fst3.length + t % fst3.length = t := by rw [Nat.mul_comm]; exact Nat.div_add_mod t fst3.length
       rw [e, gN_lt ht] at h10
       exact h10
     · rw [HO2.out] at hx
       obtain ⟨k, hk, rfl⟩ := List.mem_map.1 hx
       obtain ⟨i, hi, rfl⟩ := List.mem_iff_getElem.1 hk
       have hki : fst2[i] < O1.length := by have := HD2.out.nf.fstlt i hi; rw [gN_lt hi, HPL.out] at this; exact this
       rw [HO1.out, gN_map _ _ (by rw [← HOL.out]; exact hki)]
       have hst : gN St fst2[i] < OU.length := HD.out.rc.lt _ (by rw [← HOL.out]; exact hki)
       rw [gN_lt hst]
       exact HMA.out.lb _ (List.getElem_mem hst)
    clear B8 k8 BR7 x7 b7 hone hd3
    go_wp2_with (refine wpList_store_row rfl 24 (.tmp 2) (.tmp 19) rfl (w.heap.size + 1) #[.string ⟨(btOf of3).toArray⟩, .slice xa3 X3.length xc3, .slice oa2 O2.length oc2] rfl rfl 24 #[.string ⟨#[]⟩, .slice none 0 0, .slice none 0 0] HBR7.out HI.out rfl A7.out ?_)
    refine bodyPost_ret (by simp [results, Tryz.results34, go_sem, z0, z1, z2]; try rfl) rfl ?_
    exact ⟨.inl ⟨_, _, _, _, _, _, _, rfl, X3, O2, HON.out⟩, X8.out⟩
end Go.Proofs.YtdgoilkgplnhfaaGreat
namespace Go.Proofs.YtdgoilkgplnhfaaGreat
theorem list_first {l : List Nat} (h0 : 0 < l.length) (hz : gN l 0 = 0) {PL NU : List Nat} {key : Nat → Nat} {m : Nat} (h : KnS l key l.length PL NU m) : gN PL 0 = 0 := by
 have := h.z h0
 rw [hz] at this
 exact this
section
variable {bs : By} {NX OU l PL OL NU QL : List Nat} {k m m0 s t : Nat} {C : List Nat} {W c : Nat} {key : Nat → Nat}
theorem KnS.lt (h : KnS l key l.length PL NU m) : ∀ s ∈ l, gN PL s < m := fun s hs => by
 obtain ⟨i, h1, h2⟩ := mem_gN hs
 rw [← h2]; exact h.b i h1
theorem KnS.hit (h : KnS l key l.length PL NU m) : ∀ r, r < m → ∃ s, s ∈ l ∧ gN PL s = r := fun r hr => by
 obtain ⟨i, h1, h2⟩ := h.d r hr
 exact ⟨_, gN_mem h1, h2⟩
theorem KnS.iff (h : KnS l key l.length PL NU m) : ∀ s ∈ l, ∀ t ∈ l, (gN PL s = gN PL t ↔ key s = key t) := fun s hs t ht => by
 obtain ⟨i, h1, h2⟩ := mem_gN hs
 obtain ⟨j, h3, h4⟩ := mem_gN ht
 rw [← h2, ← h4]; exact h.same h1 h3
theorem ou_eqv (h : (dfA bs NX OU).Eqv s t) : gN OU s = gN OU t := by
 have : ((gN OU s : Nat) : Int) = ((gN OU t : Nat) : Int) := h [] Txt.nil
 omega
theorem KnS.parts (h : KnS l (gN OU) l.length PL NU m) (h0 : 0 < l.length) (hz : gN l 0 = 0) : DpS (dfA bs NX OU) l (gN PL) m :=
 ⟨h.lt, h.hit, fun s hs t ht e => (h.iff s hs t ht).2 (ou_eqv e), fun s hs t ht e => by
   show ((gN OU s : Nat) : Int) = ((gN OU t : Nat) : Int)
   rw [(h.iff s hs t ht).1 e], list_first h0 hz h⟩
theorem KnS.none (h : KnS l key k PL NU 257) (hk : k ≤ l.length) {D : DF} (hr : RdT D l) (hq : ∀ s ∈ l, ∀ t ∈ l, D.Eqv s t → key s = key t) : NoForm D := fun E hE hl => by
 obtain ⟨g, h1, h2⟩ := h.apart hk hq
 exact none_of hr h1 h2 hE hl
theorem pair_inj {a b c d : Nat} (h1 : b < 256) (h2 : d < 256) : a * 256 + b = c * 256 + d ↔ a = c ∧ b = d := by omega
theorem KnS.sweep (h : KnS l (kyP PL OL NX W (gN C k)) l.length QL NU m) (hW : NX.length / OU.length = W) (h0 : 0 < l.length) (hz : gN l 0 = 0) {m1 : Nat} (hr : RdT (dfA bs NX OU) l) (hg : DpS (dfA bs NX OU) l (gN OL) m0) (hm0 : m0 ≤ 256) (hs : SwS (dfA bs NX OU) l (gN OL) C k (gN PL) m1) (hC : ∃ b, b < 256 ∧ (dfA bs NX OU).bc b = gN C k) : SwS (dfA bs NX OU) l (gN OL) C (k + 1) (gN QL) m := by
 refine SwS.next hr hg hs hC h.lt h.hit (list_first h0 hz h) (fun s h1 t h2 => ?_)
 obtain ⟨b, hb, eb⟩ := hC
 have en : ∀ s, (dfA bs NX OU).nx s (gN C k) = gN NX (s * W + gN C k) := fun s => by
  show gN NX (s * (NX.length / OU.length) + _) = _
  rw [hW]
 have hl : ∀ s ∈ l, gN OL (gN NX (s * W + gN C k)) < 256 := fun s hs => by
  have h3 := hg.lt _ (hr.cl s hs b hb)
  have e : (dfA bs NX OU).step s b = gN NX (s * W + gN C k) := by
   show (dfA bs NX OU).nx s ((dfA bs NX OU).bc b) = _
   rw [eb, en]
  rw [e] at h3
  omega
 rw [h.iff s h1 t h2, en, en]
 exact pair_inj (hl s h1) (hl t h2)
theorem key_eqv (hW : NX.length / OU.length = W) {m1 : Nat} (hr : RdT (dfA bs NX OU) l) (hg : DpS (dfA bs NX OU) l (gN OL) m0) (hs : DpS (dfA bs NX OU) l (gN PL) m1) (hC : ∃ b, b < 256 ∧ (dfA bs NX OU).bc b = c) : ∀ s ∈ l, ∀ t ∈ l, (dfA bs NX OU).Eqv s t → kyP PL OL NX W c s = kyP PL OL NX W c t := fun s h1 t h2 e => by
 obtain ⟨b, hb, eb⟩ := hC
 have en : ∀ s, (dfA bs NX OU).step s b = gN NX (s * W + c) := fun s => by
  show gN NX (s * (NX.length / OU.length) + (dfA bs NX OU).bc b) = _
  rw [hW, eb]
 have h3 := hg.eqv _ (hr.cl s h1 b hb) _ (hr.cl t h2 b hb) (e.step hb)
 have h4 := hs.eqv s h1 t h2 e
 unfold kyP
 rw [en, en] at h3
 rw [h4, h3]
end
theorem SwS.more {D : DF} {l C : List Nat} {f g : Nat → Nat} {k m m0 : Nat} (hg : DpS D l g m0) (h : SwS D l g C k f m) : m0 ≤ m := by
 have hc : ∀ r, ∃ u, r < m0 → u ∈ l ∧ g u = r := fun r => by
  by_cases hr : r < m0
  · obtain ⟨u, hu⟩ := hg.hit r hr
    exact ⟨u, fun _ => hu⟩
  · exact ⟨0, fun h => absurd h hr⟩
 refine pigeon m m0 (fun r => f (hc r).choose) (fun i hi => h.lt _ ((hc i).choose_spec hi).1) (fun i hi j hj e => ?_)
 have h1 := (hc i).choose_spec hi
 have h2 := (hc j).choose_spec hj
 have := h.ref _ h1.1 _ h2.1 e
 rw [h1.2, h2.2] at this
 exact this
end Go.Proofs.YtdgoilkgplnhfaaGreat
