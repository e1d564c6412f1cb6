/-
  The code's Least by its contract. Condition: lists no longer than a process can hold.
-/
import Derived.Test.YtdgoilkgplnhfaaGreatB30
import Derived.Test.YtdgoilkgplnhfaaGreatB14
import Derived.Test.YtdgoilkgplnhfaaGreatB33
import Derived.Test.YtdgoilkgplnhfaaGreatB31
import Derived.Test.YtdgoilkgplnhfaaGreatB06
namespace Go.Proofs.YtdgoilkgplnhfaaGreat
open Go.RowKit Go.Lib

def zN (L : List Nat) : List Int := L.map fun (n : Nat) => (n : Int)
theorem zN_back (L : List Int) (h : ∀ z ∈ L, 0 ≤ z) : zN (L.map Int.toNat) = L := by
  unfold zN
  rw [List.map_map]
  conv => rhs; rw [← List.map_id L]
  refine List.map_congr_left (fun z hz => ?_)
  have := h z hz
  show ((z.toNat : Nat) : Int) = z
  omega
theorem mxL_ge (L : List Nat) : ∀ x ∈ L, x ≤ mxL L := by
  have key : ∀ (L : List Nat) (a : Nat), a ≤ L.foldl max a ∧ ∀ x ∈ L, x ≤ L.foldl max a := by
    intro L
    induction L with
    | nil => intro a; exact ⟨Nat.le_refl _, fun x hx => by cases hx⟩
    | cons y L ih =>
      intro a
      rw [List.foldl_cons]
      obtain ⟨h1, h2⟩ := ih (max a y)
      refine ⟨by omega, fun x hx => ?_⟩
      rcases List.mem_cons.1 hx with rfl | hx
      · omega
      · exact h2 x hx
  exact (key L 0).2
theorem may_of {bs : By} {NZ OZ : List Int} (h : MayZ bs NZ OZ) : ∃ NX OU, NZ = zN NX ∧ OZ = zN OU ∧ MayA bs NX OU := by
  obtain ⟨h1, h2, h3, h4, h5, h6⟩ := h
  have hn : ∀ z ∈ NZ, 0 ≤ z ∧ z < (OZ.length : Int) := fun z hz => by
    have := List.any_eq_false.1 h5 z hz
    unfold noneB at this
    simp at this
    omega
  have ho : ∀ z ∈ OZ, 0 ≤ z ∧ z ≤ 65535 := fun z hz => by
    have := List.any_eq_false.1 h6 z hz
    by_cases hl : Lab z
    · exact hl
    · exact absurd (by unfold nlB; simp [hl]) this
  have hdiv : NZ.length / OZ.length = mxL (ntL bs) + 1 := by rw [h4]; exact Nat.mul_div_cancel_left _ (by omega)
  have hml := mxL_lt bs
  refine ⟨NZ.map Int.toNat, OZ.map Int.toNat, (zN_back NZ (fun z hz => (hn z hz).1)).symm, (zN_back OZ (fun z hz => (ho z hz).1)).symm, h1, by rw [List.length_map]; omega, by rw [List.length_map]; exact h3, ?_, fun b hb => ?_, ?_, fun x hx => ?_, fun x hx => ?_⟩
  · rw [List.length_map, List.length_map, hdiv]; exact h4
  · rw [List.length_map, List.length_map, hdiv]
    have hbl : b < bs.length := by omega
    have e : bs.getD b 0 = bs[b] := by simp [List.getD_eq_getElem?_getD, hbl]
    have := mxL_ge (ntL bs) (bs[b]).toNat (List.mem_map.2 ⟨_, List.getElem_mem hbl, rfl⟩)
    rw [e]
    omega
  · rw [List.length_map, List.length_map, hdiv]; omega
  · obtain ⟨z, hz, rfl⟩ := List.mem_map.1 hx
    have := hn z hz
    rw [List.length_map]
    omega
  · obtain ⟨z, hz, rfl⟩ := List.mem_map.1 hx
    have := ho z hz
    omega
theorem ZAt.nat {w : World} {ao : Option Addr} {L : List Nat} (h : ZAt w ao (zN L)) : NAt w ao L := by
  rcases h with h | ⟨b, off, h1, h2, h3⟩
  · exact .inl (List.map_eq_nil_iff.1 h)
  · refine .inr ⟨b, off, h1, h2, fun i hi => ?_⟩
    have := h3 i (by unfold zN; rw [List.length_map]; exact hi)
    rw [this]
    simp [zN]
theorem OneP.kept {bs : By} {NX OU : List Nat} {base base' g : Nat} {e : Ending} {w w' : World} (h : OneP bs NX OU base e w) (k : Kept (fun b => b = g) w w') (hg : g < base) (hb : base' ≤ base) : OneP bs NX OU base' e w' := by
  rcases h with ⟨bs', xa, xn, xc, oa, on, oc, h1, NX', OU', d⟩ | h
  · refine .inl ⟨bs', xa, xn, xc, oa, on, oc, h1, NX', OU', ?_, d.rt, d.lb, d.may, d.n⟩
    have r := d.rws.kept k (fun j hj b hb e => by
      have := (World.ownsRow.lt (show w.ownsRow base 3 1 _ _ (nCells _) from d.rws.own j hj) b hb).1
      omega)
    exact ⟨fun j hj => (r.own j hj).mono' hb, r.ap⟩
  · exact .inr h
/-- What Least tells. -/
def LeP (bs : By) (NZ OZ : List Int) (base : Nat) (e : Ending) (w : World) : Prop :=
  (¬ MayZ bs NZ OZ ∧ e = .returned (.tuple #[auV [] none 0 0 none 0 0, .int .i64 60])) ∨ ∃ NX OU, NZ = zN NX ∧ OZ = zN OU ∧ MayA bs NX OU ∧ MayZ bs NZ OZ ∧ OneP bs NX OU base e w
theorem OneP.shape {bs : By} {NX OU : List Nat} {base : Nat} {e : Ending} {w : World} (h : OneP bs NX OU base e w) : ∃ (bs' : By) (xa : Option Addr) (xn xc : Nat) (oa : Option Addr) (on oc : Nat) (m : Int), e = .returned (.tuple #[.agg #[.string ⟨bs'.toArray⟩, .slice xa xn xc, .slice oa on oc], .int .i64 m]) := by
  rcases h with ⟨bs', xa, xn, xc, oa, on, oc, h1, _⟩ | ⟨h1, _⟩
  · exact ⟨bs', xa, xn, xc, oa, on, oc, 0, h1⟩
  · exact ⟨[], none, 0, 0, none, 0, 0, 2, h1⟩
set_option maxRecDepth 100000 in
set_option maxHeartbeats 4000000 in
theorem least_any (bs : By) (na oa : Option Addr) (nc oc : Nat) (NZ OZ : List Int) (w : World) (hnl : NZ.length ≤ 140737488351232) (hol : OZ.length ≤ 140737488351232) (hnx : ZAt w na NZ) (hou : ZAt w oa OZ) :
    Calls Tryz.prog 12 #[auV bs na NZ.length nc oa OZ.length oc] w fun e w' => LeP bs NZ OZ w.heap.size e w' ∧ Below w.heap.size w w' := by
  obtain ⟨w2, hw2⟩ : ∃ w2, w2 = (w.alloc (.cells #[.string ⟨bs.toArray⟩, .slice na NZ.length nc, .slice oa OZ.length oc] 24)).alloc (.cells #[.string ⟨#[]⟩, .slice none 0 0, .slice none 0 0] 24) := ⟨_, rfl⟩
  obtain ⟨X2, B1, B2, hs2⟩ := two_alloc' w #[.string ⟨bs.toArray⟩, .slice na NZ.length nc, .slice oa OZ.length oc] #[.string ⟨#[]⟩, .slice none 0 0, .slice none 0 0] 24 24
  rw [← hw2] at X2 B1 B2 hs2
  have HC : Hid (∀ V, Below w2.heap.size w2 V → V.cell? ⟨w.heap.size, 0, none⟩ = some (.string ⟨bs.toArray⟩) ∧ V.cell? ⟨w.heap.size, 1, none⟩ = some (.slice na NZ.length nc) ∧ V.cell? ⟨w.heap.size, 2, none⟩ = some (.slice oa OZ.length oc) ∧ V.heap[w.heap.size + 1]? = some (.cells #[.string ⟨#[]⟩, .slice none 0 0, .slice none 0 0] 24 (0, 0)) ∧ ZAt V na NZ ∧ ZAt V oa OZ) := fun V x => by
    have Bv := (x.block _ (lt_of_block B1)).trans B1
    exact ⟨by rw [cell_of_row _ _ _ _ _ _ Bv]; rfl, by rw [cell_of_row _ _ _ _ _ _ Bv]; rfl, by rw [cell_of_row _ _ _ _ _ _ Bv]; rfl, (x.block _ (lt_of_block B2)).trans B2, hnx.below (bt X2 x (Nat.le_refl _)), hou.below (bt X2 x (Nat.le_refl _))⟩
  have HX2 := hide X2
  have HS2 := hide hs2
  obtain ⟨c0, c1, c2, _, kx, ko⟩ := HC.out w2 (Below.refl _ _)
  have HMB := hide (mayBe_any bs na oa nc oc NZ OZ w2 hnl hol kx ko)
  have HI : Hid ((Tryz.prog.info? 24).map (·.size) = some 3) := by unfold Hid; kernel_rfl
  clear X2 B1 B2 hs2 hnx hou kx ko
  unfold auV at HMB ⊢
  go_enter Tryz.func12, Tryz.ntmps12
  go_upto_region 1 with fail
  rw [← hw2]
  clear hw2
  go_wp2_with (fail)
  refine HMB.out.mono ?_
  rintro e w3 ⟨⟨b, rfl, hb⟩, x3⟩
  have HBB := hide hb
  have X3 := hide x3
  clear HMB c0 c1 c2 hb x3
  obtain ⟨c0, c1, c2, B3, kx, ko⟩ := HC.out w3 X3.out
  have HB3 := hide B3
  cases b with
  | false =>
    as_aux_lemma =>
      have A0 : Hid ((#[.string ⟨#[]⟩, .slice none 0 0, .slice none 0 0] : Array Value).all (·.oneCell') = true) := by unfold Hid; simp [Value.oneCell']
      have B6 := setRow_heap w3 (w.heap.size + 1) _ #[.string ⟨#[]⟩, .slice none 0 0, .slice none 0 0] 24 (0, 0) B3
      have k6 : Kept (fun k => k = w.heap.size + 1) w3 (w3.setRow (w.heap.size + 1) #[.string ⟨#[]⟩, .slice none 0 0, .slice none 0 0]) := kept_row
      have x3 := bt HX2.out X3.out (Nat.le_refl _)
      have X6 := hide (x3.trans (k6.below x3.size (fun b hb => by omega)))
      have z0 := cell_of_row _ _ 0 _ _ _ B6
      have z1 := cell_of_row _ _ 1 _ _ _ B6
      have z2 := cell_of_row _ _ 2 _ _ _ B6
      have HNM : Hid (¬ MayZ bs NZ OZ) := fun h => by have := HBB.out.2 h; cases this
      clear B6 k6 B3 x3 kx ko
      go_wp2_with (refine wpList_store_row rfl 24 (.tmp 2) (.tmp 7) rfl (w.heap.size + 1) #[.string ⟨#[]⟩, .slice none 0 0, .slice none 0 0] rfl rfl 24 #[.string ⟨#[]⟩, .slice none 0 0, .slice none 0 0] HB3.out HI.out rfl A0.out ?_)
      refine bodyPost_ret (by simp [results, Tryz.results12, go_sem, z0, z1, z2]; try rfl) rfl ?_
      exact ⟨.inl ⟨HNM.out, rfl⟩, X6.out⟩
  | true =>
    as_aux_lemma =>
      have hMZ := HBB.out.1 rfl
      obtain ⟨NX, OU, rfl, rfl, hM⟩ := may_of hMZ
      have HMZ := hide hMZ
      clear hMZ
      have ln : (zN NX).length = NX.length := by unfold zN; rw [List.length_map]
      have lo : (zN OU).length = OU.length := by unfold zN; rw [List.length_map]
      have HOF := hide (oneForm_any bs na oa nc oc NX OU w3 hM kx.nat ko.nat)
      unfold auV at HOF
      rw [← ln, ← lo] at HOF
      have HMM := hide hM
      clear kx ko B3 ln lo hM
      go_wp2_with (fail)
      refine HOF.out.mono ?_
      rintro e w4 ⟨hP, x4⟩
      obtain ⟨bs', xa, xn, xc, oa', on, oc', m, rfl⟩ := hP.shape
      have X4 := hide (bt X3.out x4 (Nat.le_refl _))
      obtain ⟨_, _, _, B4, _, _⟩ := HC.out w4 X4.out
      have A4 : Hid ((#[.string ⟨bs'.toArray⟩, .slice xa xn xc, .slice oa' on oc'] : Array Value).all (·.oneCell') = true) := by unfold Hid; simp [Value.oneCell']
      have HB4 := hide B4
      have B6 := setRow_heap w4 (w.heap.size + 1) _ #[.string ⟨bs'.toArray⟩, .slice xa xn xc, .slice oa' on oc'] 24 (0, 0) B4
      have k6 : Kept (fun k => k = w.heap.size + 1) w4 (w4.setRow (w.heap.size + 1) #[.string ⟨bs'.toArray⟩, .slice xa xn xc, .slice oa' on oc']) := kept_row
      have x5 := bt HX2.out X4.out (Nat.le_refl _)
      have X6 := hide (x5.trans (k6.below x5.size (fun b hb => by omega)))
      have hs2 := HS2.out
      have hs3 := X3.out.size
      have HP6 := hide (hP.kept k6 (by omega) (show w.heap.size ≤ w3.heap.size by omega))
      have z0 := cell_of_row _ _ 0 _ _ _ B6
      have z1 := cell_of_row _ _ 1 _ _ _ B6
      have z2 := cell_of_row _ _ 2 _ _ _ B6
      clear B6 k6 B4 x5 x4 hP HOF
      go_wp2_with (refine wpList_store_row rfl 24 (.tmp 2) (.tmp 10) rfl (w.heap.size + 1) #[.string ⟨bs'.toArray⟩, .slice xa xn xc, .slice oa' on oc'] rfl rfl 24 #[.string ⟨#[]⟩, .slice none 0 0, .slice none 0 0] HB4.out HI.out rfl A4.out ?_)
      refine bodyPost_ret (by simp [results, Tryz.results12, go_sem, z0, z1, z2]; try rfl) rfl ?_
      exact ⟨.inr ⟨NX, OU, rfl, rfl, HMM.out, HMZ.out, HP6.out⟩, X6.out⟩
end Go.Proofs.YtdgoilkgplnhfaaGreat
/-
  The document's May by its contract. Condition: lists no longer than a process can hold.
-/
namespace Go.Proofs.YtdgoilkgplnhfaaGreat
open Go.RowKit Go.Lib

theorem mayZ_out {bs : By} {NZ OZ : List Int} (h : MayZ bs NZ OZ) : (∀ i (h : i < OZ.length), Lab OZ[i]) ∧ ∀ i (h : i < NZ.length), 0 ≤ NZ[i] ∧ NZ[i] < (OZ.length : Int) := by
  obtain ⟨_, _, _, _, h5, h6⟩ := h
  refine ⟨fun i hi => ?_, fun i hi => ?_⟩
  · have := List.any_eq_false.1 h6 _ (List.getElem_mem hi)
    by_cases hl : Lab OZ[i]
    · exact hl
    · exact absurd (by unfold nlB; simp [hl]) this
  · have := List.any_eq_false.1 h5 _ (List.getElem_mem hi)
    unfold noneB at this
    simp at this
    omega
theorem mayZ_in {bs : By} {NZ OZ : List Int} (h1 : bs.length = 256) (h2 : ¬ OZ.length < 1) (h3 : ¬ 65536 < OZ.length) (h4 : NZ.length = (mxL (ntL bs) + 1) * OZ.length) (h5 : ∀ i (h : i < OZ.length), Lab OZ[i]) (h6 : ∀ i (h : i < NZ.length), 0 ≤ NZ[i] ∧ NZ[i] < (OZ.length : Int)) : MayZ bs NZ OZ := by
  refine ⟨h1, by omega, by omega, by rw [h4, Nat.mul_comm], List.any_eq_false.2 (fun z hz => ?_), List.any_eq_false.2 (fun z hz => ?_)⟩
  · obtain ⟨i, hi, rfl⟩ := List.getElem_of_mem hz
    have := h6 i hi
    unfold noneB
    simp
    omega
  · obtain ⟨i, hi, rfl⟩ := List.getElem_of_mem hz
    have := h5 i hi
    unfold nlB
    simp [this]
set_option maxRecDepth 100000 in
set_option maxHeartbeats 4000000 in
theorem mayD_any (bs : By) (na oa : Option Addr) (nc oc : Nat) (NZ OZ : List Int) (w : World) (hnl : NZ.length ≤ 140737488351232) (hol : OZ.length ≤ 140737488351232) (hnx : ZAt w na NZ) (hou : ZAt w oa OZ) :
    Calls Tryz.prog 35 #[auV bs na NZ.length nc oa OZ.length oc] w fun e w' => TellsB (MayZ bs NZ OZ) e ∧ Below w.heap.size w w' := by
  obtain ⟨w2, hw2⟩ : ∃ w2, w2 = w.alloc (.cells #[.string ⟨bs.toArray⟩, .slice na NZ.length nc, .slice oa OZ.length oc] 24) := ⟨_, rfl⟩
  have X2 : Below w.heap.size w w2 := by rw [hw2]; exact al (Below.refl _ _) _
  have B2 : w2.heap[w.heap.size]? = some (.cells #[.string ⟨bs.toArray⟩, .slice na NZ.length nc, .slice oa OZ.length oc] 24 (0, 0)) := by rw [hw2]; exact heap_alloc_new w _
  have HC : Hid (∀ V, Below w2.heap.size w2 V → V.cell? ⟨w.heap.size, 0, none⟩ = some (.string ⟨bs.toArray⟩) ∧ V.cell? ⟨w.heap.size, 1, none⟩ = some (.slice na NZ.length nc) ∧ V.cell? ⟨w.heap.size, 2, none⟩ = some (.slice oa OZ.length oc) ∧ ZAt V na NZ ∧ ZAt V oa OZ) := fun V x => by
    have Bv := (x.block _ (lt_of_block B2)).trans B2
    have y := bt X2 x (Nat.le_refl _)
    exact ⟨by rw [cell_of_row _ _ _ _ _ _ Bv]; rfl, by rw [cell_of_row _ _ _ _ _ _ Bv]; rfl, by rw [cell_of_row _ _ _ _ _ _ Bv]; rfl, hnx.below y, hou.below y⟩
  have HX2 := hide X2
  obtain ⟨c0, c1, c2, _⟩ := HC.out w2 (Below.refl _ _)
  clear X2 B2 hnx hou
  have NOT : Hid (∀ P : Prop, ¬ P → TellsB P (.returned (.bool false))) := fun P h => ⟨false, rfl, by simp [h]⟩
  unfold auV
  go_enter Tryz.func35, Tryz.ntmps35
  go_upto_region 1 with fail
  rw [← hw2]
  clear hw2
  by_cases h1 : bs.length = 256
  case neg =>
    have b1 : ((bs.length : Int) != 256) = true := by simp; omega
    have HN : Hid (¬ MayZ bs NZ OZ) := fun h => h1 h.1
    go_wp2
    go_ret
    exact ⟨NOT.out _ HN.out, HX2.out⟩
  have b1 : ((bs.length : Int) != 256) = false := by simp; omega
  by_cases h2 : OZ.length < 1
  case pos =>
    have b2 : ((OZ.length : Int) < 1) := by omega
    have HN : Hid (¬ MayZ bs NZ OZ) := fun h => by have := h.2.1; omega
    go_wp2
    go_ret
    exact ⟨NOT.out _ HN.out, HX2.out⟩
  have b2 : ¬ ((OZ.length : Int) < 1) := by omega
  by_cases h3 : 65536 < OZ.length
  case pos =>
    have b3 : (65536 : Int) < (OZ.length : Int) := by omega
    have HN : Hid (¬ MayZ bs NZ OZ) := fun h => by have := h.2.2.1; omega
    go_wp2
    go_ret
    exact ⟨NOT.out _ HN.out, HX2.out⟩
  have b3 : ¬ (65536 : Int) < (OZ.length : Int) := by omega
  have HWD := hide (wideD_any bs na oa NZ.length nc OZ.length oc w2 h1)
  unfold auV at HWD
  have hml := mxL_lt bs
  obtain ⟨W, hW⟩ : ∃ W, W = mxL (ntL bs) + 1 := ⟨_, rfl⟩
  rw [← hW] at HWD
  have hWl : W ≤ 256 := by omega
  have HW := hide hW
  clear hml hW
  go_upto_region 4 with (go_at_call 68; refine HWD.out.mono ?_; rintro e w3 ⟨rfl, x3⟩; have X3 := hide x3; clear x3)
  clear c0 c1 c2 HWD b1 b2 b3
  obtain ⟨c0, c1, c2, _⟩ := HC.out w3 X3.out
  have hWO : W * OZ.length ≤ 16777216 := Nat.mul_le_mul hWl (show OZ.length ≤ 65536 by omega)
  have f1 : IntKind.i64.wrap ((W : Int) * (OZ.length : Int)) = ((W * OZ.length : Nat) : Int) := by rw [show (W : Int) * (OZ.length : Int) = ((W * OZ.length : Nat) : Int) by simp]; exact w64_n _ (by omega)
  have XW := hide (bt HX2.out X3.out (Nat.le_refl _))
  by_cases h4 : NZ.length = W * OZ.length
  case neg =>
    have HN : Hid (¬ MayZ bs NZ OZ) := fun h => h4 (by rw [h.2.2.2.1, Nat.mul_comm, HW.out])
    generalize W * OZ.length = q at *
    have b4 : ((NZ.length : Int) != (q : Int)) = true := by simp; omega
    go_wp2
    go_ret
    exact ⟨NOT.out _ HN.out, XW.out⟩
  have HIN : Hid ((∀ i (h : i < OZ.length), Lab OZ[i]) → (∀ i (h : i < NZ.length), 0 ≤ NZ[i] ∧ NZ[i] < (OZ.length : Int)) → MayZ bs NZ OZ) := mayZ_in h1 h2 h3 (by rw [h4, HW.out])
  have HOUT := hide (fun h => mayZ_out (bs := bs) (NZ := NZ) (OZ := OZ) h)
  have b4 : ((NZ.length : Int) != (W : Int) * (OZ.length : Int)) = false := by rw [h4]; simp
  have H4 := hide h4
  clear h4
  go_upto_region 6 with fail
  clear b4 f1 c0 c1 c2
  go_wp2
  go_loopg [4] (OZ.length + 1) (fun g x wr => ∃ k : Nat, x = .int .i64 (k : Nat) ∧ k ≤ OZ.length ∧ Hid (∀ i (h : i < OZ.length), i < k → Lab OZ[i]) ∧ Hid (Below w2.heap.size w2 wr) ∧ OZ.length - k < g)
  case atStart => exact ⟨0, rfl, by omega, fun i _ h => by omega, X3, by omega⟩
  case round =>
    obtain ⟨k, rfl, hk1, HL, X, hg⟩ := hrel
    have HG := hide hg
    have XV := hide (bt HX2.out X.out (Nat.le_refl _))
    clear hg X3 XW
    obtain ⟨c0, c1, c2, kx, ko⟩ := HC.out wr X.out
    by_cases hk : k < OZ.length
    · have hk' : (k : Int) < (OZ.length : Int) := by omega
      obtain ⟨pb, off, rfl, cz⟩ := ko.get hk
      have HLK : Hid (Lab OZ[k] → ∀ i (h : i < OZ.length), i < k + 1 → Lab OZ[i]) := fun h i hi hik => by
        rcases Nat.lt_or_ge i k with h1 | h1
        · exact HL.out i hi h1
        · obtain rfl : i = k := by omega
          exact h
      have HNL : Hid (¬ Lab OZ[k] → ¬ MayZ bs NZ OZ) := fun h h' => h ((HOUT.out h').1 k hk)
      clear kx ko
      generalize OZ[k] = z at *
      by_cases hz1 : z < 0
      · have HN : Hid (¬ MayZ bs NZ OZ) := HNL.out (fun h => by unfold Lab at h; omega)
        go_wp2
        go_ret
        exact ⟨NOT.out _ HN.out, XV.out⟩
      · by_cases hz2 : 65535 < z
        · have HN : Hid (¬ MayZ bs NZ OZ) := HNL.out (fun h => by unfold Lab at h; omega)
          go_wp2
          go_ret
          exact ⟨NOT.out _ HN.out, XV.out⟩
        · have HL2 := hide (HLK.out ⟨by omega, by omega⟩)
          go_wp2
          go_roundg (OZ.length - (k + 1) + 1)
          case measure => have := HG.out; omega
          case rel => exact ⟨k + 1, by first | rfl | go_num | (congr 1; omega), by omega, HL2, X, by omega⟩
    · have hk' : ¬ (k : Int) < (OZ.length : Int) := by omega
      have HLA : Hid (∀ i (h : i < OZ.length), Lab OZ[i]) := fun i hi => HL.out i hi (by omega)
      clear kx ko HL
      go_wp2
      go_loopg [5] (NZ.length + 1) (fun g x wr => ∃ k : Nat, x = .int .i64 (k : Nat) ∧ k ≤ NZ.length ∧ Hid (∀ i (h : i < NZ.length), i < k → 0 ≤ NZ[i] ∧ NZ[i] < (OZ.length : Int)) ∧ Hid (Below w2.heap.size w2 wr) ∧ NZ.length - k < g)
      case atStart => exact ⟨0, rfl, by omega, fun i _ h => by omega, X, by omega⟩
      case round =>
        clear hk' hk hk1 X XV c0 c1 c2 HG
        obtain ⟨k, rfl, hk1, HL, X, hg⟩ := hrel
        have HG := hide hg
        have XV := hide (bt HX2.out X.out (Nat.le_refl _))
        clear hg
        obtain ⟨c0, c1, c2, kx, ko⟩ := HC.out wr X.out
        by_cases hk : k < NZ.length
        · have hk' : (k : Int) < (NZ.length : Int) := by omega
          obtain ⟨pb, off, rfl, cz⟩ := kx.get hk
          have HLK : Hid (0 ≤ NZ[k] ∧ NZ[k] < (OZ.length : Int) → ∀ i (h : i < NZ.length), i < k + 1 → 0 ≤ NZ[i] ∧ NZ[i] < (OZ.length : Int)) := fun h i hi hik => by
            rcases Nat.lt_or_ge i k with h1 | h1
            · exact HL.out i hi h1
            · obtain rfl : i = k := by omega
              exact h
          have HNL : Hid (¬ (0 ≤ NZ[k] ∧ NZ[k] < (OZ.length : Int)) → ¬ MayZ bs NZ OZ) := fun h h' => h ((HOUT.out h').2 k hk)
          clear kx ko
          generalize NZ[k] = z at *
          by_cases hz1 : z < 0
          · have HN : Hid (¬ MayZ bs NZ OZ) := HNL.out (fun h => by omega)
            have hd : decide (z < 0) = true := decide_eq_true hz1
            go_wp2
            go_quiet (fail)
            have XQ : Hid (Below w.heap.size w (wr.drewN nq)) := XV.out.trans ⟨rfl, rfl, rfl, Nat.le_refl _, fun _ _ => rfl⟩
            go_wp2
            go_ret
            exact ⟨NOT.out _ HN.out, XQ.out⟩
          · have hd : decide (z < 0) = false := decide_eq_false hz1
            by_cases hz2 : (OZ.length : Int) ≤ z
            · have HN : Hid (¬ MayZ bs NZ OZ) := HNL.out (fun h => by omega)
              have hd2 : decide ((OZ.length : Int) ≤ z) = true := decide_eq_true hz2
              go_wp2
              go_quiet (fail)
              have XQ : Hid (Below w.heap.size w (wr.drewN nq)) := XV.out.trans ⟨rfl, rfl, rfl, Nat.le_refl _, fun _ _ => rfl⟩
              go_wp2
              go_ret
              exact ⟨NOT.out _ HN.out, XQ.out⟩
            · have HL2 := hide (HLK.out ⟨by omega, by omega⟩)
              have hd2 : decide ((OZ.length : Int) ≤ z) = false := decide_eq_false hz2
              go_wp2
              go_quiet (fail)
              have XQ : Hid (Below w2.heap.size w2 (wr.drewN nq)) := X.out.trans ⟨rfl, rfl, rfl, Nat.le_refl _, fun _ _ => rfl⟩
              go_wp2
              go_roundg (NZ.length - (k + 1) + 1)
              case measure => have := HG.out; omega
              case rel => exact ⟨k + 1, by first | rfl | go_num | (congr 1; omega), by omega, HL2, XQ, by omega⟩
        · have hk' : ¬ (k : Int) < (NZ.length : Int) := by omega
          have HF : Hid (MayZ bs NZ OZ) := HIN.out HLA.out (fun i hi => HL.out i hi (by omega))
          clear kx ko
          go_wp2
          go_ret
          exact ⟨⟨true, rfl, by simp [HF.out]⟩, XV.out⟩
end Go.Proofs.YtdgoilkgplnhfaaGreat
/-
  The document's Least by its contract: the one form, or that there is none. Condition: lists no longer than a process can hold.
-/
namespace Go.Proofs.YtdgoilkgplnhfaaGreat
open Go.RowKit Go.Lib

set_option maxRecDepth 100000 in
set_option maxHeartbeats 4000000 in
theorem leastD_any (bs : By) (na oa : Option Addr) (nc oc : Nat) (NZ OZ : List Int) (w : World) (hnl : NZ.length ≤ 140737488351232) (hol : OZ.length ≤ 140737488351232) (hnx : ZAt w na NZ) (hou : ZAt w oa OZ) :
    Calls Tryz.prog 13 #[auV bs na NZ.length nc oa OZ.length oc] w fun e w' => LeP bs NZ OZ w.heap.size e w' ∧ Below w.heap.size w w' := by
  obtain ⟨w2, hw2⟩ : ∃ w2, w2 = (w.alloc (.cells #[.string ⟨bs.toArray⟩, .slice na NZ.length nc, .slice oa OZ.length oc] 24)).alloc (.cells #[.string ⟨#[]⟩, .slice none 0 0, .slice none 0 0] 24) := ⟨_, rfl⟩
  obtain ⟨X2, B1, B2, hs2⟩ := two_alloc' w #[.string ⟨bs.toArray⟩, .slice na NZ.length nc, .slice oa OZ.length oc] #[.string ⟨#[]⟩, .slice none 0 0, .slice none 0 0] 24 24
  rw [← hw2] at X2 B1 B2 hs2
  have HC : Hid (∀ V, Below w2.heap.size w2 V → V.cell? ⟨w.heap.size, 0, none⟩ = some (.string ⟨bs.toArray⟩) ∧ V.cell? ⟨w.heap.size, 1, none⟩ = some (.slice na NZ.length nc) ∧ V.cell? ⟨w.heap.size, 2, none⟩ = some (.slice oa OZ.length oc) ∧ V.heap[w.heap.size + 1]? = some (.cells #[.string ⟨#[]⟩, .slice none 0 0, .slice none 0 0] 24 (0, 0)) ∧ ZAt V na NZ ∧ ZAt V oa OZ) := fun V x => by
    have Bv := (x.block _ (lt_of_block B1)).trans B1
    exact ⟨by rw [cell_of_row _ _ _ _ _ _ Bv]; rfl, by rw [cell_of_row _ _ _ _ _ _ Bv]; rfl, by rw [cell_of_row _ _ _ _ _ _ Bv]; rfl, (x.block _ (lt_of_block B2)).trans B2, hnx.below (bt X2 x (Nat.le_refl _)), hou.below (bt X2 x (Nat.le_refl _))⟩
  have HX2 := hide X2
  have HS2 := hide hs2
  obtain ⟨c0, c1, c2, _, kx, ko⟩ := HC.out w2 (Below.refl _ _)
  have HMB := hide (mayD_any bs na oa nc oc NZ OZ w2 hnl hol kx ko)
  have HI : Hid ((Tryz.prog.info? 24).map (·.size) = some 3) := by unfold Hid; kernel_rfl
  clear X2 B1 B2 hs2 hnx hou kx ko
  unfold auV at HMB ⊢
  go_enter Tryz.func13, Tryz.ntmps13
  go_upto_region 1 with fail
  rw [← hw2]
  clear hw2
  go_wp2_with (fail)
  refine HMB.out.mono ?_
  rintro e w3 ⟨⟨b, rfl, hb⟩, x3⟩
  have HBB := hide hb
  have X3 := hide x3
  clear HMB c0 c1 c2 hb x3
  obtain ⟨c0, c1, c2, B3, kx, ko⟩ := HC.out w3 X3.out
  have HB3 := hide B3
  cases b with
  | false =>
    as_aux_lemma =>
      have A0 : Hid ((#[.string ⟨#[]⟩, .slice none 0 0, .slice none 0 0] : Array Value).all (·.oneCell') = true) := by unfold Hid; simp [Value.oneCell']
      have B6 := setRow_heap w3 (w.heap.size + 1) _ #[.string ⟨#[]⟩, .slice none 0 0, .slice none 0 0] 24 (0, 0) B3
      have k6 : Kept (fun k => k = w.heap.size + 1) w3 (w3.setRow (w.heap.size + 1) #[.string ⟨#[]⟩, .slice none 0 0, .slice none 0 0]) := kept_row
      have x3 := bt HX2.out X3.out (Nat.le_refl _)
      have X6 := hide (x3.trans (k6.below x3.size (fun b hb => by omega)))
      have z0 := cell_of_row _ _ 0 _ _ _ B6
      have z1 := cell_of_row _ _ 1 _ _ _ B6
      have z2 := cell_of_row _ _ 2 _ _ _ B6
      have HNM : Hid (¬ MayZ bs NZ OZ) := fun h => by have := HBB.out.2 h; cases this
      clear B6 k6 B3 x3 kx ko
      go_wp2_with (refine wpList_store_row rfl 24 (.tmp 2) (.tmp 13) rfl (w.heap.size + 1) #[.string ⟨#[]⟩, .slice none 0 0, .slice none 0 0] rfl rfl 24 #[.string ⟨#[]⟩, .slice none 0 0, .slice none 0 0] HB3.out HI.out rfl A0.out ?_)
      refine bodyPost_ret (by simp [results, Tryz.results13, go_sem, z0, z1, z2]; try rfl) rfl ?_
      exact ⟨.inl ⟨HNM.out, rfl⟩, X6.out⟩
  | true =>
    as_aux_lemma =>
      have hMZ := HBB.out.1 rfl
      obtain ⟨NX, OU, rfl, rfl, hM⟩ := may_of hMZ
      have ln : (zN NX).length = NX.length := by unfold zN; rw [List.length_map]
      have lo : (zN OU).length = OU.length := by unfold zN; rw [List.length_map]
      have hwm : NX.length / OU.length = mxL (ntL bs) + 1 := hM.w (by have := hMZ.2.2.2.1; rw [ln, lo] at this; exact this)
      rw [ln] at c1
      rw [lo] at c2
      have HC2 : Hid (∀ V, Below w2.heap.size w2 V → V.cell? ⟨w.heap.size, 0, none⟩ = some (.string ⟨bs.toArray⟩) ∧ V.cell? ⟨w.heap.size, 1, none⟩ = some (.slice na NX.length nc) ∧ V.cell? ⟨w.heap.size, 2, none⟩ = some (.slice oa OU.length oc) ∧ V.heap[w.heap.size + 1]? = some (.cells #[.string ⟨#[]⟩, .slice none 0 0, .slice none 0 0] 24 (0, 0)) ∧ NAt V na NX ∧ NAt V oa OU) := fun V x => by
        obtain ⟨h0, h1, h2, h3, h4, h5⟩ := HC.out V x
        rw [ln] at h1
        rw [lo] at h2
        exact ⟨h0, h1, h2, h3, h4.nat, h5.nat⟩
      have HCD := hide (colsD_any bs na oa NX.length nc OU.length oc w3 hM.bl)
      unfold auV at HCD
      have HMM := hide hM
      have HWM := hide hwm
      have HMZ := hide hMZ
      clear kx ko B3 HB3 hM hwm hMZ HBB HC
      go_wp2_with (fail)
      refine HCD.out.mono ?_
      rintro e w4 ⟨⟨ca, cc, C, BC, rfl, kc, hC⟩, x4⟩
      have X4 := hide (bt X3.out x4 (Nat.le_refl _))
      have KC := hide kc
      have HCT := hide hC
      clear HCD c0 c1 c2 kc hC x4
      obtain ⟨c0, c1, c2, -, kx, ko⟩ := HC2.out w4 X4.out
      have hCl := HCT.out.len
      have HRD := hide (rchD_any bs na oa ca nc oc cc _ NX OU C w4 HMM.out rfl HWM.out HCT.out.of hCl kx KC.out)
      unfold auV at HRD
      clear kx ko
      go_wp2_with (fail)
      refine HRD.out.mono ?_
      rintro e w5 ⟨⟨la, lc, l, rfl, kl, BL, hR⟩, x5⟩
      have X5 := hide (bt X4.out x5 (Nat.le_refl _))
      have KC5 := hide (KC.out.below x5)
      have KL := hide kl
      have HRS := hide hR
      have HRT := hide (hR.done (fun b hb => HCT.out.al b hb))
      clear HRD c0 c1 c2 kl hR x5 KC
      obtain ⟨c0, c1, c2, -, kx, ko⟩ := HC2.out w5 X5.out
      have HPD := hide (prsD_any bs na oa la ca nc oc lc cc _ NX OU l C w5 HMM.out rfl HWM.out HRT.out HRS.out.z.1 HRS.out.z.2 HRS.out.few HCT.out.of HCT.out.al hCl kx ko KL.out KC5.out)
      unfold auV at HPD
      clear kx ko
      go_wp2_with (fail)
      refine HPD.out.mono ?_
      rintro e w6 ⟨hP, x6⟩
      have X6 := hide (bt X5.out x6 (Nat.le_refl _))
      have KL6 := hide (KL.out.below x6)
      clear HPD c0 c1 c2 x6 KL KC5 hCl
      obtain ⟨c0, c1, c2, B6, kx, ko⟩ := HC2.out w6 X6.out
      rcases hP with ⟨pa, pc, m, rfl, hm, PL, kp, hpl, hd, heq⟩ | ⟨pa, pn, pc, rfl, hno⟩
      · as_aux_lemma =>
        have hm' : ¬ (256 : Int) < (m : Int) := by omega
        have HND := hide (nbrD_any bs na oa la pa nc oc lc pc _ m NX OU l PL w6 HMM.out rfl HWM.out HRT.out HRS.out.z.2 HRS.out.few hpl hm hd heq kx ko KL6.out kp)
        unfold auV at HND
        clear kx ko kp hd heq B6
        go_wp2_with (fail)
        refine HND.out.mono ?_
        rintro e w7 ⟨⟨bs', xa, xn, xc, oa', on, oc', rfl, NX', OU', d⟩, x7⟩
        have X7 := hide (bt X6.out x7 (Nat.le_refl _))
        obtain ⟨-, -, -, B7, -, -⟩ := HC2.out w7 X7.out
        have A4 : Hid ((#[.string ⟨bs'.toArray⟩, .slice xa xn xc, .slice oa' on oc'] : Array Value).all (·.oneCell') = true) := by unfold Hid; simp [Value.oneCell']
        have HB7 := hide B7
        have B8 := setRow_heap w7 (w.heap.size + 1) _ #[.string ⟨bs'.toArray⟩, .slice xa xn xc, .slice oa' on oc'] 24 (0, 0) B7
        have k8 : Kept (fun k => k = w.heap.size + 1) w7 (w7.setRow (w.heap.size + 1) #[.string ⟨bs'.toArray⟩, .slice xa xn xc, .slice oa' on oc']) := kept_row
        have x8 := bt HX2.out X7.out (Nat.le_refl _)
        have X8 := hide (x8.trans (k8.below x8.size (fun b hb => by omega)))
        have hs2 := HS2.out
        have hs6 := X6.out.size
        have hO : OneP bs NX OU w6.heap.size (.returned (.tuple #[auV bs' xa xn xc oa' on oc', .int .i64 0])) w7 := .inl ⟨bs', xa, xn, xc, oa', on, oc', rfl, NX', OU', d⟩
        have HP8 := hide (hO.kept k8 (by omega) (show w.heap.size ≤ w6.heap.size by omega))
        have z0 := cell_of_row _ _ 0 _ _ _ B8
        have z1 := cell_of_row _ _ 1 _ _ _ B8
        have z2 := cell_of_row _ _ 2 _ _ _ B8
        clear B8 k8 B7 x8 x7 hO HND d c0 c1 c2
        go_wp2_with (refine wpList_store_row rfl 24 (.tmp 2) (.tmp 33) rfl (w.heap.size + 1) #[.string ⟨bs'.toArray⟩, .slice xa xn xc, .slice oa' on oc'] rfl rfl 24 #[.string ⟨#[]⟩, .slice none 0 0, .slice none 0 0] HB7.out HI.out rfl A4.out ?_)
        refine bodyPost_ret (by simp [results, Tryz.results13, go_sem, z0, z1, z2]; try rfl) rfl ?_
        exact ⟨.inr ⟨NX, OU, rfl, rfl, HMM.out, HMZ.out, HP8.out⟩, X8.out⟩
      · as_aux_lemma =>
        have A0 : Hid ((#[.string ⟨#[]⟩, .slice none 0 0, .slice none 0 0] : Array Value).all (·.oneCell') = true) := by unfold Hid; simp [Value.oneCell']
        have HB6 := hide B6
        have B8 := setRow_heap w6 (w.heap.size + 1) _ #[.string ⟨#[]⟩, .slice none 0 0, .slice none 0 0] 24 (0, 0) B6
        have k8 : Kept (fun k => k = w.heap.size + 1) w6 (w6.setRow (w.heap.size + 1) #[.string ⟨#[]⟩, .slice none 0 0, .slice none 0 0]) := kept_row
        have x8 := bt HX2.out X6.out (Nat.le_refl _)
        have X8 := hide (x8.trans (k8.below x8.size (fun b hb => by omega)))
        have z0 := cell_of_row _ _ 0 _ _ _ B8
        have z1 := cell_of_row _ _ 1 _ _ _ B8
        have z2 := cell_of_row _ _ 2 _ _ _ B8
        have HNO := hide hno
        clear B8 k8 B6 x8 kx ko hno c0 c1 c2
        go_wp2_with (refine wpList_store_row rfl 24 (.tmp 2) (.tmp 28) rfl (w.heap.size + 1) #[.string ⟨#[]⟩, .slice none 0 0, .slice none 0 0] rfl rfl 24 #[.string ⟨#[]⟩, .slice none 0 0, .slice none 0 0] HB6.out HI.out rfl A0.out ?_)
        refine bodyPost_ret (by simp [results, Tryz.results13, go_sem, z0, z1, z2]; try rfl) rfl ?_
        exact ⟨.inr ⟨NX, OU, rfl, rfl, HMM.out, HMZ.out, .inr ⟨rfl, HNO.out⟩⟩, X8.out⟩
end Go.Proofs.YtdgoilkgplnhfaaGreat
/-
  The reader's sees, member and item by their contracts. Condition: a text is no longer than a process can hold.
-/
namespace Go.Proofs.YtdgoilkgplnhfaaGreat
open Go.RowKit Go.Lib

theorem idx_two (c : UInt8) : decide (0 ≤ Lib.indexByte [93, 45] ((c.toNat : Int).toNat.toUInt8)) = ([93].isPrefixOf [c] || [45].isPrefixOf [c]) := by
  rw [Int.toNat_natCast]
  show decide (0 ≤ Lib.indexByte [93, 45] (UInt8.ofNat c.toNat)) = _
  rw [UInt8.ofNat_toNat]
  unfold Lib.indexByte Lib.indexByte Lib.indexByte
  simp only [List.isPrefixOf, Bool.and_true]
  by_cases h1 : (93 == c) = true
  · simp [h1]
  · by_cases h2 : (45 == c) = true
    · simp [h1, h2]
    · simp [h1, h2]
set_option maxRecDepth 100000 in
set_option maxHeartbeats 2000000 in
theorem sees_any (rb : Nat) (p r : By) (w : World) (hl : (p ++ r).length ≤ 140737488351232) (h : RdAt w rb p r) :
    Calls Tryz.prog 164 #[.pointer (some ⟨rb, 0, none⟩), .string ⟨#[93, 45]⟩] w fun e w' => e = .returned (.bool ([93].isPrefixOf r || [45].isPrefixOf r)) ∧ Below w.heap.size w w' := by
  have c0 := h.c0
  have c1 := h.c1
  clear h
  cases r with
  | nil =>
    rw [List.append_nil] at c0
    go_enter Tryz.func164, Tryz.ntmps164
    go_wp2
    go_quiet (fail)
    go_wp2
    go_ret
    exact ⟨rfl, below_drewN _ _ _⟩
  | cons c r =>
    have hpl : p.length < (p ++ c :: r).length := by rw [List.length_append, List.length_cons]; omega
    have z1 : (p.length : Int) < ((p ++ c :: r).length : Int) := by omega
    obtain ⟨s, HS⟩ : ∃ s, Hid (s = p ++ c :: r) := ⟨_, rfl⟩
    have hg' : ∀ hk, (⟨s.toArray⟩ : ByteArray)[p.length]'hk = c := by rw [HS.out]; exact fun _ => (by rw [idx_str]; simp)
    rw [← HS.out] at c0 z1 hl hpl
    have HI := hide (fun w => idxByte_any [93, 45] (c.toNat : Int) w)
    have HT := hide (idx_two c)
    have HE : Hid (([93].isPrefixOf (c :: r) || [45].isPrefixOf (c :: r)) = ([93].isPrefixOf [c] || [45].isPrefixOf [c])) := by simp [Hid, List.isPrefixOf]
    generalize Lib.indexByte [93, 45] ((c.toNat : Int).toNat.toUInt8) = i at HI HT
    go_enter Tryz.func164, Tryz.ntmps164
    go_wp2
    go_region_held3 (fun w' => w'.cell? ⟨rb, 0, none⟩ = some (.string ⟨s.toArray⟩) ∧ w'.cell? ⟨rb, 1, none⟩ = some (.int .i64 (p.length : Nat))) (first | assumption | (simp [go_sem, *]; done))
      (first | (go_at_call 100; refine (HI.out _).mono ?_; rintro e w2 ⟨rfl, hw2⟩; subst hw2))
    go_wp2
    go_ret
    refine ⟨?_, ?_⟩
    · show Ending.returned (Value.bool (decide (0 ≤ i))) = _
      rw [HE.out, ← HT.out]
    · exact ⟨rfl, rfl, rfl, Nat.le_refl _, fun _ _ => rfl⟩
end Go.Proofs.YtdgoilkgplnhfaaGreat
/-
  The reader's member and item by their contracts: what they read is a function of the bytes that are left. Condition: a text is no longer than a process can hold.
-/
namespace Go.Proofs.YtdgoilkgplnhfaaGreat
open Go.RowKit Go.Lib

/-- A reader of s, ahead of r. -/
def RdS (w : World) (rb : Nat) (s r : By) : Prop := ∃ q, s = q ++ r ∧ RdAt w rb q r
theorem RdS.below {w w' : World} {rb : Nat} {s r : By} (h : RdS w rb s r) (x : Below w.heap.size w w') : RdS w' rb s r := by
  obtain ⟨q, h1, h2⟩ := h
  exact ⟨q, h1, h2.below x⟩
theorem RdS.kept {F : Nat → Prop} {w w' : World} {rb : Nat} {s r : By} (h : RdS w rb s r) (x : Kept F w w') (hF : ¬ F rb) : RdS w' rb s r := by
  obtain ⟨q, h1, h2⟩ := h
  exact ⟨q, h1, h2.kept x hF⟩
theorem RdS.lt {w : World} {rb : Nat} {s r : By} (h : RdS w rb s r) : rb < w.heap.size := by
  obtain ⟨q, h1, h2⟩ := h
  exact lt_of_block h2
theorem RdS.len {w : World} {rb : Nat} {s r : By} (h : RdS w rb s r) : r.length ≤ s.length := by
  obtain ⟨q, h1, h2⟩ := h
  rw [h1, List.length_append]; omega
theorem skip_s (rb : Nat) (s q r : By) (w : World) (hl : s.length ≤ 140737488351232) (hq : q.length ≤ 8) (h : RdS w rb s r) :
    Calls Tryz.prog 91 #[.pointer (some ⟨rb, 0, none⟩), .string ⟨q.toArray⟩] w fun e w' => e = .returned (.bool (q.isPrefixOf r)) ∧ RdS w' rb s (if q.isPrefixOf r = true then r.drop q.length else r) ∧ Kept (fun k => k = rb) w w' := by
  obtain ⟨p, rfl, h2⟩ := h
  refine (skip_any rb p q r w hl hq h2).mono fun e w' ⟨h3, h4, h5, h6⟩ => ⟨h3, ?_, h6⟩
  cases hb : q.isPrefixOf r with
  | true =>
    rw [if_pos rfl]
    refine ⟨p ++ q, ?_, h4 hb⟩
    obtain ⟨t, rfl⟩ := List.isPrefixOf_iff_prefix.1 hb
    simp
  | false => rw [if_neg (by decide)]; exact ⟨p, rfl, h5 hb⟩
/-- What take, member tell. -/
def TkIs (rb : Nat) (s : By) (x : Except By (UInt8 × By)) (e : Ending) (w' : World) : Prop := match x with
  | .ok (c, t) => e = .returned (.tuple #[.int .i64 (c.toNat : Nat), .bool true]) ∧ RdS w' rb s t
  | .error t => e = .returned (.tuple #[.int .i64 0, .bool false]) ∧ RdS w' rb s t
theorem take_s (rb : Nat) (s r : By) (least : Nat) (w : World) (hl : s.length ≤ 140737488351232) (h : RdS w rb s r) :
    Calls Tryz.prog 93 #[.pointer (some ⟨rb, 0, none⟩), .int .i64 (least : Nat)] w fun e w' => TkIs rb s (tkL least r) e w' ∧ Kept (fun k => k = rb) w w' := by
  obtain ⟨p, rfl, h2⟩ := h
  cases r with
  | nil => exact (take_end rb p least w h2).mono fun e w' ⟨h3, h4, h5⟩ => ⟨⟨h3, p, rfl, h4⟩, h5⟩
  | cons c r =>
    refine (take_any rb p r c least w hl h2).mono fun e w' ⟨h3, h4⟩ => ⟨?_, h4⟩
    have e0 : tkL least (c :: r) = if least ≤ c.toNat ∧ c.toNat ≤ 126 then .ok (c, r) else .error (c :: r) := rfl
    rw [e0]
    rcases h3 with ⟨h5, h6, h7, h8⟩ | ⟨h5, h7, h8⟩
    · rw [if_pos ⟨by omega, h6⟩]
      exact ⟨h7, p ++ [c], by simp, h8⟩
    · rw [if_neg (fun h => h5 ⟨by omega, h.2⟩)]
      exact ⟨h7, p, rfl, h8⟩
theorem sees_s (rb : Nat) (s r : By) (w : World) (hl : s.length ≤ 140737488351232) (h : RdS w rb s r) :
    Calls Tryz.prog 164 #[.pointer (some ⟨rb, 0, none⟩), .string ⟨#[93, 45]⟩] w fun e w' => e = .returned (.bool ([93].isPrefixOf r || [45].isPrefixOf r)) ∧ RdS w' rb s r ∧ Kept (fun k => k = rb) w w' := by
  have h0 := h
  obtain ⟨p, rfl, h2⟩ := h
  exact (sees_any rb p r w hl h2).mono fun e w' ⟨h3, h4⟩ => ⟨h3, h0.below h4, Kept.of_below h4⟩

set_option maxRecDepth 100000 in
set_option maxHeartbeats 2000000 in
theorem member_s (rb : Nat) (s r : By) (least : Nat) (w : World) (hl : s.length ≤ 140737488351232) (h : RdS w rb s r) :
    Calls Tryz.prog 144 #[.pointer (some ⟨rb, 0, none⟩), .int .i64 (least : Nat)] w fun e w' => TkIs rb s (mbL least r) e w' ∧ Kept (fun k => k = rb) w w' := by
  have h1 := skip_s rb s [92] r w hl (by decide) h
  have H1 := hide h1
  clear h1 h
  cases hb : [92].isPrefixOf r with
  | true =>
    have HE : Hid (mbL least r = tkL least (r.drop 1)) := by unfold Hid mbL; rw [if_pos hb]
    rw [hb, if_pos rfl] at H1
    clear hb
    go_enter Tryz.func144, Tryz.ntmps144
    go_wp2_with (fail)
    refine H1.out.mono ?_
    rintro e w2 ⟨rfl, r2, k2⟩
    have K2 := hide k2
    have H3 := hide (take_s rb s _ least w2 hl r2)
    clear r2 k2 H1
    go_wp2_with (fail)
    refine H3.out.mono ?_
    rintro e w3 ⟨h3, k3⟩
    have K3 := hide (K2.out.trans k3)
    rw [show List.length [(92 : UInt8)] = 1 from rfl, ← HE.out] at h3
    clear k3 H3
    cases hm : mbL least r with
    | ok x =>
      obtain ⟨c, t⟩ := x
      rw [hm] at h3
      obtain ⟨rfl, r3⟩ := h3
      have R3 := hide r3
      have HM := hide hm
      clear r3 hm HE
      go_wp2
      go_ret2
      refine ⟨?_, K3.out⟩
      unfold TkIs
      rw [HM.out]
      exact ⟨rfl, R3.out⟩
    | error t =>
      rw [hm] at h3
      obtain ⟨rfl, r3⟩ := h3
      have R3 := hide r3
      have HM := hide hm
      clear r3 hm HE
      go_wp2
      go_ret2
      refine ⟨?_, K3.out⟩
      unfold TkIs
      rw [HM.out]
      exact ⟨rfl, R3.out⟩
  | false =>
    rw [hb, if_neg (by decide)] at H1
    cases hc : ([93].isPrefixOf r || [45].isPrefixOf r) with
    | true =>
      have HE : Hid (mbL least r = .error r) := by unfold Hid mbL; rw [if_neg (by rw [hb]; decide), if_pos hc]
      have H2 := hide (fun w' (h : RdS w' rb s r) => sees_s rb s r w' hl h)
      rw [hc] at H2
      clear hb hc
      go_enter Tryz.func144, Tryz.ntmps144
      go_wp2_with (fail)
      refine H1.out.mono ?_
      rintro e w2 ⟨rfl, r2, k2⟩
      have K2 := hide k2
      have H3 := hide (H2.out w2 r2)
      clear r2 k2 H1 H2
      go_wp2_with (fail)
      refine H3.out.mono ?_
      rintro e w3 ⟨rfl, r3, k3⟩
      have K3 := hide (K2.out.trans k3)
      have R3 := hide r3
      clear r3 k3 H3
      go_wp2
      go_ret2
      rw [HE.out]
      exact ⟨⟨rfl, R3.out⟩, K3.out⟩
    | false =>
      have HE : Hid (mbL least r = tkL least r) := by unfold Hid mbL; rw [if_neg (by rw [hb]; decide), if_neg (by rw [hc]; decide)]
      have H2 := hide (fun w' (h : RdS w' rb s r) => sees_s rb s r w' hl h)
      rw [hc] at H2
      clear hb hc
      go_enter Tryz.func144, Tryz.ntmps144
      go_wp2_with (fail)
      refine H1.out.mono ?_
      rintro e w2 ⟨rfl, r2, k2⟩
      have K2 := hide k2
      have H3 := hide (H2.out w2 r2)
      clear r2 k2 H1 H2
      go_wp2_with (fail)
      refine H3.out.mono ?_
      rintro e w3 ⟨rfl, r3, k3⟩
      have K3 := hide (K2.out.trans k3)
      have H4 := hide (take_s rb s r least w3 hl r3)
      clear r3 k3 H3
      go_wp2_with (fail)
      refine H4.out.mono ?_
      rintro e w4 ⟨h4, k4⟩
      have K4 := hide (K3.out.trans k4)
      rw [← HE.out] at h4
      clear k4 H4
      cases hm : mbL least r with
      | ok x =>
        obtain ⟨c, t⟩ := x
        rw [hm] at h4
        obtain ⟨rfl, r3⟩ := h4
        have R3 := hide r3
        have HM := hide hm
        clear r3 hm HE
        go_wp2
        go_ret2
        refine ⟨?_, K4.out⟩
        unfold TkIs
        rw [HM.out]
        exact ⟨rfl, R3.out⟩
      | error t =>
        rw [hm] at h4
        obtain ⟨rfl, r3⟩ := h4
        have R3 := hide r3
        have HM := hide hm
        clear r3 hm HE
        go_wp2
        go_ret2
        refine ⟨?_, K4.out⟩
        unfold TkIs
        rw [HM.out]
        exact ⟨rfl, R3.out⟩
/-- What item tells. -/
def ItIs (rb : Nat) (s : By) (x : Except By (Spn × By)) (e : Ending) (w' : World) : Prop := match x with
  | .ok (p, t) => e = .returned (.tuple #[.agg #[.int .i64 p.1, .int .i64 p.2], .bool true]) ∧ RdS w' rb s t
  | .error t => (∃ a b : Int, e = .returned (.tuple #[.agg #[.int .i64 a, .int .i64 b], .bool false])) ∧ RdS w' rb s t
theorem TkIs.ok {rb : Nat} {s t : By} {x : Except By (UInt8 × By)} {c : UInt8} {e : Ending} {w' : World} (h : TkIs rb s x e w') (hx : x = .ok (c, t)) : e = .returned (.tuple #[.int .i64 (c.toNat : Nat), .bool true]) ∧ RdS w' rb s t := by subst hx; exact h
theorem TkIs.err {rb : Nat} {s t : By} {x : Except By (UInt8 × By)} {e : Ending} {w' : World} (h : TkIs rb s x e w') (hx : x = .error t) : e = .returned (.tuple #[.int .i64 0, .bool false]) ∧ RdS w' rb s t := by subst hx; exact h
set_option maxRecDepth 100000 in
set_option maxHeartbeats 2000000 in
theorem item_s (rb : Nat) (s r : By) (w : World) (hl : s.length ≤ 140737488351232) (h : RdS w rb s r) :
    Calls Tryz.prog 125 #[.pointer (some ⟨rb, 0, none⟩)] w fun e w' => ItIs rb s (itL r) e w' ∧ Kept (fun k => k = rb) w w' := by
  have X0 := hide (al (Below.refl w.heap.size w) (.cells #[.int .i64 0, .int .i64 0] 175))
  have B0 := hide (heap_alloc_new w (.cells #[.int .i64 0, .int .i64 0] 175))
  have H1 := hide (member_s rb s r 32 (w.alloc (.cells #[.int .i64 0, .int .i64 0] 175)) hl (h.below X0.out))
  have HRL : Hid (w.heap.size ≠ rb) := by have := h.lt; unfold Hid; omega
  clear h
  go_enter Tryz.func125, Tryz.ntmps125
  go_wp2_with (fail)
  refine H1.out.mono ?_
  rintro e w2 ⟨h2, k2⟩
  have K2 := hide k2
  have B2 := hide ((k2.block _ (lt_of_block B0.out) HRL.out).trans B0.out)
  clear k2 H1
  have KW := hide ((Kept.of_below X0.out : Kept (fun k => k = rb) _ _).trans K2.out)
  have HKF := hide (fun (W W' : World) (h : Kept (fun k => k = rb) w W) (h' : Kept (fun k => k = w.heap.size) W W') => (Kept.trans_new h h' (fun i hi hg => by rw [hg] at hi; exact absurd hi (Nat.lt_irrefl _)) : Kept (fun k => k = rb) w W'))
  cases hm : mbL 32 r with
  | error t =>
    obtain ⟨rfl, r2⟩ := h2.err hm
    have HE : Hid (itL r = .error t) := by unfold Hid itL; rw [hm]
    clear h2 hm
    obtain ⟨c0, f0, c1, f1, d0, d1, k3⟩ := st2 B2.out (.int .i64 0) (.int .i64 0)
    have R3 := hide (r2.kept k3 (fun h => HRL.out h.symm))
    have K3 := hide (HKF.out _ _ KW.out k3)
    clear r2 k3
    go_wp2
    refine bodyPost_ret (by simp [results, Tryz.results125, go_sem, d0, d1]; try rfl) rfl ?_
    refine ⟨?_, K3.out⟩
    rw [HE.out]
    exact ⟨⟨0, 0, rfl⟩, R3.out⟩
  | ok x =>
    obtain ⟨lo, t⟩ := x
    obtain ⟨rfl, r2⟩ := h2.ok hm
    have H3 := hide (skip_s rb s [45] t w2 hl (by decide) r2)
    clear h2 r2
    cases hb : [45].isPrefixOf t with
    | false =>
      have HE : Hid (itL r = .ok ((((lo.toNat : Nat) : Int), ((lo.toNat : Nat) : Int)), t)) := by unfold Hid itL; rw [hm]; simp only; rw [if_neg (by rw [hb]; decide)]
      rw [hb, if_neg (by decide)] at H3
      clear hm hb
      go_wp2_with (fail)
      refine H3.out.mono ?_
      rintro e w3 ⟨rfl, r3, k3⟩
      have B3 := hide ((k3.block _ (lt_of_block B2.out) HRL.out).trans B2.out)
      have KW3 := hide (KW.out.trans k3)
      obtain ⟨c0, f0, c1, f1, d0, d1, k4⟩ := st2 B3.out (.int .i64 (lo.toNat : Nat)) (.int .i64 (lo.toNat : Nat))
      have R4 := hide (r3.kept k4 (fun h => HRL.out h.symm))
      have K4 := hide (HKF.out _ _ KW3.out k4)
      clear r3 k3 k4 H3
      go_wp2
      refine bodyPost_ret (by simp [results, Tryz.results125, go_sem, d0, d1]; try rfl) rfl ?_
      refine ⟨?_, K4.out⟩
      rw [HE.out]
      exact ⟨rfl, R4.out⟩
    | true =>
      rw [hb, if_pos rfl] at H3
      cases hn : mbL lo.toNat (t.drop 1) with
      | error u =>
        have HE : Hid (itL r = .error u) := by unfold Hid itL; rw [hm]; simp only; rw [if_pos hb, hn]
        have HN := hide hn
        clear hm hb hn
        go_wp2_with (fail)
        refine H3.out.mono ?_
        rintro e w3 ⟨rfl, r3, k3⟩
        have B3 := hide ((k3.block _ (lt_of_block B2.out) HRL.out).trans B2.out)
        have KW3 := hide (KW.out.trans k3)
        have H4 := hide (member_s rb s _ lo.toNat w3 hl r3)
        clear r3 k3 H3
        go_wp2_with (fail)
        refine H4.out.mono ?_
        rintro e w4 ⟨h4, k4⟩
        obtain ⟨rfl, r4⟩ := h4.err HN.out
        have B4 := hide ((k4.block _ (lt_of_block B3.out) HRL.out).trans B3.out)
        have KW4 := hide (KW3.out.trans k4)
        obtain ⟨c0, f0, c1, f1, d0, d1, k5⟩ := st2 B4.out (.int .i64 (lo.toNat : Nat)) (.int .i64 0)
        have R5 := hide (r4.kept k5 (fun h => HRL.out h.symm))
        have K5 := hide (HKF.out _ _ KW4.out k5)
        clear r4 k4 k5 h4 H4
        go_wp2
        refine bodyPost_ret (by simp [results, Tryz.results125, go_sem, d0, d1]; try rfl) rfl ?_
        refine ⟨?_, K5.out⟩
        rw [HE.out]
        exact ⟨⟨_, 0, rfl⟩, R5.out⟩
      | ok x =>
        obtain ⟨hi, u⟩ := x
        have HE : Hid (itL r = .ok ((((lo.toNat : Nat) : Int), ((hi.toNat : Nat) : Int)), u)) := by unfold Hid itL; rw [hm]; simp only; rw [if_pos hb, hn]
        have HN := hide hn
        clear hm hb hn
        go_wp2_with (fail)
        refine H3.out.mono ?_
        rintro e w3 ⟨rfl, r3, k3⟩
        have B3 := hide ((k3.block _ (lt_of_block B2.out) HRL.out).trans B2.out)
        have KW3 := hide (KW.out.trans k3)
        have H4 := hide (member_s rb s _ lo.toNat w3 hl r3)
        clear r3 k3 H3
        go_wp2_with (fail)
        refine H4.out.mono ?_
        rintro e w4 ⟨h4, k4⟩
        obtain ⟨rfl, r4⟩ := h4.ok HN.out
        have B4 := hide ((k4.block _ (lt_of_block B3.out) HRL.out).trans B3.out)
        have KW4 := hide (KW3.out.trans k4)
        obtain ⟨c0, f0, c1, f1, d0, d1, k5⟩ := st2 B4.out (.int .i64 (lo.toNat : Nat)) (.int .i64 (hi.toNat : Nat))
        have R5 := hide (r4.kept k5 (fun h => HRL.out h.symm))
        have K5 := hide (HKF.out _ _ KW4.out k5)
        clear r4 k4 k5 h4 H4
        go_wp2
        refine bodyPost_ret (by simp [results, Tryz.results125, go_sem, d0, d1]; try rfl) rfl ?_
        refine ⟨?_, K5.out⟩
        rw [HE.out]
        exact ⟨rfl, R5.out⟩
end Go.Proofs.YtdgoilkgplnhfaaGreat
