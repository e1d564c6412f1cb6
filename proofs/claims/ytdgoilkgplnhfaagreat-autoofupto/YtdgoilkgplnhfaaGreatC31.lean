/-
  The code's Least by its contract. Condition: lists no longer than a process can hold.
-/
import Derived.Test.YtdgoilkgplnhfaaGreatC30
set_option maxRecDepth 100000
set_option maxHeartbeats 16000000
namespace Go.Proofs.YtdgoilkgplnhfaaGreat
open Go.RowKit Go.Lib
def zN (L : List Nat) : List Int := L.map fun (n : Nat) => (n : Int)
theorem zN_back (L : List Int) (h : ∀ z ∈ L, 0 ≤ z) : zN (L.map Int.toNat) = L := by
 unfold zN
 rw [List.map_map]
 conv => rhs; rw [← List.map_id L]
 refine List.map_congr_left (fun z hz => ?_)
 have := h z hz
 show ((z.toNat : Nat) : Int) = z
 omega
theorem mxL_ge (L : List Nat) : ∀ x ∈ L, x ≤ mxL L := by
 have key : ∀ (L : List Nat) (a : Nat), a ≤ L.foldl max a ∧ ∀ x ∈ L, x ≤ L.foldl max a := by
  intro L
  induction L with
  | nil => intro a; exact ⟨Nat.le_refl _, fun x hx => by cases hx⟩
  | cons y L ih =>
    intro a
    rw [List.foldl_cons]
    obtain ⟨h1, h2⟩ := ih (max a y)
    refine ⟨by omega, fun x hx => ?_⟩
    rcases List.mem_cons.1 hx with rfl | hx
    · omega
    · exact h2 x hx
 exact (key L 0).2
theorem may_of {bs : By} {NZ OZ : List Int} (h : MayZ bs NZ OZ) : ∃ NX OU, NZ = zN NX ∧ OZ = zN OU ∧ MayA bs NX OU := by
 obtain ⟨h1, h2, h3, h4, h5, h6⟩ := h
 have hn : ∀ z ∈ NZ, 0 ≤ z ∧ z < (OZ.length : Int) := fun z hz => by
  have := List.any_eq_false.1 h5 z hz
  unfold noneB at this
  simp at this
  omega
 have ho : ∀ z ∈ OZ, 0 ≤ z ∧ z ≤ 65535 := fun z hz => by
  have := List.any_eq_false.1 h6 z hz
  by_cases hl : Lab z
  · exact hl
  · exact absurd (by unfold nlB; simp [hl]) this
 have hdiv : NZ.length / OZ.length = mxL (ntL bs) + 1 := by rw [h4]; exact Nat.mul_div_cancel_left _ (by omega)
 have hml := mxL_lt bs
 refine ⟨NZ.map Int.toNat, OZ.map Int.toNat, (zN_back NZ (fun z hz => (hn z hz).1)).symm, (zN_back OZ (fun z hz => (ho z hz).1)).symm, h1, by rw [List.length_map]; omega, by rw [List.length_map]; exact h3, ?_, fun b hb => ?_, ?_, fun x hx => ?_, fun x hx => ?_⟩
 · rw [List.length_map, List.length_map, hdiv]; exact h4
 · rw [List.length_map, List.length_map, hdiv]
   have hbl : b < bs.length := by omega
   have e : bs.getD b 0 = bs[b] := by simp [List.getD_eq_getElem?_getD, hbl]
   have := mxL_ge (ntL bs) (bs[b]).toNat (List.mem_map.2 ⟨_, List.getElem_mem hbl, rfl⟩)
   rw [e]
   omega
 · rw [List.length_map, List.length_map, hdiv]; omega
 · obtain ⟨z, hz, rfl⟩ := List.mem_map.1 hx
   have := hn z hz
   rw [List.length_map]
   omega
 · obtain ⟨z, hz, rfl⟩ := List.mem_map.1 hx
   have := ho z hz
   omega
theorem ZAt.nat {w : World} {ao : Option Addr} {L : List Nat} (h : ZAt w ao (zN L)) : NAt w ao L := by
 rcases h with h | ⟨b, off, h1, h2, h3⟩
 · exact .inl (List.map_eq_nil_iff.1 h)
 · refine .inr ⟨b, off, h1, h2, fun i hi => ?_⟩
   have := h3 i (by unfold zN; rw [List.length_map]; exact hi)
   rw [this]
   simp [zN]
theorem OneP.kept {bs : By} {NX OU : List Nat} {base base' g : Nat} {e : Ending} {w w' : World} (h : OneP bs NX OU base e w) (k : Kept (fun b => b = g) w w') (hg : g < base) (hb : base' ≤ base) : OneP bs NX OU base' e w' := by
 rcases h with ⟨bs', xa, xn, xc, oa, on, oc, h1, NX', OU', d⟩ | h
 · refine .inl ⟨bs', xa, xn, xc, oa, on, oc, h1, NX', OU', ?_, d.rt, d.lb, d.may, d.n⟩
   have r := d.rws.kept k (fun j hj b hb e => by
    have := (World.ownsRow.lt (show w.ownsRow base 3 1 _ _ (nCells _) from d.rws.own j hj) b hb).1
    omega)
   exact ⟨fun j hj => (r.own j hj).mono' hb, r.ap⟩
 · exact .inr h
def LeP (bs : By) (NZ OZ : List Int) (base : Nat) (e : Ending) (w : World) : Prop :=
 (¬ MayZ bs NZ OZ ∧ e = .returned (.tuple #[auV [] none 0 0 none 0 0, .int .i64 60])) ∨ ∃ NX OU, NZ = zN NX ∧ OZ = zN OU ∧ MayA bs NX OU ∧ MayZ bs NZ OZ ∧ OneP bs NX OU base e w
theorem OneP.shape {bs : By} {NX OU : List Nat} {base : Nat} {e : Ending} {w : World} (h : OneP bs NX OU base e w) : ∃ (bs' : By) (xa : Option Addr) (xn xc : Nat) (oa : Option Addr) (on oc : Nat) (m : Int), e = .returned (.tuple #[.agg #[.string ⟨bs'.toArray⟩, .slice xa xn xc, .slice oa on oc], .int .i64 m]) := by
 rcases h with ⟨bs', xa, xn, xc, oa, on, oc, h1, _⟩ | ⟨h1, _⟩
 · exact ⟨bs', xa, xn, xc, oa, on, oc, 0, h1⟩
 · exact ⟨[], none, 0, 0, none, 0, 0, 2, h1⟩
theorem mayZ_out {bs : By} {NZ OZ : List Int} (h : MayZ bs NZ OZ) : (∀ i (h : i < OZ.length), Lab OZ[i]) ∧ ∀ i (h : i < NZ.length), 0 ≤ NZ[i] ∧ NZ[i] < (OZ.length : Int) := by
 obtain ⟨_, _, _, _, h5, h6⟩ := h
 refine ⟨fun i hi => ?_, fun i hi => ?_⟩
 · have := List.any_eq_false.1 h6 _ (List.getElem_mem hi)
   by_cases hl : Lab OZ[i]
   · exact hl
   · exact absurd (by unfold nlB; simp [hl]) this
 · have := List.any_eq_false.1 h5 _ (List.getElem_mem hi)
   unfold noneB at this
   simp at this
   omega
theorem mayZ_in {bs : By} {NZ OZ : List Int} (h1 : bs.length = 256) (h2 : ¬ OZ.length < 1) (h3 : ¬ 65536 < OZ.length) (h4 : NZ.length = (mxL (ntL bs) + 1) * OZ.length) (h5 : ∀ i (h : i < OZ.length), Lab OZ[i]) (h6 : ∀ i (h : i < NZ.length), 0 ≤ NZ[i] ∧ NZ[i] < (OZ.length : Int)) : MayZ bs NZ OZ := by
 refine ⟨h1, by omega, by omega, by rw [h4, Nat.mul_comm], List.any_eq_false.2 (fun z hz => ?_), List.any_eq_false.2 (fun z hz => ?_)⟩
 · obtain ⟨i, hi, rfl⟩ := List.getElem_of_mem hz
   have := h6 i hi
   unfold noneB
   simp
   omega
 · obtain ⟨i, hi, rfl⟩ := List.getElem_of_mem hz
   have := h5 i hi
   unfold nlB
   simp [this]
theorem mayD_any (bs : By) (na oa : Option Addr) (nc oc : Nat) (NZ OZ : List Int) (w : World) (hnl : NZ.length ≤ 140737488351232) (hol : OZ.length ≤ 140737488351232) (hnx : ZAt w na NZ) (hou : ZAt w oa OZ) :
 Calls Tryz.prog 35 #[auV bs na NZ.length nc oa OZ.length oc] w fun e w' => TellsB (MayZ bs NZ OZ) e ∧ Below w.heap.size w w' := by
 obtain ⟨w2, hw2⟩ : ∃ w2, w2 = w.alloc (.cells #[.string ⟨bs.toArray⟩, .slice na NZ.length nc, .slice oa OZ.length oc] 24) := ⟨_, rfl⟩
 have X2 : Below w.heap.size w w2 := by rw [hw2]; exact al (Below.refl _ _) _
 have B2 : w2.heap[w.heap.size]? = some (.cells #[.string ⟨bs.toArray⟩, .slice na NZ.length nc, .slice oa OZ.length oc] 24 (0, 0)) := by rw [hw2]; exact heap_alloc_new w _
 have HC : Hid (∀ V, Below w2.heap.size w2 V → V.cell? ⟨w.heap.size, 0, none⟩ = some (.string ⟨bs.toArray⟩) ∧ V.cell? ⟨w.heap.size, 1, none⟩ = some (.slice na NZ.length nc) ∧ V.cell? ⟨w.heap.size, 2, none⟩ = some (.slice oa OZ.length oc) ∧ ZAt V na NZ ∧ ZAt V oa OZ) := fun V x => by
  have Bv := (x.block _ (lt_of_block B2)).trans B2
  have y := bt X2 x (Nat.le_refl _)
  exact ⟨by rw [cell_of_row _ _ _ _ _ _ Bv]; rfl, by rw [cell_of_row _ _ _ _ _ _ Bv]; rfl, by rw [cell_of_row _ _ _ _ _ _ Bv]; rfl, hnx.below y, hou.below y⟩
 have HX2 := hide X2
 obtain ⟨c0, c1, c2, _⟩ := HC.out w2 (Below.refl _ _)
 clear X2 B2 hnx hou
 have NOT : Hid (∀ P : Prop, ¬ P → TellsB P (.returned (.bool false))) := fun P h => ⟨false, rfl, by simp [h]⟩
 unfold auV
 go_enter Tryz.func35, Tryz.ntmps35
 go_upto_region 1 with fail
 rw [← hw2]
 clear hw2
 by_cases h1 : bs.length = 256
 case neg =>
  have b1 : ((bs.length : Int) != 256) = true := by simp; omega
  have HN : Hid (¬ MayZ bs NZ OZ) := fun h => h1 h.1
  go_wp2
  go_ret
  exact ⟨NOT.out _ HN.out, HX2.out⟩
 have b1 : ((bs.length : Int) != 256) = false := by simp; omega
 by_cases h2 : OZ.length < 1
 case pos =>
  have b2 : ((OZ.length : Int) < 1) := by omega
  have HN : Hid (¬ MayZ bs NZ OZ) := fun h => by have := h.2.1; omega
  go_wp2
  go_ret
  exact ⟨NOT.out _ HN.out, HX2.out⟩
 have b2 : ¬ ((OZ.length : Int) < 1) := by omega
 by_cases h3 : 65536 < OZ.length
 case pos =>
  have b3 : (65536 : Int) < (OZ.length : Int) := by omega
  have HN : Hid (¬ MayZ bs NZ OZ) := fun h => by have := h.2.2.1; omega
  go_wp2
  go_ret
  exact ⟨NOT.out _ HN.out, HX2.out⟩
 have b3 : ¬ (65536 : Int) < (OZ.length : Int) := by omega
 have HWD := hide (wideD_any bs na oa NZ.length nc OZ.length oc w2 h1)
 unfold auV at HWD
 have hml := mxL_lt bs
 obtain ⟨W, hW⟩ : ∃ W, W = mxL (ntL bs) + 1 := ⟨_, rfl⟩
 rw [← hW] at HWD
 have hWl : W ≤ 256 := by omega
 have HW := hide hW
 clear hml hW
 go_upto_region 4 with (go_at_call 68; refine HWD.out.mono ?_; rintro e w3 ⟨rfl, x3⟩; have X3 := hide x3; clear x3)
 clear c0 c1 c2 HWD b1 b2 b3
 obtain ⟨c0, c1, c2, _⟩ := HC.out w3 X3.out
 have hWO : W * OZ.length ≤ 16777216 := Nat.mul_le_mul hWl (show OZ.length ≤ 65536 by omega)
 have f1 : IntKind.i64.wrap ((W : Int) * (OZ.length : Int)) = ((W * OZ.length : Nat) : Int) := by rw [show (W : Int) * (OZ.length : Int) = ((W * OZ.length : Nat) : Int) by simp]; exact w64_n _ (by omega)
 have XW := hide (bt HX2.out X3.out (Nat.le_refl _))
 by_cases h4 : NZ.length = W * OZ.length
 case neg =>
  have HN : Hid (¬ MayZ bs NZ OZ) := fun h => h4 (by rw [h.2.2.2.1, Nat.mul_comm, HW.out])
  generalize W * OZ.length = q at *
  have b4 : ((NZ.length : Int) != (q : Int)) = true := by simp; omega
  go_wp2
  go_ret
  exact ⟨NOT.out _ HN.out, XW.out⟩
 have HIN : Hid ((∀ i (h : i < OZ.length), Lab OZ[i]) → (∀ i (h : i < NZ.length), 0 ≤ NZ[i] ∧ NZ[i] < (OZ.length : Int)) → MayZ bs NZ OZ) := mayZ_in h1 h2 h3 (by rw [h4, HW.out])
 have HOUT := hide (fun h => mayZ_out (bs := bs) (NZ := NZ) (OZ := OZ) h)
 have b4 : ((NZ.length : Int) != (W : Int) * (OZ.length : Int)) = false := by rw [h4]; simp
 have H4 := hide h4
 clear h4
 go_upto_region 6 with fail
 clear b4 f1 c0 c1 c2
 go_wp2
 go_loopg [4] (OZ.length + 1) (fun g x wr => ∃ k : Nat, x = .int .i64 (k : Nat) ∧ k ≤ OZ.length ∧ Hid (∀ i (h : i < OZ.length), i < k → Lab OZ[i]) ∧ Hid (Below w2.heap.size w2 wr) ∧ OZ.length - k < g)
 case atStart => exact ⟨0, rfl, by omega, fun i _ h => by omega, X3, by omega⟩
 case round =>
  obtain ⟨k, rfl, hk1, HL, X, hg⟩ := hrel
  have HG := hide hg
  have XV := hide (bt HX2.out X.out (Nat.le_refl _))
  clear hg X3 XW
  obtain ⟨c0, c1, c2, kx, ko⟩ := HC.out wr X.out
  by_cases hk : k < OZ.length
  · have hk' : (k : Int) < (OZ.length : Int) := by omega
    obtain ⟨pb, off, rfl, cz⟩ := ko.get hk
    have HLK : Hid (Lab OZ[k] → ∀ i (h : i < OZ.length), i < k + 1 → Lab OZ[i]) := fun h i hi hik => by
     rcases Nat.lt_or_ge i k with h1 | h1
     · exact HL.out i hi h1
     · obtain rfl : i = k := by omega
       exact h
    have HNL : Hid (¬ Lab OZ[k] → ¬ MayZ bs NZ OZ) := fun h h' => h ((HOUT.out h').1 k hk)
    clear kx ko
    generalize OZ[k] = z at *
    by_cases hz1 : z < 0
    · have HN : Hid (¬ MayZ bs NZ OZ) := HNL.out (fun h => by unfold Lab at h; omega)
      go_wp2
      go_ret
      exact ⟨NOT.out _ HN.out, XV.out⟩
    · by_cases hz2 : 65535 < z
      · have HN : Hid (¬ MayZ bs NZ OZ) := HNL.out (fun h => by unfold Lab at h; omega)
        go_wp2
        go_ret
        exact ⟨NOT.out _ HN.out, XV.out⟩
      · have HL2 := hide (HLK.out ⟨by omega, by omega⟩)
        go_wp2
        go_roundg (OZ.length - (k + 1) + 1)
        case measure => have := HG.out; omega
        case rel => exact ⟨k + 1, by first | rfl | go_num | (congr 1; omega), by omega, HL2, X, by omega⟩
  · have hk' : ¬ (k : Int) < (OZ.length : Int) := by omega
    have HLA : Hid (∀ i (h : i < OZ.length), Lab OZ[i]) := fun i hi => HL.out i hi (by omega)
    clear kx ko HL
    go_wp2
    go_loopg [5] (NZ.length + 1) (fun g x wr => ∃ k : Nat, x = .int .i64 (k : Nat) ∧ k ≤ NZ.length ∧ Hid (∀ i (h : i < NZ.length), i < k → 0 ≤ NZ[i] ∧ NZ[i] < (OZ.length : Int)) ∧ Hid (Below w2.heap.size w2 wr) ∧ NZ.length - k < g)
    case atStart => exact ⟨0, rfl, by omega, fun i _ h => by omega, X, by omega⟩
    case round =>
     clear hk' hk hk1 X XV c0 c1 c2 HG
     obtain ⟨k, rfl, hk1, HL, X, hg⟩ := hrel
     have HG := hide hg
     have XV := hide (bt HX2.out X.out (Nat.le_refl _))
     clear hg
     obtain ⟨c0, c1, c2, kx, ko⟩ := HC.out wr X.out
     by_cases hk : k < NZ.length
     · have hk' : (k : Int) < (NZ.length : Int) := by omega
       obtain ⟨pb, off, rfl, cz⟩ := kx.get hk
       have HLK : Hid (0 ≤ NZ[k] ∧ NZ[k] < (OZ.length : Int) → ∀ i (h : i < NZ.length), i < k + 1 → 0 ≤ NZ[i] ∧ NZ[i] < (OZ.length : Int)) := fun h i hi hik => by
        rcases Nat.lt_or_ge i k with h1 | h1
        · exact HL.out i hi h1
        · obtain rfl : i = k := by omega
          exact h
       have HNL : Hid (¬ (0 ≤ NZ[k] ∧ NZ[k] < (OZ.length : Int)) → ¬ MayZ bs NZ OZ) := fun h h' => h ((HOUT.out h').2 k hk)
       clear kx ko
       generalize NZ[k] = z at *
       by_cases hz1 : z < 0
       · have HN : Hid (¬ MayZ bs NZ OZ) := HNL.out (fun h => by omega)
         have hd : decide (z < 0) = true := decide_eq_true hz1
         go_wp2
         go_quiet (fail)
         have XQ : Hid (Below w.heap.size w (wr.drewN nq)) := XV.out.trans ⟨rfl, rfl, rfl, Nat.le_refl _, fun _ _ => rfl⟩
         go_wp2
         go_ret
         exact ⟨NOT.out _ HN.out, XQ.out⟩
       · have hd : decide (z < 0) = false := decide_eq_false hz1
         by_cases hz2 : (OZ.length : Int) ≤ z
         · have HN : Hid (¬ MayZ bs NZ OZ) := HNL.out (fun h => by omega)
           have hd2 : decide ((OZ.length : Int) ≤ z) = true := decide_eq_true hz2
           go_wp2
           go_quiet (fail)
           have XQ : Hid (Below w.heap.size w (wr.drewN nq)) := XV.out.trans ⟨rfl, rfl, rfl, Nat.le_refl _, fun _ _ => rfl⟩
           go_wp2
           go_ret
           exact ⟨NOT.out _ HN.out, XQ.out⟩
         · have HL2 := hide (HLK.out ⟨by omega, by omega⟩)
           have hd2 : decide ((OZ.length : Int) ≤ z) = false := decide_eq_false hz2
           go_wp2
           go_quiet (fail)
           have XQ : Hid (Below w2.heap.size w2 (wr.drewN nq)) := X.out.trans ⟨rfl, rfl, rfl, Nat.le_refl _, fun _ _ => rfl⟩
           go_wp2
           go_roundg (NZ.length - (k + 1) + 1)
           case measure => have := HG.out; omega
           case rel => exact ⟨k + 1, by first | rfl | go_num | (congr 1; omega), by omega, HL2, XQ, by omega⟩
     · have hk' : ¬ (k : Int) < (NZ.length : Int) := by omega
       have HF : Hid (MayZ bs NZ OZ) := HIN.out HLA.out (fun i hi => HL.out i hi (by omega))
       clear kx ko
       go_wp2
       go_ret
       exact ⟨⟨true, rfl, by simp [HF.out]⟩, XV.out⟩
theorem leastD_any (bs : By) (na oa : Option Addr) (nc oc : Nat) (NZ OZ : List Int) (w : World) (hnl : NZ.length ≤ 140737488351232) (hol : OZ.length ≤ 140737488351232) (hnx : ZAt w na NZ) (hou : ZAt w oa OZ) :
 Calls Tryz.prog 13 #[auV bs na NZ.length nc oa OZ.length oc] w fun e w' => LeP bs NZ OZ w.heap.size e w' ∧ Below w.heap.size w w' := by
 obtain ⟨w2, hw2⟩ : ∃ w2, w2 = (w.alloc (.cells #[.string ⟨bs.toArray⟩, .slice na NZ.length nc, .slice oa OZ.length oc] 24)).alloc (.cells #[.string ⟨#[]⟩, .slice none 0 0, .slice none 0 0] 24) := ⟨_, rfl⟩
 obtain ⟨X2, B1, B2, hs2⟩ := two_alloc' w #[.string ⟨bs.toArray⟩, .slice na NZ.length nc, .slice oa OZ.length oc] #[.string ⟨#[]⟩, .slice none 0 0, .slice none 0 0] 24 24
 rw [← hw2] at X2 B1 B2 hs2
 have HC : Hid (∀ V, Below w2.heap.size w2 V → V.cell? ⟨w.heap.size, 0, none⟩ = some (.string ⟨bs.toArray⟩) ∧ V.cell? ⟨w.heap.size, 1, none⟩ = some (.slice na NZ.length nc) ∧ V.cell? ⟨w.heap.size, 2, none⟩ = some (.slice oa OZ.length oc) ∧ V.heap[w.heap.size + 1]? = some (.cells #[.string ⟨#[]⟩, .slice none 0 0, .slice none 0 0] 24 (0, 0)) ∧ ZAt V na NZ ∧ ZAt V oa OZ) := fun V x => by
  have Bv := (x.block _ (lt_of_block B1)).trans B1
  exact ⟨by rw [cell_of_row _ _ _ _ _ _ Bv]; rfl, by rw [cell_of_row _ _ _ _ _ _ Bv]; rfl, by rw [cell_of_row _ _ _ _ _ _ Bv]; rfl, (x.block _ (lt_of_block B2)).trans B2, hnx.below (bt X2 x (Nat.le_refl _)), hou.below (bt X2 x (Nat.le_refl _))⟩
 have HX2 := hide X2
 have HS2 := hide hs2
 obtain ⟨c0, c1, c2, _, kx, ko⟩ := HC.out w2 (Below.refl _ _)
 have HMB := hide (mayD_any bs na oa nc oc NZ OZ w2 hnl hol kx ko)
 have HI : Hid ((Tryz.prog.info? 24).map (·.size) = some 3) := by unfold Hid; kernel_rfl
 clear X2 B1 B2 hs2 hnx hou kx ko
 unfold auV at HMB ⊢
 go_enter Tryz.func13, Tryz.ntmps13
 go_upto_region 1 with fail
 rw [← hw2]
 clear hw2
 go_wp2_with (fail)
 refine HMB.out.mono ?_
 rintro e w3 ⟨⟨b, rfl, hb⟩, x3⟩
 have HBB := hide hb
 have X3 := hide x3
 clear HMB c0 c1 c2 hb x3
 obtain ⟨c0, c1, c2, B3, kx, ko⟩ := HC.out w3 X3.out
 have HB3 := hide B3
 cases b with
 | false =>
   as_aux_lemma =>
    have A0 : Hid ((#[.string ⟨#[]⟩, .slice none 0 0, .slice none 0 0] : Array Value).all (·.oneCell') = true) := by unfold Hid; simp [Value.oneCell']
    have B6 := setRow_heap w3 (w.heap.size + 1) _ #[.string ⟨#[]⟩, .slice none 0 0, .slice none 0 0] 24 (0, 0) B3
    have k6 : Kept (fun k => k = w.heap.size + 1) w3 (w3.setRow (w.heap.size + 1) #[.string ⟨#[]⟩, .slice none 0 0, .slice none 0 0]) := kept_row
    have x3 := bt HX2.out X3.out (Nat.le_refl _)
    have X6 := hide (x3.trans (k6.below x3.size (fun b hb => by omega)))
    have z0 := cell_of_row _ _ 0 _ _ _ B6
    have z1 := cell_of_row _ _ 1 _ _ _ B6
    have z2 := cell_of_row _ _ 2 _ _ _ B6
    have HNM : Hid (¬ MayZ bs NZ OZ) := fun h => by have := HBB.out.2 h; cases this
    clear B6 k6 B3 x3 kx ko
    go_wp2_with (refine wpList_store_row rfl 24 (.tmp 2) (.tmp 13) rfl (w.heap.size + 1) #[.string ⟨#[]⟩, .slice none 0 0, .slice none 0 0] rfl rfl 24 #[.string ⟨#[]⟩, .slice none 0 0, .slice none 0 0] HB3.out HI.out rfl A0.out ?_)
    refine bodyPost_ret (by simp [results, Tryz.results13, go_sem, z0, z1, z2]; try rfl) rfl ?_
    exact ⟨.inl ⟨HNM.out, rfl⟩, X6.out⟩
 | true =>
   as_aux_lemma =>
    have hMZ := HBB.out.1 rfl
    obtain ⟨NX, OU, rfl, rfl, hM⟩ := may_of hMZ
    have ln : (zN NX).length = NX.length := by unfold zN; rw [List.length_map]
    have lo : (zN OU).length = OU.length := by unfold zN; rw [List.length_map]
    have hwm : NX.length / OU.length = mxL (ntL bs) + 1 := hM.w (by have := hMZ.2.2.2.1; rw [ln, lo] at this; exact this)
    rw [ln] at c1
    rw [lo] at c2
    have HC2 : Hid (∀ V, Below w2.heap.size w2 V → V.cell? ⟨w.heap.size, 0, none⟩ = some (.string ⟨bs.toArray⟩) ∧ V.cell? ⟨w.heap.size, 1, none⟩ = some (.slice na NX.length nc) ∧ V.cell? ⟨w.heap.size, 2, none⟩ = some (.slice oa OU.length oc) ∧ V.heap[w.heap.size + 1]? = some (.cells #[.string ⟨#[]⟩, .slice none 0 0, .slice none 0 0] 24 (0, 0)) ∧ NAt V na NX ∧ NAt V oa OU) := fun V x => by
     obtain ⟨h0, h1, h2, h3, h4, h5⟩ := HC.out V x
     rw [ln] at h1
     rw [lo] at h2
     exact ⟨h0, h1, h2, h3, h4.nat, h5.nat⟩
    have HCD := hide (colsD_any bs na oa NX.length nc OU.length oc w3 hM.bl)
    unfold auV at HCD
    have HMM := hide hM
    have HWM := hide hwm
    have HMZ := hide hMZ
    clear kx ko B3 HB3 hM hwm hMZ HBB HC
    go_wp2_with (fail)
    refine HCD.out.mono ?_
    rintro e w4 ⟨⟨ca, cc, C, BC, rfl, kc, hC⟩, x4⟩
    have X4 := hide (bt X3.out x4 (Nat.le_refl _))
    have KC := hide kc
    have HCT := hide hC
    clear HCD c0 c1 c2 kc hC x4
    obtain ⟨c0, c1, c2, -, kx, ko⟩ := HC2.out w4 X4.out
    have hCl := HCT.out.len
    have HRD := hide (rchD_any bs na oa ca nc oc cc _ NX OU C w4 HMM.out rfl HWM.out HCT.out.of hCl kx KC.out)
    unfold auV at HRD
    clear kx ko
    go_wp2_with (fail)
    refine HRD.out.mono ?_
    rintro e w5 ⟨⟨la, lc, l, rfl, kl, BL, hR⟩, x5⟩
    have X5 := hide (bt X4.out x5 (Nat.le_refl _))
    have KC5 := hide (KC.out.below x5)
    have KL := hide kl
    have HRS := hide hR
    have HRT := hide (hR.done (fun b hb => HCT.out.al b hb))
    clear HRD c0 c1 c2 kl hR x5 KC
    obtain ⟨c0, c1, c2, -, kx, ko⟩ := HC2.out w5 X5.out
    have HPD := hide (prsD_any bs na oa la ca nc oc lc cc _ NX OU l C w5 HMM.out rfl HWM.out HRT.out HRS.out.z.1 HRS.out.z.2 HRS.out.few HCT.out.of HCT.out.al hCl kx ko KL.out KC5.out)
    unfold auV at HPD
    clear kx ko
    go_wp2_with (fail)
    refine HPD.out.mono ?_
    rintro e w6 ⟨hP, x6⟩
    have X6 := hide (bt X5.out x6 (Nat.le_refl _))
    have KL6 := hide (KL.out.below x6)
    clear HPD c0 c1 c2 x6 KL KC5 hCl
    obtain ⟨c0, c1, c2, B6, kx, ko⟩ := HC2.out w6 X6.out
    rcases hP with ⟨pa, pc, m, rfl, hm, PL, kp, hpl, hd, heq⟩ | ⟨pa, pn, pc, rfl, hno⟩
    · as_aux_lemma =>
      have hm' : ¬ (256 : Int) < (m : Int) := by omega
      have HND := hide (nbrD_any bs na oa la pa nc oc lc pc _ m NX OU l PL w6 HMM.out rfl HWM.out HRT.out HRS.out.z.2 HRS.out.few hpl hm hd heq kx ko KL6.out kp)
      unfold auV at HND
      clear kx ko kp hd heq B6
      go_wp2_with (fail)
      refine HND.out.mono ?_
      rintro e w7 ⟨⟨bs', xa, xn, xc, oa', on, oc', rfl, NX', OU', d⟩, x7⟩
      have X7 := hide (bt X6.out x7 (Nat.le_refl _))
      obtain ⟨-, -, -, B7, -, -⟩ := HC2.out w7 X7.out
      have A4 : Hid ((#[.string ⟨bs'.toArray⟩, .slice xa xn xc, .slice oa' on oc'] : Array Value).all (·.oneCell') = true) := by unfold Hid; simp [Value.oneCell']
      have HB7 := hide B7
      have B8 := setRow_heap w7 (w.heap.size + 1) _ #[.string ⟨bs'.toArray⟩, .slice xa xn xc, .slice oa' on oc'] 24 (0, 0) B7
      have k8 : Kept (fun k => k = w.heap.size + 1) w7 (w7.setRow (w.heap.size + 1) #[.string ⟨bs'.toArray⟩, .slice xa xn xc, .slice oa' on oc']) := kept_row
      have x8 := bt HX2.out X7.out (Nat.le_refl _)
      have X8 := hide (x8.trans (k8.below x8.size (fun b hb => by omega)))
      have hs2 := HS2.out
      have hs6 := X6.out.size
      have hO : OneP bs NX OU w6.heap.size (.returned (.tuple #[auV bs' xa xn xc oa' on oc', .int .i64 0])) w7 := .inl ⟨bs', xa, xn, xc, oa', on, oc', rfl, NX', OU', d⟩
      have HP8 := hide (hO.kept k8 (by omega) (show w.heap.size ≤ w6.heap.size by omega))
      have z0 := cell_of_row _ _ 0 _ _ _ B8
      have z1 := cell_of_row _ _ 1 _ _ _ B8
      have z2 := cell_of_row _ _ 2 _ _ _ B8
      clear B8 k8 B7 x8 x7 hO HND d c0 c1 c2
      go_wp2_with (refine wpList_store_row rfl 24 (.tmp 2) (.tmp 33) rfl (w.heap.size + 1) #[.string ⟨bs'.toArray⟩, .slice xa xn xc, .slice oa' on oc'] rfl rfl 24 #[.string ⟨#[]⟩, .slice none 0 0, .slice none 0 0] HB7.out HI.out rfl A4.out ?_)
      refine bodyPost_ret (by simp [results, Tryz.results13, go_sem, z0, z1, z2]; try rfl) rfl ?_
      exact ⟨.inr ⟨NX, OU, rfl, rfl, HMM.out, HMZ.out, HP8.out⟩, X8.out⟩
    · as_aux_lemma =>
      have A0 : Hid ((#[.string ⟨#[]⟩, .slice none 0 0, .slice none 0 0] : Array Value).all (·.oneCell') = true) := by unfold Hid; simp [Value.oneCell']
      have HB6 := hide B6
      have B8 := setRow_heap w6 (w.heap.size + 1) _ #[.string ⟨#[]⟩, .slice none 0 0, .slice none 0 0] 24 (0, 0) B6
      have k8 : Kept (fun k => k = w.heap.size + 1) w6 (w6.setRow (w.heap.size + 1) #[.string ⟨#[]⟩, .slice none 0 0, .slice none 0 0]) := kept_row
      have x8 := bt HX2.out X6.out (Nat.le_refl _)
      have X8 := hide (x8.trans (k8.below x8.size (fun b hb => by omega)))
      have z0 := cell_of_row _ _ 0 _ _ _ B8
      have z1 := cell_of_row _ _ 1 _ _ _ B8
      have z2 := cell_of_row _ _ 2 _ _ _ B8
      have HNO := hide hno
      clear B8 k8 B6 x8 kx ko hno c0 c1 c2
      go_wp2_with (refine wpList_store_row rfl 24 (.tmp 2) (.tmp 28) rfl (w.heap.size + 1) #[.string ⟨#[]⟩, .slice none 0 0, .slice none 0 0] rfl rfl 24 #[.string ⟨#[]⟩, .slice none 0 0, .slice none 0 0] HB6.out HI.out rfl A0.out ?_)
      refine bodyPost_ret (by simp [results, Tryz.results13, go_sem, z0, z1, z2]; try rfl) rfl ?_
      exact ⟨.inr ⟨NX, OU, rfl, rfl, HMM.out, HMZ.out, .inr ⟨rfl, HNO.out⟩⟩, X8.out⟩
end Go.Proofs.YtdgoilkgplnhfaaGreat
