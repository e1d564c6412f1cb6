/-
  known: the document's examples answer as they must. No condition.
-/
import Derived.Test.YtdgoilkgplnhfaaGreatB46
import Derived.Test.YtdgoilkgplnhfaaGreatB34
import Derived.Test.YtdgoilkgplnhfaaGreatB47
import Derived.Test.YtdgoilkgplnhfaaGreatB48
import Derived.Deep.Slices
import Derived.SizedLaws
import Derived.SliceStrings
import Derived.OpenShut
import Derived.WalkKit
import Derived.WideShapes
import Derived.Test.YtdgoilkgplnhfaaGreatB08
import Derived.Laws.CopyOwn
namespace Go.Proofs.YtdgoilkgplnhfaaGreat
open Go.RowKit Go.Lib

/-- Parse of a letter. -/
theorem parseA (w : World) : Calls Tryz.prog 22 #[.string ⟨#[97]⟩] w fun e w' => (∃ ao cap D, e = .returned (.tuple #[.slice ao D.length cap, .int .i64 0, .int .i64 0]) ∧ D.map PD.p = [pA] ∧ PcAt w' ao D) ∧ Below w.heap.size w w' := by
  refine (parse_any [97] w (by simp)).mono ?_
  rintro e w' ⟨hP, x⟩
  rw [parA] at hP
  obtain ⟨v, D, rfl, ho, hD⟩ := hP
  obtain ⟨ao, cap, rfl, _, hat⟩ := ho.at
  exact ⟨⟨ao, cap, D, rfl, hD, hat⟩, x⟩
set_option maxRecDepth 100000 in
set_option maxHeartbeats 4000000 in
theorem known_any (w : World) : Calls Tryz.prog 10 #[] w fun e w' => e = .returned (.bool true) ∧ Below w.heap.size w w' := by
  have HP := hide (parseA w)
  have HI : Hid ((Tryz.prog.info? 24).map (·.size) = some 3) := by unfold Hid; kernel_rfl
  go_enter Tryz.func10, Tryz.ntmps10
  go_upto_region 2 with (go_at_call 22; refine HP.out.mono ?_; rintro e w1 ⟨⟨ao, cap, D, rfl, hD, hat⟩, x1⟩; have HD := hide hD; have HAT := hide hat; have X1 := hide x1; clear hD hat x1)
  have HOF : Hid (Calls Tryz.prog 20 #[.slice ao D.length cap] w1 fun e w' => (∃ bs xa oa xc oc NX OU, e = .returned (.tuple #[.agg #[.string ⟨bs.toArray⟩, .slice xa NX.length xc, .slice oa OU.length oc], .int .i64 0]) ∧ OfR w' w1.heap.size [pA] bs xa oa xc oc NX OU) ∧ Below w1.heap.size w1 w') := by
    refine (of_any ao cap D w1 (fun d hd => ?_) HAT.out).mono ?_
    · have : d.p ∈ D.map PD.p := List.mem_map_of_mem hd
      rw [HD.out] at this
      rw [List.mem_singleton.1 this]
      simp [pA]
    · rintro e w' ⟨h, x⟩
      rw [HD.out] at h
      refine ⟨?_, x⟩
      rcases h.yes rtA with ⟨hm, _⟩ | h
      · exact (few_not_many fewA hm).elim
      · exact h
  go_upto_region 3 with (go_at_call 20; refine HOF.out.mono ?_; rintro e w2 ⟨⟨bs, xa, oa, xc, oc, NX, OU, rfl, hof⟩, x2⟩; have HF := hide hof; have X2 := hide (bt X1.out x2 (Nat.le_refl _)); clear hof x2)
  obtain ⟨hO, hX⟩ := sizeA HF.out.at'.may HF.out.at'.rt HF.out.lab
  have X3 : Below w2.heap.size w2 (w2.alloc (.cells #[.string ⟨bs.toArray⟩, .slice xa NX.length xc, .slice oa OU.length oc] 24)) := al (Below.refl _ _) _
  have B3 := heap_alloc_new w2 (.cells #[.string ⟨bs.toArray⟩, .slice xa NX.length xc, .slice oa OU.length oc] 24)
  obtain ⟨w3, hw3⟩ : ∃ w3, w3 = w2.alloc (.cells #[.string ⟨bs.toArray⟩, .slice xa NX.length xc, .slice oa OU.length oc] 24) := ⟨_, rfl⟩
  obtain ⟨pb, hpb⟩ : ∃ pb, pb = w2.heap.size := ⟨_, rfl⟩
  rw [← hw3] at X3 B3 ⊢
  rw [← hpb] at B3 ⊢
  have HX3 := hide (bt X2.out X3 (Nat.le_refl _))
  have HC : Hid (∀ V, Below w3.heap.size w3 V → V.cell? ⟨pb, 0, none⟩ = some (.string ⟨bs.toArray⟩) ∧ V.cell? ⟨pb, 1, none⟩ = some (.slice xa 6 xc) ∧ V.cell? ⟨pb, 2, none⟩ = some (.slice oa 3 oc)) := fun V x => by
    have Bv := (x.block _ (lt_of_block B3)).trans B3
    rw [hX, hO] at Bv
    exact ⟨by rw [cell_of_row _ _ _ _ _ _ Bv]; rfl, by rw [cell_of_row _ _ _ _ _ _ Bv]; rfl, by rw [cell_of_row _ _ _ _ _ _ Bv]; rfl⟩
  have l1 : (dfA bs NX OU).lab 0 (ntL [97]) = 1 := by rw [HF.out.lab]; exact (by kernel_rfl : (if mtF [pA] [97] ([pA] : List Pc).length then (1 : Int) else 0) = 1)
  have l2 : (dfA bs NX OU).lab 0 (ntL [97, 98]) = 0 := by rw [HF.out.lab]; exact (by kernel_rfl : (if mtF [pA] [97, 98] ([pA] : List Pc).length then (1 : Int) else 0) = 0)
  have HR1 : Hid (∀ V, Below w3.heap.size w3 V → Calls Tryz.prog 27 #[.agg #[.string ⟨bs.toArray⟩, .slice xa 6 xc, .slice oa 3 oc], .string ⟨#[97]⟩] V fun e w' => e = .returned (.tuple #[.int .i64 1, .int .i64 0]) ∧ Below V.heap.size V w') := fun V x => by
    have := (HF.out.at'.below (bt X3 x (Nat.le_refl _))).run xc oc [97] (by simp)
    rw [l1, hO, hX] at this
    exact this
  have HR2 : Hid (∀ V, Below w3.heap.size w3 V → Calls Tryz.prog 27 #[.agg #[.string ⟨bs.toArray⟩, .slice xa 6 xc, .slice oa 3 oc], .string ⟨#[97, 98]⟩] V fun e w' => e = .returned (.tuple #[.int .i64 0, .int .i64 0]) ∧ Below V.heap.size V w') := fun V x => by
    have := (HF.out.at'.below (bt X3 x (Nat.le_refl _))).run xc oc [97, 98] (by simp)
    rw [l2, hO, hX] at this
    exact this
  have HSH : Hid (∀ V, Below w3.heap.size w3 V → Calls Tryz.prog 29 #[.agg #[.string ⟨bs.toArray⟩, .slice xa 6 xc, .slice oa 3 oc], .int .i64 1] V fun e w' => e = .returned (.tuple #[.string ⟨#[97]⟩, .bool true, .int .i64 0]) ∧ Below V.heap.size V w') := fun V x => by
    have := (HF.out.at'.below (bt X3 x (Nat.le_refl _))).short xc oc 1
    rw [hO, hX] at this
    refine this.mono ?_
    rintro e w' ⟨⟨s, is, rfl, hS⟩, x'⟩
    refine ⟨?_, x'⟩
    rcases hS with ⟨rfl, st, t, _, k2, _, k4, rfl⟩ | ⟨_, _, k⟩
    · rw [leastA HF.out.lab k2 k4]
    · refine absurd l1 (k _ (HF.out.at'.rt.toOk.run HF.out.at'.rt.n0 (ntL_txt _)))
  have HRR : Hid (∀ V, Below w3.heap.size w3 V → Calls Tryz.prog 16 #[.agg #[.string ⟨bs.toArray⟩, .slice xa 6 xc, .slice oa 3 oc]] V fun e w' => e = .returned (.bool true) ∧ Below V.heap.size V w') := fun V x => by
    have := (HF.out.at'.below (bt X3 x (Nat.le_refl _))).right xc oc
    rw [hO, hX] at this
    exact this
  rw [hX, hO]
  obtain ⟨c0, c1, c2⟩ := HC.out w3 (Below.refl _ _)
  clear hw3 hpb X3 B3 HF hO hX l1 l2 HOF HP HAT HD
  go_upto_region 4 with (go_at_call 27; refine (HR1.out _ (Below.refl _ _)).mono ?_; rintro e w4 ⟨rfl, x4⟩; have X4 := hide x4; clear x4)
  obtain ⟨c0, c1, c2⟩ := HC.out w4 X4.out
  clear HR1
  go_upto_region 5 with (go_at_call 27; refine (HR2.out _ X4.out).mono ?_; rintro e w5 ⟨rfl, x5⟩; have X5 := hide (bt X4.out x5 (Nat.le_refl _)); clear x5)
  obtain ⟨c0, c1, c2⟩ := HC.out w5 X5.out
  go_upto_region 6 with (go_at_call 29; refine (HSH.out _ X5.out).mono ?_; rintro e w6 ⟨rfl, x6⟩; have X6 := hide (bt X5.out x6 (Nat.le_refl _)); clear x6)
  obtain ⟨c0, c1, c2⟩ := HC.out w6 X6.out
  go_wp2_with (go_at_call 16; refine (HRR.out _ X6.out).mono ?_; rintro e w7 ⟨rfl, x7⟩; have X7 := hide (bt X6.out x7 (Nat.le_refl _)); clear x7)
  go_ret
  exact ⟨rfl, bt HX3.out X7.out (Nat.le_refl _)⟩
end Go.Proofs.YtdgoilkgplnhfaaGreat
/-
  Texts that lie in memory. Of no program: no condition.
-/
namespace Go.Proofs.YtdgoilkgplnhfaaGreat
open Go.RowKit Go.Lib

/-- Texts in memory. -/
def SAt (w : World) (ao : Option Addr) (L : List By) : Prop := L = [] ∨ ∃ b off, ao = some ⟨b, off, none⟩ ∧ b < w.heap.size ∧ ∀ i (h : i < L.length), w.cell? ⟨b, off + i, none⟩ = some (.string ⟨(L[i]).toArray⟩)
theorem SAt.below {w w' : World} {ao : Option Addr} {L : List By} (h : SAt w ao L) (x : Below w.heap.size w w') : SAt w' ao L := by
  rcases h with h | ⟨b, off, e, hb, h⟩
  · exact .inl h
  · exact .inr ⟨b, off, e, Nat.lt_of_lt_of_le hb x.size, fun i hi => (x.cell (p := ⟨b, off + i, none⟩) hb).trans (h i hi)⟩
theorem SAt.get {w : World} {ao : Option Addr} {L : List By} (h : SAt w ao L) {i : Nat} (hi : i < L.length) : ∃ b off, ao = some ⟨b, off, none⟩ ∧ w.cell? ⟨b, off + i, none⟩ = some (.string ⟨(L[i]).toArray⟩) := by
  rcases h with rfl | ⟨b, off, e, hb, h⟩
  · simp at hi
  · exact ⟨b, off, e, h i hi⟩
end Go.Proofs.YtdgoilkgplnhfaaGreat
/-
  AutoRuns answers true. Conditions: lists and texts no longer than a process can hold.
-/
namespace Go.Proofs.YtdgoilkgplnhfaaGreat
open Go.RowKit Go.Lib

theorem RunP.one (bs : By) (NZ OZ : List Int) (t : By) : ∃ n m : Int, ∀ e, RunP bs NZ OZ t e → e = .returned (.tuple #[.int .i64 n, .int .i64 m]) := by
  by_cases h : RightZ bs NZ OZ
  · obtain ⟨_, NX, OU, rfl, rfl, _, _⟩ := id h
    refine ⟨(dfA bs NX OU).lab 0 (ntL t), 0, fun e he => ?_⟩
    rcases he with ⟨hn, _⟩ | ⟨A, B, e1, e2, _, _, _, rfl⟩
    · exact absurd h hn
    · rw [zN_inj e1, zN_inj e2]
  · refine ⟨0, 1, fun e he => ?_⟩
    rcases he with ⟨_, rfl⟩ | ⟨A, B, e1, e2, h1, h2, h3, _⟩
    · rfl
    · exact absurd ⟨by rw [e2, zN_len]; exact h3, A, B, e1, e2, h1, h2⟩ h
theorem ShP.one (bs : By) (NZ OZ : List Int) (l : Int) : ∃ (s : By) (is : Bool) (m : Int), ∀ e, ShP bs NZ OZ l e → e = .returned (.tuple #[.string ⟨s.toArray⟩, .bool is, .int .i64 m]) := by
  by_cases h : RightZ bs NZ OZ
  · obtain ⟨_, NX, OU, rfl, rfl, _, hR⟩ := id h
    by_cases hl : ∃ st t, st < OU.length ∧ (dfA bs NX OU).ou st = l ∧ (∀ j, j < st → (dfA bs NX OU).ou j ≠ l) ∧ (dfA bs NX OU).LT st t
    · obtain ⟨st, t, h1, h2, h3, h4⟩ := hl
      refine ⟨btOf t, true, 0, fun e he => ?_⟩
      rcases he with ⟨hn, _⟩ | ⟨A, B, e1, e2, _, _, _, ⟨st', t', k1, k2, k3, k4, rfl⟩ | ⟨k1, _⟩⟩
      · exact absurd h hn
      · obtain rfl := zN_inj e1
        obtain rfl := zN_inj e2
        obtain rfl : st = st' := by
          rcases Nat.lt_trichotomy st st' with h9 | h9 | h9
          · exact absurd h2 (k3 _ h9)
          · exact h9
          · exact absurd k2 (h3 _ h9)
        rw [DF.LT.one st h1 t t' h4 k4]
      · obtain rfl := zN_inj e1
        obtain rfl := zN_inj e2
        exact absurd h2 (k1 st h1)
    · refine ⟨[], false, 0, fun e he => ?_⟩
      rcases he with ⟨hn, _⟩ | ⟨A, B, e1, e2, _, _, _, ⟨st', t', k1, k2, k3, k4, _⟩ | ⟨_, rfl⟩⟩
      · exact absurd h hn
      · obtain rfl := zN_inj e1
        obtain rfl := zN_inj e2
        exact absurd ⟨st', t', k1, k2, k3, k4⟩ hl
      · rfl
  · refine ⟨[], false, 1, fun e he => ?_⟩
    rcases he with ⟨_, rfl⟩ | ⟨A, B, e1, e2, h1, h2, h3, _⟩
    · rfl
    · exact absurd ⟨by rw [e2, zN_len]; exact h3, A, B, e1, e2, h1, h2⟩ h
set_option maxRecDepth 100000 in
set_option maxHeartbeats 4000000 in
theorem autoRuns_any (bs : By) (na oa : Option Addr) (nc oc : Nat) (NZ OZ : List Int) (a1 : Option Addr) (c1 : Nat) (T : List By) (l : Int) (w : World) (hnl : NZ.length ≤ 140737488351232) (hol : OZ.length ≤ 140737488351232) (hTl : T.length ≤ 140737488351232) (hTs : ∀ x ∈ T, x.length ≤ 140737488351232) (hnx : ZAt w na NZ) (hou : ZAt w oa OZ) (hT : SAt w a1 T) :
    Calls Tryz.prog 6 #[auV bs na NZ.length nc oa OZ.length oc, .slice a1 T.length c1, .int .i64 l] w fun e w' => e = .returned (.bool true) ∧ Below w.heap.size w w' := by
  have X1 : Below w.heap.size w (w.alloc (.cells #[.string ⟨bs.toArray⟩, .slice na NZ.length nc, .slice oa OZ.length oc] 24)) := al (Below.refl _ _) _
  have B1 := heap_alloc_new w (.cells #[.string ⟨bs.toArray⟩, .slice na NZ.length nc, .slice oa OZ.length oc] 24)
  obtain ⟨w1, hw1⟩ : ∃ w1, w1 = w.alloc (.cells #[.string ⟨bs.toArray⟩, .slice na NZ.length nc, .slice oa OZ.length oc] 24) := ⟨_, rfl⟩
  rw [← hw1] at X1 B1
  have hlw := lt_of_block B1
  have HC : Hid (∀ V, Below w1.heap.size w1 V → (V.cell? ⟨w.heap.size, 0, none⟩ = some (.string ⟨bs.toArray⟩) ∧ V.cell? ⟨w.heap.size, 1, none⟩ = some (.slice na NZ.length nc) ∧ V.cell? ⟨w.heap.size, 2, none⟩ = some (.slice oa OZ.length oc)) ∧ ZAt V na NZ ∧ ZAt V oa OZ ∧ SAt V a1 T) := fun V x => by
    have Bv := (x.block _ hlw).trans B1
    have y := bt X1 x (Nat.le_refl _)
    exact ⟨⟨by rw [cell_of_row _ _ _ _ _ _ Bv]; rfl, by rw [cell_of_row _ _ _ _ _ _ Bv]; rfl, by rw [cell_of_row _ _ _ _ _ _ Bv]; rfl⟩, hnx.below y, hou.below y, hT.below y⟩
  have HX1 := hide X1
  have HKN := hide (known_any w1)
  have HRA : Hid (∀ t : By, t.length ≤ 140737488351232 → ∀ V, Below w1.heap.size w1 V → Calls Tryz.prog 27 #[.agg #[.string ⟨bs.toArray⟩, .slice na NZ.length nc, .slice oa OZ.length oc], .string ⟨t.toArray⟩] V fun e w' => RunP bs NZ OZ t e ∧ Below V.heap.size V w') := fun t ht V x => by
    obtain ⟨_, k1, k2, _⟩ := HC.out V x
    exact run_any bs na oa nc oc NZ OZ t V hnl hol ht k1 k2
  have HRB : Hid (∀ t : By, t.length ≤ 140737488351232 → ∀ V, Below w1.heap.size w1 V → Calls Tryz.prog 28 #[.agg #[.string ⟨bs.toArray⟩, .slice na NZ.length nc, .slice oa OZ.length oc], .string ⟨t.toArray⟩] V fun e w' => RunP bs NZ OZ t e ∧ Below V.heap.size V w') := fun t ht V x => by
    obtain ⟨_, k1, k2, _⟩ := HC.out V x
    exact runD_any bs na oa nc oc NZ OZ t V hnl hol ht k1 k2
  have HSA : Hid (∀ V, Below w1.heap.size w1 V → Calls Tryz.prog 29 #[.agg #[.string ⟨bs.toArray⟩, .slice na NZ.length nc, .slice oa OZ.length oc], .int .i64 l] V fun e w' => ShP bs NZ OZ l e ∧ Below V.heap.size V w') := fun V x => by
    obtain ⟨_, k1, k2, _⟩ := HC.out V x
    exact shortest_any bs na oa nc oc NZ OZ l V hnl hol k1 k2
  have HSB : Hid (∀ V, Below w1.heap.size w1 V → Calls Tryz.prog 30 #[.agg #[.string ⟨bs.toArray⟩, .slice na NZ.length nc, .slice oa OZ.length oc], .int .i64 l] V fun e w' => ShP bs NZ OZ l e ∧ Below V.heap.size V w') := fun V x => by
    obtain ⟨_, k1, k2, _⟩ := HC.out V x
    exact shortD_any bs na oa nc oc NZ OZ l V hnl hol k1 k2
  have HTS := hide hTs
  clear X1 B1 hnx hou hT hTs hnl hol
  unfold auV
  go_enter Tryz.func6, Tryz.ntmps6
  go_upto_region 1 with fail
  rw [← hw1]
  clear hw1
  go_upto_region 2 with (go_at_call 10; refine HKN.out.mono ?_; rintro e w2 ⟨rfl, x2⟩; have X2 := hide x2; clear x2)
  clear HKN
  go_wp2
  go_loopg [8] (T.length + 1) (fun g x wr => ∃ k : Nat, x = .int .i64 (k : Nat) ∧ k ≤ T.length ∧ Hid (Below w1.heap.size w1 wr) ∧ T.length - k < g)
  case atStart => exact ⟨0, rfl, by omega, X2, by omega⟩
  case round =>
    obtain ⟨k, rfl, hk1, X, hg⟩ := hrel
    have HG := hide hg
    clear hg X2
    by_cases hk : k < T.length
    · as_aux_lemma =>
      have hk' : (k : Int) < (T.length : Int) := by omega
      obtain ⟨n, m, hnm⟩ := RunP.one bs NZ OZ T[k]
      have HNM := hide hnm
      obtain ⟨pb, poff, rfl, -⟩ := (HC.out wr X.out).2.2.2.get hk
      have HTX : Hid (∀ V, Below w1.heap.size w1 V → V.cell? ⟨pb, poff + k, none⟩ = some (.string ⟨(T[k]).toArray⟩)) := fun V x => by
        obtain ⟨b', o', e, c⟩ := (HC.out V x).2.2.2.get hk
        injection e with e
        injection e with e1 e2
        subst e1 e2
        exact c
      have hlk := HTS.out T[k] (List.getElem_mem hk)
      have HA := hide (HRA.out T[k] hlk)
      have HB := hide (HRB.out T[k] hlk)
      clear hnm hlk
      generalize T[k] = t at *
      have HDr : Hid (Below wr.heap.size wr wr.drew) := (Below.refl _ _).drew
      go_wp2
      refine wp_region_quiet (C := fun w' => Below wr.heap.size wr w') (by kernel_rfl) (by kernel_rfl) HDr.out ?_
      refine QW.out (l := _ :: _) ?_
      iterate 5 (refine QW.take (by rfl) ?_; apply Exists.intro; refine ⟨fun w' hw' => ?_, ?_⟩; (· (obtain ⟨g0, g1, g2⟩ := (HC.out w' (bt X.out hw' (Nat.le_refl _))).1; have g3 := HTX.out w' (bt X.out hw' (Nat.le_refl _)); go_simp; first | done | (first | done | rfl))); try simp only [Act.put, List.setIfInBounds_toArray, List.set_cons_zero, List.set_cons_succ])
      iterate 1 (refine QW.take (by rfl) ?_; apply Exists.intro; refine ⟨fun w' hw' => ?_, ?_⟩; (· (obtain ⟨g0, g1, g2⟩ := (HC.out w' (bt X.out hw' (Nat.le_refl _))).1; have g3 := HTX.out w' (bt X.out hw' (Nat.le_refl _)); go_simp; (refine (HA.out _ (bt X.out hw' (Nat.le_refl _))).mono ?_; rintro e w22 ⟨hP, x⟩; exact ⟨HNM.out e hP, hw'.trans (x.mono hw'.size)⟩))); try simp only [Act.put, List.setIfInBounds_toArray, List.set_cons_zero, List.set_cons_succ])
      iterate 5 (refine QW.take (by rfl) ?_; apply Exists.intro; refine ⟨fun w' hw' => ?_, ?_⟩; (· (obtain ⟨g0, g1, g2⟩ := (HC.out w' (bt X.out hw' (Nat.le_refl _))).1; have g3 := HTX.out w' (bt X.out hw' (Nat.le_refl _)); go_simp; first | done | (first | done | rfl))); try simp only [Act.put, List.setIfInBounds_toArray, List.set_cons_zero, List.set_cons_succ])
      refine QW.nil ?_
      intro w5 x5
      have X5 := hide (bt X.out x5 (Nat.le_refl _))
      clear x5 HDr X HA
      have HDr : Hid (Below w5.heap.size w5 w5.drew) := (Below.refl _ _).drew
      go_wp2
      refine wp_region_quiet (C := fun w' => Below w5.heap.size w5 w') (by kernel_rfl) (by kernel_rfl) HDr.out ?_
      refine QW.out (l := _ :: _) ?_
      iterate 5 (refine QW.take (by rfl) ?_; apply Exists.intro; refine ⟨fun w' hw' => ?_, ?_⟩; (· (obtain ⟨g0, g1, g2⟩ := (HC.out w' (bt X5.out hw' (Nat.le_refl _))).1; have g3 := HTX.out w' (bt X5.out hw' (Nat.le_refl _)); go_simp; first | done | (first | done | rfl))); try simp only [Act.put, List.setIfInBounds_toArray, List.set_cons_zero, List.set_cons_succ])
      iterate 1 (refine QW.take (by rfl) ?_; apply Exists.intro; refine ⟨fun w' hw' => ?_, ?_⟩; (· (obtain ⟨g0, g1, g2⟩ := (HC.out w' (bt X5.out hw' (Nat.le_refl _))).1; have g3 := HTX.out w' (bt X5.out hw' (Nat.le_refl _)); go_simp; (refine (HB.out _ (bt X5.out hw' (Nat.le_refl _))).mono ?_; rintro e w22 ⟨hP, x⟩; exact ⟨HNM.out e hP, hw'.trans (x.mono hw'.size)⟩))); try simp only [Act.put, List.setIfInBounds_toArray, List.set_cons_zero, List.set_cons_succ])
      iterate 5 (refine QW.take (by rfl) ?_; apply Exists.intro; refine ⟨fun w' hw' => ?_, ?_⟩; (· (obtain ⟨g0, g1, g2⟩ := (HC.out w' (bt X5.out hw' (Nat.le_refl _))).1; have g3 := HTX.out w' (bt X5.out hw' (Nat.le_refl _)); go_simp; first | done | (first | done | rfl))); try simp only [Act.put, List.setIfInBounds_toArray, List.set_cons_zero, List.set_cons_succ])
      refine QW.nil ?_
      intro w6 x6
      have X6 := hide (bt X5.out x6 (Nat.le_refl _))
      clear x6 HDr X5 HB
      have b1 : (n != n) = false := by simp
      have b2 : (m != m) = false := by simp
      go_wp2
      go_roundg (T.length - (k + 1) + 1)
      case measure => have := HG.out; omega
      case rel => exact ⟨k + 1, by first | rfl | go_num | (congr 1; omega), by omega, X6, by omega⟩
    · as_aux_lemma =>
      have hk' : ¬ (k : Int) < (T.length : Int) := by omega
      obtain ⟨s, is, m, hsm⟩ := ShP.one bs NZ OZ l
      have HSM := hide hsm
      clear hsm
      obtain ⟨⟨c0, c1', c2⟩, -⟩ := HC.out wr X.out
      go_upto_region 10 with (go_at_call 29; refine (HSA.out _ X.out).mono ?_; rintro e w5 ⟨hP, x5⟩; obtain rfl := HSM.out e hP; have X5 := hide (bt X.out x5 (Nat.le_refl _)); clear x5 hP)
      clear c0 c1' c2
      obtain ⟨⟨c0, c1', c2⟩, -⟩ := HC.out w5 X5.out
      go_upto_region 11 with (go_at_call 30; refine (HSB.out _ X5.out).mono ?_; rintro e w6 ⟨hP, x6⟩; obtain rfl := HSM.out e hP; have X6 := hide (bt X5.out x6 (Nat.le_refl _)); clear x6 hP)
      have Xf := hide (bt HX1.out X6.out (Nat.le_refl _))
      go_wp2
      go_ret
      exact ⟨by simp, Xf.out⟩
end Go.Proofs.YtdgoilkgplnhfaaGreat
/-
  An automaton, numbers, texts that came in as arguments lie in memory as the walks ask it. Condition: the form's own reach.
-/
namespace Go.Proofs.YtdgoilkgplnhfaaGreat
open Go.RowKit Go.Deep Go.ChangeShapes Go.WideShapes

theorem weightsAll_in {H : Type} {P : Program} {e : TypeId} {l : List (DataW H)} {d : DataW H} (hd : d ∈ l) : ∀ n ∈ d.weights P e, n ∈ DataW.weightsAll P e l := by
  induction l with
  | nil => cases hd
  | cons x l ih =>
    intro n hn
    rw [DataW.weightsAll, List.mem_append]
    rcases List.mem_cons.1 hd with rfl | h
    · exact .inl hn
    · exact .inr (ih h n hn)
theorem Tryz.cellsI : Tryz.prog.cellsOf 3 = 1 := by kernel_rfl
theorem Tryz.bytesI : Tryz.prog.bytesOf 3 = 8 := by kernel_rfl
theorem Tryz.cellsS : Tryz.prog.cellsOf 9 = 1 := by kernel_rfl
theorem Tryz.bytesS : Tryz.prog.bytesOf 9 = 16 := by kernel_rfl
theorem Tryz.cellsL : Tryz.prog.cellsOf 22 = 1 := by kernel_rfl
theorem one_of {α : Type} (l : List α) (h : l.length = 1) : ∃ a, l = [a] := by
  match l, h with
  | [a], _ => exact ⟨a, rfl⟩
theorem three_of {α : Type} (l : List α) (h : l.length = 3) : ∃ a b c, l = [a, b, c] := by
  match l, h with
  | [a, b, c], _ => exact ⟨a, b, c, rfl⟩
theorem choose_of {α : Type} {p : Nat → α → Prop} : ∀ n, (∀ i, i < n → ∃ s, p i s) → ∃ L : List α, L.length = n ∧ ∀ i (h : i < L.length), p i L[i]
  | 0, _ => ⟨[], rfl, fun i hi => absurd hi (Nat.not_lt_zero i)⟩
  | n + 1, h => by
    obtain ⟨L, h1, h2⟩ := choose_of n (fun i hi => h i (by omega))
    obtain ⟨s, hs⟩ := h n (by omega)
    refine ⟨L ++ [s], by simp [h1], fun i hi => ?_⟩
    by_cases hn : i < L.length
    · rw [List.getElem_append_left hn]; exact h2 i hn
    · have : i = L.length := by rw [List.length_append, List.length_singleton] at hi; omega
      subst this
      rw [List.getElem_append_right (Nat.le_refl _)]
      simp only [Nat.sub_self, List.getElem_cons_zero]
      rw [h1]; exact hs
/-- Numbers that came in. -/
theorem ints_open {H : Type} {enc : TypeId × Value → H} {W : World} {fuel : Nat} {a0 : Option Addr} {len cap : Nat} {d : DataW H} {p : List MemPlace}
    (hf : DataW.trod enc Tryz.prog W 0 (fun _ => true) true fuel 22 [.slice a0 len cap] = some (d, p)) (hw : ∀ k ∈ d.weights Tryz.prog 22, k ≤ reachBytes) : ∃ L : List Int, L.length = len ∧ len ≤ 17592186043904 ∧ ZAt W a0 L := by
  rcases open_slice Tryz.underlying22 hf with ⟨hcs, _⟩ | ⟨a, l, c, m, n, V, Pl, hcs, _, hl, hm, hmm, hx, hat⟩
  · injection hcs with hv
    injection hv with e1 e2 e3
    subst e2 e3
    exact ⟨[], rfl, by omega, .inl rfl⟩
  · injection hcs with hv
    injection hv with e1 e2 e3
    subst e1 e2 e3
    simp only [if_true] at hmm
    subst hmm
    simp only [Prod.mk.injEq] at hx
    obtain ⟨hd, hp⟩ := hx
    have hcap : (len + (m - len)) * 8 ≤ reachBytes := by
      refine hw _ ?_
      rw [hd]
      simp [DataW.weights, Tryz.underlying22, Tryz.bytesI]
    have hlen : len ≤ 17592186043904 := by simp only [reachBytes] at hcap; omega
    by_cases h0 : len = 0
    · subst h0
      exact ⟨[], rfl, by omega, .inl rfl⟩
    have each : ∀ i, i < len → ∃ z : Int, W.cell? (a.add (i * 1)) = some (.int .i64 z) := by
      intro i hi
      obtain ⟨cs', g1, g2⟩ := hat i (by omega)
      rw [Tryz.cellsI] at g1
      obtain ⟨_, hlen, hcell⟩ := World.cells?_some g1
      obtain ⟨v, rfl⟩ := one_of cs' hlen
      obtain ⟨z, e, _, _⟩ := DataW.trod_int Tryz.underlying3 g2
      simp only [List.cons.injEq, and_true] at e
      subst e
      have c0 := hcell 0 (by decide)
      rw [add_add] at c0
      exact ⟨z, by simpa using c0⟩
    obtain ⟨L, hL, hp'⟩ := choose_of len each
    obtain ⟨b, off, spot⟩ := a
    have hz := hp' 0 (by omega)
    have hspot : spot = none := by simpa [Addr.add] using World.cell?_spot hz
    subst hspot
    refine ⟨L, hL, hlen, .inr ⟨b, off, rfl, World.block_lt_of_cell? W _ (by simpa [Addr.add] using hz), fun i hi => ?_⟩⟩
    have q0 := hp' i hi
    rw [addr_add', Nat.mul_one] at q0
    exact q0
/-- Texts that came in. -/
theorem strs_open {H : Type} {enc : TypeId × Value → H} {W : World} {fuel : Nat} {a0 : Option Addr} {len cap : Nat} {d : DataW H} {p : List MemPlace}
    (hf : DataW.trod enc Tryz.prog W 0 (fun _ => true) true fuel 50 [.slice a0 len cap] = some (d, p)) (hw : ∀ k ∈ d.weights Tryz.prog 50, k ≤ reachBytes) : ∃ T : List By, T.length = len ∧ len ≤ 140737488351232 ∧ (∀ x ∈ T, x.length ≤ 140737488351232) ∧ SAt W a0 T := by
  rcases open_slice Tryz.underlying50 hf with ⟨hcs, _⟩ | ⟨a, l, c, m, n, V, Pl, hcs, _, hl, hm, hmm, hx, hat⟩
  · injection hcs with hv
    injection hv with e1 e2 e3
    subst e2 e3
    exact ⟨[], rfl, by omega, fun x hx => (by cases hx), .inl rfl⟩
  · injection hcs with hv
    injection hv with e1 e2 e3
    subst e1 e2 e3
    simp only [if_true] at hmm
    subst hmm
    simp only [Prod.mk.injEq] at hx
    obtain ⟨hd, hp⟩ := hx
    have hcap : (len + (m - len)) * 16 ≤ reachBytes := by
      refine hw _ ?_
      rw [hd]
      simp [DataW.weights, Tryz.underlying50, Tryz.bytesS]
    have hlen : len ≤ 140737488351232 := by simp only [reachBytes] at hcap; omega
    by_cases h0 : len = 0
    · subst h0
      exact ⟨[], rfl, by omega, fun x hx => (by cases hx), .inl rfl⟩
    have each : ∀ i, i < len → ∃ t : By, W.cell? (a.add (i * 1)) = some (.string ⟨t.toArray⟩) ∧ t.length ≤ 140737488351232 := by
      intro i hi
      obtain ⟨cs', g1, g2⟩ := hat i (by omega)
      rw [Tryz.cellsS] at g1
      obtain ⟨_, hlen, hcell⟩ := World.cells?_some g1
      obtain ⟨v, rfl⟩ := one_of cs' hlen
      obtain ⟨z, e, e2, _⟩ := DataW.trod_string Tryz.underlying9 g2
      simp only [List.cons.injEq, and_true] at e
      subst e
      have c0 := hcell 0 (by decide)
      rw [add_add] at c0
      have hwz : z.data.toList.length ≤ reachBytes := by
        refine hw _ ?_
        rw [hd]
        simp only [DataW.weights, Tryz.underlying50, List.mem_cons, List.mem_append]
        refine .inr (.inl (weightsAll_in (List.mem_map.2 ⟨i, List.mem_range.2 hi, rfl⟩) _ ?_))
        have e3 : V i = (.lit (.string z.data.toList) : DataW H) := by
          injection e2
        rw [e3]
        simp [DataW.weights]
      exact ⟨z.data.toList, by simpa using c0, by simpa [reachBytes] using hwz⟩
    obtain ⟨L, hL, hp'⟩ := choose_of len each
    obtain ⟨b, off, spot⟩ := a
    have hz := (hp' 0 (by omega)).1
    have hspot : spot = none := by simpa [Addr.add] using World.cell?_spot hz
    subst hspot
    refine ⟨L, hL, hlen, fun x hx => ?_, .inr ⟨b, off, rfl, World.block_lt_of_cell? W _ (by simpa [Addr.add] using hz), fun i hi => ?_⟩⟩
    · obtain ⟨i, hi, rfl⟩ := List.mem_iff_getElem.1 hx
      exact (hp' i hi).2
    · have q0 := (hp' i hi).1
      rw [addr_add', Nat.mul_one] at q0
      exact q0
set_option maxRecDepth 100000 in
/-- An automaton that came in. -/
theorem auto_open {H : Type} {enc : TypeId × Value → H} {W : World} {base : Nat} {v : Value} {d : DataW H} {p : List MemPlace} {r : _}
    (hok : Value.okWide Tryz.prog W r base 24 v) (h : DataW.Trod enc Tryz.prog W 0 (fun _ => true) true 24 v d p) (hw : ∀ k ∈ d.weights Tryz.prog 24, k ≤ reachBytes) :
    ∃ (bs : By) (na oa : Option Addr) (nc oc : Nat) (NZ OZ : List Int), v = auV bs na NZ.length nc oa OZ.length oc ∧ bs.length ≤ 140737488351232 ∧ NZ.length ≤ 17592186043904 ∧ OZ.length ≤ 17592186043904 ∧ ZAt W na NZ ∧ ZAt W oa OZ := by
  obtain ⟨cs, rfl, hsz⟩ := okWide_struct Tryz.underlying24 hok
  obtain ⟨fuel, hf⟩ := h
  obtain ⟨xs, k, _, hxy, _, hxl, hfl⟩ := DataW.trod_struct Tryz.underlying24 hf
  have hc24 : Tryz.prog.cellsOf 24 = 3 := by kernel_rfl
  rw [hc24] at hsz
  obtain ⟨cl⟩ := cs
  obtain ⟨v0, v1, v2, rfl⟩ := three_of cl hsz
  obtain ⟨y0, y1, y2, rfl⟩ := three_of xs hxl
  have g0 := hfl 0 _ rfl
  have g1 := hfl 1 _ rfl
  have g2 := hfl 2 _ rfl
  simp [Tryz.cellsS, Tryz.cellsL, Value.cells] at g0 g1 g2
  obtain ⟨s0, e0, f0, w0⟩ := DataW.trod_string Tryz.underlying9 g0
  simp only [List.cons.injEq, and_true] at e0
  subst e0
  obtain ⟨a1, l1, c1, rfl⟩ : ∃ ai li ci, v1 = .slice ai li ci := by
    rcases open_slice Tryz.underlying22 g1 with ⟨hcs, _⟩ | ⟨a', l', c', _, _, _, _, hcs, _⟩
    · injection hcs with hv; exact ⟨none, 0, 0, hv⟩
    · injection hcs with hv; exact ⟨_, l', c', hv⟩
  obtain ⟨a2, l2, c2, rfl⟩ : ∃ ai li ci, v2 = .slice ai li ci := by
    rcases open_slice Tryz.underlying22 g2 with ⟨hcs, _⟩ | ⟨a', l', c', _, _, _, _, hcs, _⟩
    · injection hcs with hv; exact ⟨none, 0, 0, hv⟩
    · injection hcs with hv; exact ⟨_, l', c', hv⟩
  obtain ⟨L1, e1, h1, z1⟩ := ints_open (d := y1.1) (p := y1.2) g1 (fun k hk => hw k (by
    simp only [Prod.mk.injEq] at hxy
    rw [hxy.1]
    simp [DataW.weights, Tryz.underlying24]
    exact DataW.weights_mem_each (j := 1) (t := 22) rfl rfl k hk))
  obtain ⟨L2, e2, h2, z2⟩ := ints_open (d := y2.1) (p := y2.2) g2 (fun k hk => hw k (by
    simp only [Prod.mk.injEq] at hxy
    rw [hxy.1]
    simp [DataW.weights, Tryz.underlying24]
    exact DataW.weights_mem_each (j := 2) (t := 22) rfl rfl k hk))
  subst e1 e2
  have hb0 : s0.data.toList.length ≤ reachBytes := hw _ (by
    simp only [Prod.mk.injEq] at hxy
    rw [hxy.1]
    simp [DataW.weights, Tryz.underlying24]
    refine DataW.weights_mem_each (j := 0) (t := 9) rfl rfl _ ?_
    rw [f0]
    simp [DataW.weights])
  exact ⟨s0.data.toList, a1, a2, c1, c2, L1, L2, rfl, by simpa [reachBytes] using hb0, h1, h2, z1, z2⟩
end Go.Proofs.YtdgoilkgplnhfaaGreat
/-
  The statements' lent, walked: an automaton's copy, with three places behind each list. Condition: lists no longer than a process can hold.
-/
namespace Go.Proofs.YtdgoilkgplnhfaaGreat
open Go.RowKit Go.Lib

def zC (L : List Int) : List Value := L.map fun z => Value.int .i64 z
theorem zC_len (L : List Int) : (zC L).length = L.length := by simp [zC]
/-- A list and three places behind it, k of them marked. -/
def lnC (L : List Int) (k : Nat) : List Value := zC L ++ (List.replicate k (.int .i64 (-77)) ++ List.replicate (3 - k) (.int .i64 0))
theorem lnC_len (L : List Int) {k : Nat} (h : k ≤ 3) : (lnC L k).length = L.length + 3 := by simp [lnC, zC]; omega
theorem lnC_set (L : List Int) {k : Nat} (h : k < 3) : (lnC L k).set (L.length + k) (.int .i64 (-77)) = lnC L (k + 1) := by
  unfold lnC
  rw [List.set_append_right _ _ (by rw [zC_len]; omega), zC_len, show L.length + k - L.length = k by omega]
  match k, h with
  | 0, _ => rfl
  | 1, _ => rfl
  | 2, _ => rfl
theorem lnC_cp (L : List Int) (n : Nat) (hn : n = L.length + 3) : splice (List.replicate n (Value.int .i64 0)) 0 (zC L) = lnC L 0 := by
  subst hn
  simp [splice, lnC, zC]
/-- What was lent, in memory. -/
def LnA (w : World) (g : Nat) (L : List Int) : Prop := g < w.heap.size ∧ ∀ i (h : i < (lnC L 3).length), w.cell? ⟨g, i, none⟩ = some (lnC L 3)[i]
theorem LnA.below {w w' : World} {g : Nat} {L : List Int} (h : LnA w g L) (x : Below w.heap.size w w') : LnA w' g L := ⟨Nat.lt_of_lt_of_le h.1 x.size, fun i hi => (x.cell (p := ⟨g, i, none⟩) h.1).trans (h.2 i hi)⟩
theorem LnA.z {w : World} {g : Nat} {L : List Int} (h : LnA w g L) : ZAt w (some ⟨g, 0, none⟩) L := .inr ⟨g, 0, rfl, h.1, fun i hi => by
  rw [Nat.zero_add, h.2 i (by rw [lnC_len L (by decide)]; omega)]
  unfold lnC
  rw [List.getElem_append_left (by rw [zC_len]; exact hi)]
  simp [zC]⟩
theorem LnA.more {w : World} {g : Nat} {L : List Int} (h : LnA w g L) {k : Nat} (hk : k < 3) : w.cell? ⟨g, L.length + k, none⟩ = some (.int .i64 (-77)) := by
  rw [h.2 (L.length + k) (by rw [lnC_len L (by decide)]; omega)]
  unfold lnC
  rw [List.getElem_append_right (by rw [zC_len]; omega)]
  match k, hk with
  | 0, _ => simp [zC]
  | 1, _ => simp [zC]
  | 2, _ => simp [zC]
theorem made_ints (n : Nat) : (madeCells (Value.int .i64 0).cells (n * 1)).toList = List.replicate n (.int .i64 0) := by
  simp only [madeCells, Value.cells, Nat.mul_one]
  rw [List.eq_replicate_iff]
  refine ⟨by simp, fun b hb => ?_⟩
  simp only [Array.toList_map, List.mem_map] at hb
  obtain ⟨x, _, rfl⟩ := hb
  simp [Nat.mod_one]
theorem full_block {w : World} {base g n : Nat} {xs : List Value} (h : w.ownsRow base 3 1 (.slice (some ⟨g, 0, none⟩) n n) n xs) : w.heap[g]? = some (.cells xs.toArray 3 (0, 0)) := by
  rcases h.2 with ⟨h', _⟩ | ⟨g', cap', cur, h', hb, hg, hnc, hcm, hcs, htake⟩
  · simp at h'
  · simp only [Value.slice.injEq, Option.some.injEq, Addr.mk.injEq, and_true, true_and] at h'
    obtain ⟨rfl, rfl⟩ := h'
    rw [hg, ← htake, List.take_of_length_le (by simp; omega)]
theorem own_block {w : World} {base g n : Nat} {xs : List Value} (h : w.heap[g]? = some (.cells xs.toArray 3 (0, 0))) (hb : base ≤ g) (hn : xs.length = n) (hm : n ≤ maxLen) : w.ownsRow base 3 1 (.slice (some ⟨g, 0, none⟩) n n) n xs :=
  ⟨by omega, .inr ⟨g, n, xs.toArray, rfl, hb, h, Nat.le_refl _, hm, by simp [hn], by simp [List.take_of_length_le, hn]⟩⟩
theorem two_rows {w0 w : World} {g1 g2 n1 n2 : Nat} {A B : List Value} (x : Below w0.heap.size w0 w) (h1 : w.heap[g1]? = some (.cells A.toArray 3 (0, 0))) (h2 : w.heap[g2]? = some (.cells B.toArray 3 (0, 0))) (hb1 : w0.heap.size ≤ g1) (hb2 : w0.heap.size ≤ g2) (hne : g1 ≠ g2) (hn1 : A.length = n1) (hn2 : B.length = n2) (hm1 : n1 ≤ maxLen) (hm2 : n2 ≤ maxLen) :
    Fr w0 [(.slice (some ⟨g1, 0, none⟩) n1 n1, 3, A), (.slice (some ⟨g2, 0, none⟩) n2 n2, 3, B)] w := by
  subst hn1 hn2
  refine ⟨⟨fun j hj => ?_, fun j hj k hk hjk b e1 e2 => ?_⟩, x⟩
  · match j, hj with
    | 0, _ => exact own_block h1 hb1 rfl hm1
    | 1, _ => exact own_block h2 hb2 rfl hm2
  · match j, hj, k, hk with
    | 0, _, 0, _ => exact hjk rfl
    | 1, _, 1, _ => exact hjk rfl
    | 0, _, 1, _ =>
      have a1 : g1 = b := Option.some.inj e1
      have a2 : g2 = b := Option.some.inj e2
      exact hne (a1.trans a2.symm)
    | 1, _, 0, _ =>
      have a1 : g2 = b := Option.some.inj e1
      have a2 : g1 = b := Option.some.inj e2
      exact hne (a2.trans a1.symm)
theorem ZAt.src {w : World} {ao : Option Addr} {L : List Int} (h : ZAt w ao L) (h0 : 0 < (zC L).length) : ∃ ad, ao = some ad ∧ ∀ j v, (zC L)[j]? = some v → w.cell? (ad.add j) = some v := by
  rw [zC_len] at h0
  rcases h with h | ⟨b, off, e, hb, h⟩
  · rw [h] at h0; cases h0
  · refine ⟨_, e, fun j v hv => ?_⟩
    obtain ⟨hj, e2⟩ := List.getElem?_eq_some_iff.1 hv
    rw [zC_len] at hj
    rw [addr_add', h j hj, ← e2]
    simp [zC]
set_option maxRecDepth 100000 in
set_option maxHeartbeats 8000000 in
theorem lentA_any (bs : By) (na oa : Option Addr) (nc oc : Nat) (NZ OZ : List Int) (w : World) (hnl : NZ.length ≤ 17592186043904) (hol : OZ.length ≤ 17592186043904) (hnx : ZAt w na NZ) (hou : ZAt w oa OZ) :
    Calls Tryz.prog 11 #[auV bs na NZ.length nc oa OZ.length oc] w fun e w' => (∃ gx go, e = .returned (auV bs (some ⟨gx, 0, none⟩) NZ.length (NZ.length + 3) (some ⟨go, 0, none⟩) OZ.length (OZ.length + 3)) ∧ LnA w' gx NZ ∧ LnA w' go OZ) ∧ Below w.heap.size w w' := by
  obtain ⟨i3, hi3, hz30, hz31, hz32⟩ := info_parts Tryz.info3n
  have HI3 : Hid ((Tryz.prog.info? 3).map (·.size) = some 1) := by unfold Hid; kernel_rfl
  have HI : Hid ((Tryz.prog.info? 24).map (·.size) = some 3) := by unfold Hid; kernel_rfl
  obtain ⟨w2, hw2⟩ : ∃ w2, w2 = (w.alloc (.cells #[.string ⟨bs.toArray⟩, .slice na NZ.length nc, .slice oa OZ.length oc] 24)).alloc (.cells #[.string ⟨#[]⟩, .slice none 0 0, .slice none 0 0] 24) := ⟨_, rfl⟩
  obtain ⟨X2, B1, B2, hs2⟩ := two_alloc' w #[.string ⟨bs.toArray⟩, .slice na NZ.length nc, .slice oa OZ.length oc] #[.string ⟨#[]⟩, .slice none 0 0, .slice none 0 0] 24 24
  rw [← hw2] at X2 B1 B2 hs2
  have HC : Hid (∀ V, Below w2.heap.size w2 V → (V.cell? ⟨w.heap.size, 0, none⟩ = some (.string ⟨bs.toArray⟩) ∧ V.cell? ⟨w.heap.size, 1, none⟩ = some (.slice na NZ.length nc) ∧ V.cell? ⟨w.heap.size, 2, none⟩ = some (.slice oa OZ.length oc)) ∧ V.heap[w.heap.size + 1]? = some (.cells #[.string ⟨#[]⟩, .slice none 0 0, .slice none 0 0] 24 (0, 0)) ∧ ZAt V na NZ ∧ ZAt V oa OZ) := fun V x => by
    have Bv := (x.block _ (lt_of_block B1)).trans B1
    exact ⟨⟨by rw [cell_of_row _ _ _ _ _ _ Bv]; rfl, by rw [cell_of_row _ _ _ _ _ _ Bv]; rfl, by rw [cell_of_row _ _ _ _ _ _ Bv]; rfl⟩, (x.block _ (lt_of_block B2)).trans B2, hnx.below (bt X2 x (Nat.le_refl _)), hou.below (bt X2 x (Nat.le_refl _))⟩
  have HX2 := hide X2
  have HS2 := hide hs2
  have HCN : Hid ((NZ.length : Int) + 3 = ((NZ.length + 3 : Nat) : Int)) := by unfold Hid; omega
  have HCO : Hid ((OZ.length : Int) + 3 = ((OZ.length + 3 : Nat) : Int)) := by unfold Hid; omega
  obtain ⟨⟨c0, c1, c2⟩, -⟩ := HC.out w2 (Below.refl _ _)
  clear X2 B1 B2 hs2 hnx hou
  unfold auV
  go_enter Tryz.func11, Tryz.ntmps11
  go_upto_region 1 with fail
  rw [← hw2]
  clear hw2
  go_upto_region 2 with (at_make; refine wpList_make_full _ rfl (.tmp 9) (.tmp 9) 22 rfl w2.heap.size 3 i3 (.int .i64 0) 1 Tryz.underlying22 hi3 hz30 hz31 .i64 .i64 _ _ (NZ.length + 3) rfl rfl HCN.out HCN.out (by rw [hz32]; omega) (by unfold maxLen; omega) (Nat.le_refl _) ?_; intro w3 m1 m2; rw [made_ints] at m1; have M1 := hide (full_block m1); have X3 := hide (below_of_grown m2); clear m1 m2)
  clear c0 c1 c2
  obtain ⟨⟨c0, c1, c2⟩, -, kx, -⟩ := HC.out w3 X3.out
  have P1 := hide (fun (h0 : 0 < (zC NZ).length) => (⟨rfl, kx.src h0⟩ : (some (⟨w2.heap.size, 0, none⟩ : Addr)) = some ⟨w2.heap.size, 0, none⟩ ∧ _))
  clear kx
  go_upto_region 3 with (refine wpList_copy_splice rfl (.tmp 11) (.tmp 13) 22 22 rfl 3 Tryz.underlying22 HI3.out _ na (NZ.length + 3) (NZ.length + 3) NZ.length nc rfl rfl w2.heap.size 0 _ 3 M1.out (zC NZ) (by rw [zC_len]; exact (Nat.min_eq_left (by omega)).symm) P1.out (by rw [zC_len, List.length_replicate]; omega) (fun v hv => by obtain ⟨z, _, rfl⟩ := List.mem_map.1 hv; rfl) w2.heap.size w2 X3.out (Nat.le_refl _) ?_; intro w4 m1 x4; rw [lnC_cp NZ _ rfl] at m1; have M4 := hide m1.out; have X4 := hide x4; clear m1 x4)
  obtain ⟨gx, hgx⟩ : ∃ gx, gx = w2.heap.size := ⟨_, rfl⟩
  rw [← hgx] at M4 ⊢
  have HGX := hide hgx
  clear c0 c1 c2 M1 P1 X3 hgx
  obtain ⟨⟨c0, c1, c2⟩, -, -, -⟩ := HC.out w4 X4.out
  go_upto_region 4 with (at_make; refine wpList_make_full _ rfl (.tmp 18) (.tmp 18) 22 rfl w4.heap.size 3 i3 (.int .i64 0) 1 Tryz.underlying22 hi3 hz30 hz31 .i64 .i64 _ _ (OZ.length + 3) rfl rfl HCO.out HCO.out (by rw [hz32]; omega) (by unfold maxLen; omega) (Nat.le_refl _) ?_; intro w5 m1 m2; rw [made_ints] at m1; have M5 := hide (full_block m1); have X5 := hide (below_of_grown m2); clear m1 m2)
  clear c0 c1 c2
  obtain ⟨⟨c0, c1, c2⟩, -, -, ko⟩ := HC.out w5 (bt X4.out X5.out (Nat.le_refl _))
  have P1 := hide (fun (h0 : 0 < (zC OZ).length) => (⟨rfl, ko.src h0⟩ : (some (⟨w4.heap.size, 0, none⟩ : Addr)) = some ⟨w4.heap.size, 0, none⟩ ∧ _))
  clear ko
  go_upto_region 5 with (refine wpList_copy_splice rfl (.tmp 20) (.tmp 22) 22 22 rfl 3 Tryz.underlying22 HI3.out _ oa (OZ.length + 3) (OZ.length + 3) OZ.length oc rfl rfl w4.heap.size 0 _ 3 M5.out (zC OZ) (by rw [zC_len]; exact (Nat.min_eq_left (by omega)).symm) P1.out (by rw [zC_len, List.length_replicate]; omega) (fun v hv => by obtain ⟨z, _, rfl⟩ := List.mem_map.1 hv; rfl) w4.heap.size w4 X5.out (Nat.le_refl _) ?_; intro w6 m1 x6; rw [lnC_cp OZ _ rfl] at m1; have M6 := hide m1.out; have X6 := hide x6; clear m1 x6)
  obtain ⟨go, hgo⟩ : ∃ go, go = w4.heap.size := ⟨_, rfl⟩
  have F6 : Hid (Fr w2 [(.slice (some ⟨gx, 0, none⟩) (NZ.length + 3) (NZ.length + 3), 3, lnC NZ 0), (.slice (some ⟨go, 0, none⟩) (OZ.length + 3) (OZ.length + 3), 3, lnC OZ 0)] w6) := by
    have hg1 : gx < w4.heap.size := lt_of_block M4.out
    have hgx := HGX.out
    refine two_rows (bt X4.out X6.out (Nat.le_refl _)) ((X6.out.block gx hg1).trans M4.out) (by rw [hgo]; exact M6.out) (by omega) (by have := X4.out.size; omega) (by omega) (lnC_len NZ (by decide)) (lnC_len OZ (by decide)) (by unfold maxLen; omega) (by unfold maxLen; omega)
  rw [← hgo]
  clear c0 c1 c2 M5 M6 M4 P1 X5 X6 X4 hgo HGX
  go_wp2
  go_loopg [5] 4 (fun g x wr => ∃ k : Nat, x = .int .i64 (k : Nat) ∧ k ≤ 3 ∧ Hid (Fr w2 [(.slice (some ⟨gx, 0, none⟩) (NZ.length + 3) (NZ.length + 3), 3, lnC NZ k), (.slice (some ⟨go, 0, none⟩) (OZ.length + 3) (OZ.length + 3), 3, lnC OZ k)] wr) ∧ 3 - k < g)
  case atStart => exact ⟨0, rfl, by omega, F6, by omega⟩
  case round =>
    clear F6
    obtain ⟨k, rfl, hk1, F, hg⟩ := hrel
    have HG := hide hg
    clear hg
    obtain ⟨⟨c0, c1, c2⟩, B7, -, -⟩ := HC.out wr F.out.bel
    by_cases hk : k < 3
    · as_aux_lemma =>
      have hk' : (k : Int) < 3 := by omega
      obtain ⟨s0, s1⟩ := F.out.slot (i := 0) (by simp) rfl (k := NZ.length + k) (by rw [lnC_len NZ (by omega)]; omega)
      have F1 := F.out.store (i := 0) (by simp) rfl (NZ.length + k) (.int .i64 (-77))
      rw [lnC_set NZ hk] at F1
      have F1 : Hid (Fr w2 [(.slice (some ⟨gx, 0, none⟩) (NZ.length + 3) (NZ.length + 3), 3, lnC NZ (k + 1)), (.slice (some ⟨go, 0, none⟩) (OZ.length + 3) (OZ.length + 3), 3, lnC OZ k)] (wr.setCell ⟨gx, NZ.length + k, none⟩ (.int .i64 (-77)))) := F1
      have f2 : IntKind.i64.wrap ((NZ.length : Int) + (k : Int)) = (NZ.length : Int) + (k : Int) := by rw [show (NZ.length : Int) + (k : Int) = ((NZ.length + k : Nat) : Int) by omega]; exact w64_n _ (by omega)
      have f3 : (NZ.length : Int) + (k : Int) < (NZ.length : Int) + 3 := by omega
      have f4 : (0 : Int) ≤ (NZ.length : Int) + (k : Int) := by omega
      have f5 : ((NZ.length : Int) + (k : Int)).toNat = NZ.length + k := by omega
      clear B7
      go_upto_region 9 with fail
      obtain ⟨wa, hwa⟩ : ∃ wa, wa = wr.setCell ⟨gx, NZ.length + k, none⟩ (.int .i64 (-77)) := ⟨_, rfl⟩
      rw [← hwa] at F1 ⊢
      clear hwa s0 s1 f2 f3 f4 f5 c0 c1 c2 F
      obtain ⟨⟨c0, c1, c2⟩, -⟩ := HC.out wa F1.out.bel
      obtain ⟨s0, s1⟩ := F1.out.slot (i := 1) (by simp) rfl (k := OZ.length + k) (by rw [lnC_len OZ (by omega)]; omega)
      have F2 := F1.out.store (i := 1) (by simp) rfl (OZ.length + k) (.int .i64 (-77))
      rw [lnC_set OZ hk] at F2
      have F2 : Hid (Fr w2 [(.slice (some ⟨gx, 0, none⟩) (NZ.length + 3) (NZ.length + 3), 3, lnC NZ (k + 1)), (.slice (some ⟨go, 0, none⟩) (OZ.length + 3) (OZ.length + 3), 3, lnC OZ (k + 1))] (wa.setCell ⟨go, OZ.length + k, none⟩ (.int .i64 (-77)))) := F2
      have f2 : IntKind.i64.wrap ((OZ.length : Int) + (k : Int)) = (OZ.length : Int) + (k : Int) := by rw [show (OZ.length : Int) + (k : Int) = ((OZ.length + k : Nat) : Int) by omega]; exact w64_n _ (by omega)
      have f3 : (OZ.length : Int) + (k : Int) < (OZ.length : Int) + 3 := by omega
      have f4 : (0 : Int) ≤ (OZ.length : Int) + (k : Int) := by omega
      have f5 : ((OZ.length : Int) + (k : Int)).toNat = OZ.length + k := by omega
      go_wp2
      go_roundg (3 - (k + 1) + 1)
      case measure => have := HG.out; omega
      case rel => exact ⟨k + 1, by first | rfl | go_num | (congr 1; omega), by omega, F2, by omega⟩
    · as_aux_lemma =>
      have hk' : ¬ (k : Int) < 3 := by omega
      obtain rfl : k = 3 := by omega
      obtain ⟨S, HSE, HS0⟩ : ∃ S : World → Prop, Hid (∀ V, S V → V.cell? ⟨w.heap.size, 0, none⟩ = some (.string ⟨bs.toArray⟩) ∧ V.cell? ⟨w.heap.size, 1, none⟩ = some (.slice na NZ.length nc) ∧ V.cell? ⟨w.heap.size, 2, none⟩ = some (.slice oa OZ.length oc)) ∧ Hid (S wr.drew) := ⟨_, fun V h => h, ⟨c0, c1, c2⟩⟩
      have FD := hide (F.out.below (Below.refl _ _).drew)
      have BD : wr.drew.heap[w.heap.size + 1]? = some (.cells #[.string ⟨#[]⟩, .slice none 0 0, .slice none 0 0] 24 (0, 0)) := B7
      clear c0 c1 c2 B7 F
      go_upto_region 10 with fail
      refine wp_unt (S := S) 13 (by kernel_rfl) ?_
      generalize wr.drew = wd at *
      have HBD := hide BD
      clear BD
      have hN3 : (NZ.length : Int) ≤ (NZ.length : Int) + 3 := by omega
      have hO3 : (OZ.length : Int) ≤ (OZ.length : Int) + 3 := by omega
      refine UntH.take (i := 0) (some 42) rfl rfl (by kernel_rfl) (by kernel_rfl) (by kernel_rfl) (by kernel_rfl) (fun _ _ _ _ h => h) (by rfl) HS0.out ?_
      apply Exists.intro
      refine ⟨fun w' hw' => ?_, ?_⟩
      · obtain ⟨q0, q1, q2⟩ := HSE.out w' hw'
        go_simp
        first | done | rfl
      try simp only [Act.put, List.setIfInBounds_toArray, List.set_cons_zero, List.set_cons_succ]
      refine UntH.take (i := 1) (some 43) rfl rfl (by kernel_rfl) (by kernel_rfl) (by kernel_rfl) (by kernel_rfl) (fun _ _ _ _ h => h) (by rfl) HS0.out ?_
      apply Exists.intro
      refine ⟨fun w' hw' => ?_, ?_⟩
      · obtain ⟨q0, q1, q2⟩ := HSE.out w' hw'
        go_simp
        first | done | rfl
      try simp only [Act.put, List.setIfInBounds_toArray, List.set_cons_zero, List.set_cons_succ]
      refine UntH.take (i := 2) (some 44) rfl rfl (by kernel_rfl) (by kernel_rfl) (by kernel_rfl) (by kernel_rfl) (fun _ _ _ _ h => h) (by rfl) HS0.out ?_
      apply Exists.intro
      refine ⟨fun w' hw' => ?_, ?_⟩
      · obtain ⟨q0, q1, q2⟩ := HSE.out w' hw'
        go_simp
        first | done | rfl
      try simp only [Act.put, List.setIfInBounds_toArray, List.set_cons_zero, List.set_cons_succ]
      refine UntH.take (i := 3) (some 45) rfl rfl (by kernel_rfl) (by kernel_rfl) (by kernel_rfl) (by kernel_rfl) (fun _ _ _ _ h => h) (by rfl) HS0.out ?_
      apply Exists.intro
      refine ⟨fun w' hw' => ?_, ?_⟩
      · obtain ⟨q0, q1, q2⟩ := HSE.out w' hw'
        go_simp
        first | done | rfl
      try simp only [Act.put, List.setIfInBounds_toArray, List.set_cons_zero, List.set_cons_succ]
      refine UntH.take (i := 4) (some 46) rfl rfl (by kernel_rfl) (by kernel_rfl) (by kernel_rfl) (by kernel_rfl) (fun _ _ _ _ h => h) (by rfl) HS0.out ?_
      apply Exists.intro
      refine ⟨fun w' hw' => ?_, ?_⟩
      · obtain ⟨q0, q1, q2⟩ := HSE.out w' hw'
        go_simp
        first | done | rfl
      try simp only [Act.put, List.setIfInBounds_toArray, List.set_cons_zero, List.set_cons_succ]
      refine UntH.take (i := 5) (some 47) rfl rfl (by kernel_rfl) (by kernel_rfl) (by kernel_rfl) (by kernel_rfl) (fun _ _ _ _ h => h) (by rfl) HS0.out ?_
      apply Exists.intro
      refine ⟨fun w' hw' => ?_, ?_⟩
      · obtain ⟨q0, q1, q2⟩ := HSE.out w' hw'
        go_simp
        first | done | rfl
      try simp only [Act.put, List.setIfInBounds_toArray, List.set_cons_zero, List.set_cons_succ]
      refine UntH.take (i := 6) (some 48) rfl rfl (by kernel_rfl) (by kernel_rfl) (by kernel_rfl) (by kernel_rfl) (fun _ _ _ _ h => h) (by rfl) HS0.out ?_
      apply Exists.intro
      refine ⟨fun w' hw' => ?_, ?_⟩
      · obtain ⟨q0, q1, q2⟩ := HSE.out w' hw'
        go_simp
        first | done | rfl
      try simp only [Act.put, List.setIfInBounds_toArray, List.set_cons_zero, List.set_cons_succ]
      refine UntH.take (i := 7) (some 49) rfl rfl (by kernel_rfl) (by kernel_rfl) (by kernel_rfl) (by kernel_rfl) (fun _ _ _ _ h => h) (by rfl) HS0.out ?_
      apply Exists.intro
      refine ⟨fun w' hw' => ?_, ?_⟩
      · obtain ⟨q0, q1, q2⟩ := HSE.out w' hw'
        go_simp
        first | done | rfl
      try simp only [Act.put, List.setIfInBounds_toArray, List.set_cons_zero, List.set_cons_succ]
      refine UntH.take (i := 8) (some 50) rfl rfl (by kernel_rfl) (by kernel_rfl) (by kernel_rfl) (by kernel_rfl) (fun _ _ _ _ h => h) (by rfl) HS0.out ?_
      apply Exists.intro
      refine ⟨fun w' hw' => ?_, ?_⟩
      · obtain ⟨q0, q1, q2⟩ := HSE.out w' hw'
        go_simp
        first | done | rfl
      try simp only [Act.put, List.setIfInBounds_toArray, List.set_cons_zero, List.set_cons_succ]
      refine UntH.take (i := 9) (some 51) rfl rfl (by kernel_rfl) (by kernel_rfl) (by kernel_rfl) (by kernel_rfl) (fun _ _ _ _ h => h) (by rfl) HS0.out ?_
      apply Exists.intro
      refine ⟨fun w' hw' => ?_, ?_⟩
      · obtain ⟨q0, q1, q2⟩ := HSE.out w' hw'
        go_simp
        first | done | rfl
      try simp only [Act.put, List.setIfInBounds_toArray, List.set_cons_zero, List.set_cons_succ]
      refine UntH.take (i := 10) (some 52) rfl rfl (by kernel_rfl) (by kernel_rfl) (by kernel_rfl) (by kernel_rfl) (fun _ _ _ _ h => h) (by rfl) HS0.out ?_
      apply Exists.intro
      refine ⟨fun w' hw' => ?_, ?_⟩
      · obtain ⟨q0, q1, q2⟩ := HSE.out w' hw'
        go_simp
        first | done | rfl
      try simp only [Act.put, List.setIfInBounds_toArray, List.set_cons_zero, List.set_cons_succ]
      refine UntH.take (i := 11) (some 53) rfl rfl (by kernel_rfl) (by kernel_rfl) (by kernel_rfl) (by kernel_rfl) (fun _ _ _ _ h => h) (by rfl) HS0.out ?_
      apply Exists.intro
      refine ⟨fun w' hw' => ?_, ?_⟩
      · obtain ⟨q0, q1, q2⟩ := HSE.out w' hw'
        go_simp
        first | done | rfl
      try simp only [Act.put, List.setIfInBounds_toArray, List.set_cons_zero, List.set_cons_succ]
      refine UntH.take (i := 12) (some 54) rfl rfl (by kernel_rfl) (by kernel_rfl) (by kernel_rfl) (by kernel_rfl) (fun _ _ _ _ h => h) (by rfl) HS0.out ?_
      apply Exists.intro
      refine ⟨fun w' hw' => ?_, ?_⟩
      · obtain ⟨q0, q1, q2⟩ := HSE.out w' hw'
        go_simp
        first | done | rfl
      try simp only [Act.put, List.setIfInBounds_toArray, List.set_cons_zero, List.set_cons_succ]
      have A4 : Hid ((#[.string ⟨bs.toArray⟩, .slice (some ⟨gx, 0, none⟩) NZ.length (NZ.length + 3), .slice (some ⟨go, 0, none⟩) OZ.length (OZ.length + 3)] : Array Value).all (·.oneCell') = true) := by unfold Hid; simp [Value.oneCell']
      refine UntH.last (by kernel_rfl) rfl (by kernel_rfl) (by kernel_rfl) (fun K hK => ?_)
      rw [if_pos (by rfl)]
      refine wp_store_row 24 (.tmp 2) (.tmp 54) rfl (w.heap.size + 1) #[.string ⟨bs.toArray⟩, .slice (some ⟨gx, 0, none⟩) NZ.length (NZ.length + 3), .slice (some ⟨go, 0, none⟩) OZ.length (OZ.length + 3)] rfl rfl 24 #[.string ⟨#[]⟩, .slice none 0 0, .slice none 0 0] HBD.out HI.out rfl A4.out (hK _ _ ?_)
      clear hK K
      have B6 := setRow_heap wd (w.heap.size + 1) _ #[.string ⟨bs.toArray⟩, .slice (some ⟨gx, 0, none⟩) NZ.length (NZ.length + 3), .slice (some ⟨go, 0, none⟩) OZ.length (OZ.length + 3)] 24 (0, 0) HBD.out
      have k6 : Kept (fun k => k = w.heap.size + 1) wd (wd.setRow (w.heap.size + 1) #[.string ⟨bs.toArray⟩, .slice (some ⟨gx, 0, none⟩) NZ.length (NZ.length + 3), .slice (some ⟨go, 0, none⟩) OZ.length (OZ.length + 3)]) := kept_row
      have x5 := bt HX2.out FD.out.bel (Nat.le_refl _)
      have X6 := hide (x5.trans (k6.below x5.size (fun b hb => by omega)))
      have hs2 := HS2.out
      have HLX : Hid (LnA (wd.setRow (w.heap.size + 1) #[.string ⟨bs.toArray⟩, .slice (some ⟨gx, 0, none⟩) NZ.length (NZ.length + 3), .slice (some ⟨go, 0, none⟩) OZ.length (OZ.length + 3)]) gx NZ) := by
        have hl := World.ownsRow.lt (FD.out.own (i := 0) (by simp) rfl) gx rfl
        refine ⟨by have := k6.size; omega, fun i hi => ?_⟩
        rw [k6.cell (p := ⟨gx, i, none⟩) hl.2 (by show ¬ gx = _; omega)]
        exact (FD.out.slot (i := 0) (by simp) rfl (k := i) hi).1
      have HLO : Hid (LnA (wd.setRow (w.heap.size + 1) #[.string ⟨bs.toArray⟩, .slice (some ⟨gx, 0, none⟩) NZ.length (NZ.length + 3), .slice (some ⟨go, 0, none⟩) OZ.length (OZ.length + 3)]) go OZ) := by
        have hl := World.ownsRow.lt (FD.out.own (i := 1) (by simp) rfl) go rfl
        refine ⟨by have := k6.size; omega, fun i hi => ?_⟩
        rw [k6.cell (p := ⟨go, i, none⟩) hl.2 (by show ¬ go = _; omega)]
        exact (FD.out.slot (i := 1) (by simp) rfl (k := i) hi).1
      have z0 := cell_of_row _ _ 0 _ _ _ B6
      have z1 := cell_of_row _ _ 1 _ _ _ B6
      have z2 := cell_of_row _ _ 2 _ _ _ B6
      clear B6 k6 x5 FD hs2
      go_wp2
      refine bodyPost_ret (by simp [results, Tryz.results11, go_sem, z0, z1, z2]; try rfl) rfl ?_
      exact ⟨⟨gx, go, rfl, HLX.out, HLO.out⟩, X6.out⟩
end Go.Proofs.YtdgoilkgplnhfaaGreat
