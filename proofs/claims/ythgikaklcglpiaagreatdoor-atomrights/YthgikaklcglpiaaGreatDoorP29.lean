/-
  Of, of a condition that makes a test, by its contract. Condition: as in the texts before.
-/
import Derived.Test.YthgikaklcglpiaaGreatDoorP26
import Derived.Test.YthgikaklcglpiaaGreatDoorP25
import Derived.Test.YthgikaklcglpiaaGreatDoorP01
namespace Go.Proofs.YthgikaklcglpiaaGreatDoor.L9
open Go.RowKit Go.Lib

set_option maxRecDepth 100000 in
set_option maxHeartbeats 4000000 in
theorem of_ok {w : World} {c0 c1 c2 c3 c4 c5 c6 c7 : Value} (K : Nat) (Pa : L5.AD → Prop) (q : Bool) (hq : ∀ a, Pa a → (L5.RgA ({ a with k := (K : Int) } : L5.AD) ↔ q = true))
    (hm : ∀ V : World, Below w.heap.size w V → Calls Tryz.prog 36 #[.agg #[c0, c1, c2, c3, c4, c5, c6, c7]] V fun e w' => (∃ a : L5.AD, e = .returned (.tuple #[.agg ({ a with k := (K : Int) } : L5.AD).cells, .bool true]) ∧ Pa a ∧ AtF w' V.heap.size a) ∧ Below V.heap.size V w') :
    Calls Tryz.prog 13 #[.agg #[c0, c1, c2, c3, c4, c5, c6, c7]] w fun e w' => (∃ a : L5.AD, e = .returned (.tuple #[.agg (bif q then ({ a with k := (K : Int) } : L5.AD).cells else #[.int .i64 0, .string ⟨#[]⟩, .slice none 0 0, .slice none 0 0, .slice none 0 0]), .int .i64 (bif q then 0 else 1)]) ∧ Pa a ∧ AtF w' w.heap.size a) ∧ Below w.heap.size w w' := by
  obtain ⟨W, hW⟩ : ∃ W, W = (w.alloc (.cells #[c0, c1, c2, c3, c4, c5, c6, c7] 27)).alloc (.cells #[.int .i64 0, .string ⟨#[]⟩, .slice none 0 0, .slice none 0 0, .slice none 0 0] 35) := ⟨_, rfl⟩
  have XW := hide (show Below w.heap.size w W by rw [hW]; exact al (al (Below.refl _ _) _) _)
  have BC := hide (show W.heap[w.heap.size]? = some (.cells #[c0, c1, c2, c3, c4, c5, c6, c7] 27 (0, 0)) by rw [hW]; exact ((al (Below.refl _ _) _ : Below (w.alloc (.cells #[c0, c1, c2, c3, c4, c5, c6, c7] 27)).heap.size (w.alloc (.cells #[c0, c1, c2, c3, c4, c5, c6, c7] 27)) _).block _ (by simp)).trans (heap_alloc_new w _))
  have BR := hide (show W.heap[(w.alloc (.cells #[c0, c1, c2, c3, c4, c5, c6, c7] 27)).heap.size]? = some (.cells #[.int .i64 0, .string ⟨#[]⟩, .slice none 0 0, .slice none 0 0, .slice none 0 0] 35 (0, 0)) by rw [hW]; exact heap_alloc_new _ _)
  obtain ⟨R, hR⟩ : ∃ R, R = (w.alloc (.cells #[c0, c1, c2, c3, c4, c5, c6, c7] 27)).heap.size := ⟨_, rfl⟩
  rw [← hR] at BR
  have HRW : Hid (w.heap.size < R) := by unfold Hid; rw [hR]; simp
  have HM := hide (hm W XW.out)
  have HQ := hide hq
  clear hm hq
  have HRE : Hid (w.heap.size + 1 = R) := by unfold Hid; rw [hR]; simp
  clear hR
  go_enter Tryz.func13, Tryz.ntmps13
  go_upto_region 1 with fail
  rw [← hW]
  try simp only [HRE.out]
  clear hW
  have hBC := BC.out
  have e0 : W.cell? ⟨w.heap.size, 0, none⟩ = some c0 := by rw [cell_of_row _ _ _ _ _ _ hBC]; rfl
  have e1 : W.cell? ⟨w.heap.size, 1, none⟩ = some c1 := by rw [cell_of_row _ _ _ _ _ _ hBC]; rfl
  have e2 : W.cell? ⟨w.heap.size, 2, none⟩ = some c2 := by rw [cell_of_row _ _ _ _ _ _ hBC]; rfl
  have e3 : W.cell? ⟨w.heap.size, 3, none⟩ = some c3 := by rw [cell_of_row _ _ _ _ _ _ hBC]; rfl
  have e4 : W.cell? ⟨w.heap.size, 4, none⟩ = some c4 := by rw [cell_of_row _ _ _ _ _ _ hBC]; rfl
  have e5 : W.cell? ⟨w.heap.size, 5, none⟩ = some c5 := by rw [cell_of_row _ _ _ _ _ _ hBC]; rfl
  have e6 : W.cell? ⟨w.heap.size, 6, none⟩ = some c6 := by rw [cell_of_row _ _ _ _ _ _ hBC]; rfl
  have e7 : W.cell? ⟨w.heap.size, 7, none⟩ = some c7 := by rw [cell_of_row _ _ _ _ _ _ hBC]; rfl
  clear hBC BC
  go_wp2_with (fail)
  refine HM.out.mono ?_
  rintro e w4 ⟨⟨a, rfl, ha, hat⟩, x4⟩
  clear e0 e1 e2 e3 e4 e5 e6 e7
  have B4 := hide ((x4.block R (lt_of_block BR.out)).trans BR.out)
  have HPA := hide ha
  have HAT := hide hat
  have HQ2 := hide (HQ.out a ha)
  have HSZ : Hid (R < W.heap.size ∧ W.heap.size ≤ w4.heap.size ∧ w.heap.size ≤ W.heap.size) := ⟨lt_of_block BR.out, x4.size, XW.out.size⟩
  have X4 := hide (bt XW.out x4 (Nat.le_refl _))
  clear ha hat x4 BR HM HQ XW
  have X5 := hide (show Below w4.heap.size w4 (w4.alloc (.cells #[.int .i64 (K : Nat), .string ⟨a.nm.toArray⟩, .slice a.so a.sp.length a.sc, .slice a.no a.ns.length a.nc, .slice a.po a.D.length a.pc] 35)) from al (Below.refl _ _) _)
  have HRT := hide (L5.rightA_any ({ a with k := (K : Int) } : L5.AD) (w4.alloc (.cells #[.int .i64 (K : Nat), .string ⟨a.nm.toArray⟩, .slice a.so a.sp.length a.sc, .slice a.no a.ns.length a.nc, .slice a.po a.D.length a.pc] 35)) ⟨(HAT.out.below X5.out).at_.sp, (HAT.out.below X5.out).at_.ns, (HAT.out.below X5.out).at_.pc, HAT.out.at_.lsp, HAT.out.at_.lns, HAT.out.at_.lD, HAT.out.at_.lpc, HAT.out.at_.lnm, HAT.out.at_.lst⟩)
  have hca : ({ a with k := (K : Int) } : L5.AD).cells = #[.int .i64 (K : Nat), .string ⟨a.nm.toArray⟩, .slice a.so a.sp.length a.sc, .slice a.no a.ns.length a.nc, .slice a.po a.D.length a.pc] := rfl
  rw [hca] at HRT ⊢
  have BT := hide (heap_alloc_new w4 (.cells #[.int .i64 (K : Nat), .string ⟨a.nm.toArray⟩, .slice a.so a.sp.length a.sc, .slice a.no a.ns.length a.nc, .slice a.po a.D.length a.pc] 35))
  have B5 := hide ((X5.out.block R (lt_of_block B4.out)).trans B4.out)
  clear hca
  obtain ⟨T, hT⟩ : ∃ T, T = w4.heap.size := ⟨_, rfl⟩
  have HTT : Hid (w4.heap.size ≤ T) := by unfold Hid; omega
  go_upto_region 2 with fail
  rw [← hT] at BT ⊢
  clear hT
  have X6 := hide (bt X4.out X5.out (by have := HSZ.out; omega))
  have HAT5 := hide (HAT.out.below X5.out)
  clear X4 X5 HAT B4
  generalize w4.alloc (.cells #[.int .i64 (K : Nat), .string ⟨a.nm.toArray⟩, .slice a.so a.sp.length a.sc, .slice a.no a.ns.length a.nc, .slice a.po a.D.length a.pc] 35) = W5 at *
  obtain ⟨t0, t1, t2, t3, t4⟩ := L5.five_of BT.out
  go_wp2_with (fail)
  refine HRT.out.mono ?_
  rintro e w5 ⟨he, x5⟩
  have BT5 := hide ((x5.block T (lt_of_block BT.out)).trans BT.out)
  have B5 := hide ((x5.block R (lt_of_block B5.out)).trans B5.out)
  have HFIN : Hid (∀ (e : Ending) (V : World), e = .returned (.tuple #[.agg (bif q then #[.int .i64 (K : Nat), .string ⟨a.nm.toArray⟩, .slice a.so a.sp.length a.sc, .slice a.no a.ns.length a.nc, .slice a.po a.D.length a.pc] else #[.int .i64 0, .string ⟨#[]⟩, .slice none 0 0, .slice none 0 0, .slice none 0 0]), .int .i64 (bif q then 0 else 1)]) → L5.Kept (fun k => k = R) w5 V → (∃ a : L5.AD, e = .returned (.tuple #[.agg (bif q then ({ a with k := (K : Int) } : L5.AD).cells else #[.int .i64 0, .string ⟨#[]⟩, .slice none 0 0, .slice none 0 0, .slice none 0 0]), .int .i64 (bif q then 0 else 1)]) ∧ Pa a ∧ AtF V w.heap.size a) ∧ Below w.heap.size w V) := fun e V he hk => by
    have hh := HSZ.out
    have hr := HRW.out
    have hx := x5.size
    have hy := X6.out.size
    refine ⟨⟨a, he, HPA.out, ((HAT5.out.below x5).kept hk (fun k hf => by have hf : k = R := hf; omega)).mono (by omega)⟩, ?_⟩
    exact (bt X6.out x5 (Nat.le_refl _)).trans (hk.below (by omega) (fun i hi => by have hi : i = R := hi; omega))
  clear x5 t0 t1 t2 t3 t4 BT HRT X6 HAT5 HPA HSZ
  cases q with
  | true =>
    obtain ⟨_, rfl⟩ | ⟨h, _⟩ := he
    rotate_left
    · exact absurd (HQ2.out.2 rfl) h
    simp only [cond_true] at HFIN
    clear HQ2

    obtain ⟨t0, t1, t2, t3, t4⟩ := L5.five_of BT5.out
    obtain ⟨s0, s1, s2, s3, s4⟩ := L5.five_of B5.out
    have f0 := frozen_of_row w5 R 0 _ _ B5.out
    have f1 := frozen_of_row w5 R 1 _ _ B5.out
    have f2 := frozen_of_row w5 R 2 _ _ B5.out
    have f3 := frozen_of_row w5 R 3 _ _ B5.out
    have f4 := frozen_of_row w5 R 4 _ _ B5.out
    clear BT5 B5
    go_wp2
    refine bodyPost_ret (v := .tuple #[.agg #[.int .i64 (K : Nat), .string ⟨a.nm.toArray⟩, .slice a.so a.sp.length a.sc, .slice a.no a.ns.length a.nc, .slice a.po a.D.length a.pc], .int .i64 0]) ?_ rfl ?_
    · rw [results_cell_tmp rfl]
      go_simp
    · refine HFIN.out _ _ rfl ?_
      
      exact ((((((L5.Kept.refl (fun k => k = R) w5).setCell (p := ⟨R, 0, none⟩) rfl _).setCell (p := ⟨R, 1, none⟩) rfl _).setCell (p := ⟨R, 2, none⟩) rfl _).setCell (p := ⟨R, 3, none⟩) rfl _).setCell (p := ⟨R, 4, none⟩) rfl _)

  | false =>
    obtain ⟨h, _⟩ | ⟨_, rfl⟩ := he
    · exact absurd (HQ2.out.1 h) (by decide)
    simp only [cond_false] at HFIN
    clear HQ2

    obtain ⟨t0, t1, t2, t3, t4⟩ := L5.five_of BT5.out
    obtain ⟨s0, s1, s2, s3, s4⟩ := L5.five_of B5.out
    have f0 := frozen_of_row w5 R 0 _ _ B5.out
    have f1 := frozen_of_row w5 R 1 _ _ B5.out
    have f2 := frozen_of_row w5 R 2 _ _ B5.out
    have f3 := frozen_of_row w5 R 3 _ _ B5.out
    have f4 := frozen_of_row w5 R 4 _ _ B5.out
    clear BT5 B5
    go_wp2
    refine bodyPost_ret (v := .tuple #[.agg #[.int .i64 0, .string ⟨#[]⟩, .slice none 0 0, .slice none 0 0, .slice none 0 0], .int .i64 1]) ?_ rfl ?_
    · rw [results_cell_tmp rfl]
      go_simp
    · refine HFIN.out _ _ ?_ ?_
      · exact rfl
      exact ((((((L5.Kept.refl (fun k => k = R) w5).setCell (p := ⟨R, 0, none⟩) rfl _).setCell (p := ⟨R, 1, none⟩) rfl _).setCell (p := ⟨R, 2, none⟩) rfl _).setCell (p := ⟨R, 3, none⟩) rfl _).setCell (p := ⟨R, 4, none⟩) rfl _)

end Go.Proofs.YthgikaklcglpiaaGreatDoor.L9
/-
  A set has just one form. No condition.
-/
namespace Go.Proofs.YthgikaklcglpiaaGreatDoor.L5

theorem IsSet.tail {s : Spn} {L : List Spn} (h : IsSet (s :: L)) : IsSet L :=
  ⟨fun t ht => h.1 t (List.mem_cons_of_mem _ ht), (List.pairwise_cons.1 h.2).2⟩
/-- What lies behind the first span is at least 2 above it. -/
theorem IsSet.above {s : Spn} {L : List Spn} (h : IsSet (s :: L)) {n : Int} (hn : memB n L = true) : s.2 + 2 ≤ n := by
  obtain ⟨t, ht, h1, h2⟩ := (memB_iff n L).1 hn
  have := (List.pairwise_cons.1 h.2).1 t ht
  omega
theorem memB_false_of_above {s : Spn} {L : List Spn} (h : IsSet (s :: L)) {n : Int} (hn : n < s.2 + 2) : memB n L = false := by
  cases e : memB n L with
  | false => rfl
  | true => have := h.above e; omega

/-- A set has just one form. -/
theorem IsSet.unique : ∀ {L M : List Spn}, IsSet L → IsSet M → (∀ n, memB n L = memB n M) → L = M
  | [], [], _, _, _ => rfl
  | [], t :: M, _, hM, h => by
    have hb := hM.head
    unfold Bnd at hb
    have := h t.1
    simp [memB_cons, memB_nil] at this
    omega
  | s :: L, [], hL, _, h => by
    have hb := hL.head
    unfold Bnd at hb
    have := h s.1
    simp [memB_cons, memB_nil] at this
    omega
  | s :: L, t :: M, hL, hM, h => by
    have hb := hL.head
    have hc := hM.head
    unfold Bnd at hb hc
    have at1 : ∀ n, n < s.2 + 2 → n < t.2 + 2 → ((s.1 ≤ n ∧ n ≤ s.2) ↔ (t.1 ≤ n ∧ n ≤ t.2)) := by
      intro n h1 h2
      have := h n
      rw [memB_cons, memB_cons, memB_false_of_above hL h1, memB_false_of_above hM h2, Bool.eq_iff_iff] at this
      simpa using this
    have e1 : s.1 = t.1 := by
      rcases Int.lt_trichotomy s.1 t.1 with hlt | heq | hgt
      · exfalso
        have := at1 s.1 (by omega) (by omega)
        omega
      · exact heq
      · exfalso
        have := at1 t.1 (by omega) (by omega)
        omega
    have e2 : s.2 = t.2 := by
      rcases Int.lt_trichotomy s.2 t.2 with hlt | heq | hgt
      · exfalso
        have := at1 (s.2 + 1) (by omega) (by omega)
        omega
      · exact heq
      · exfalso
        have := at1 (t.2 + 1) (by omega) (by omega)
        omega
    have e : s = t := Prod.ext e1 e2
    subst e
    have e' : L = M := IsSet.unique hL.tail hM.tail (fun n => by
      by_cases hn : n < s.2 + 2
      · rw [memB_false_of_above hL hn, memB_false_of_above hM hn]
      · have := h n
        rw [memB_cons, memB_cons] at this
        simpa [show ¬ n ≤ s.2 by omega] using this)
    rw [e']
end Go.Proofs.YthgikaklcglpiaaGreatDoor.L5
