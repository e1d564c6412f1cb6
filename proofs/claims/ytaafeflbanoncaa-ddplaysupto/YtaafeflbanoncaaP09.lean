/-
  The program's Node by its contract. No condition.
-/
import Derived.Test.YtaafeflbanoncaaP08
namespace Go.Proofs.Ytaafeflbanoncaa
open Go.RowKit Go.Lib Go.Maps

/-- What Node tells. -/
def NdL (N : List Nd) (f : Int) (w : World) (e : Ending) (w' : World) : Prop :=
  ((∃ (i : Nat) (lv : Int) (ks : List Int) (g c : Nat), N[i]? = some (lv, ks) ∧ f = (i : Int) + 2 ∧ e = .returned (.tuple #[.agg #[.int .i64 lv, .slice (some ⟨g, 0, none⟩) ks.length c], .int .i64 0]) ∧ w'.ownsRow w.heap.size 3 1 (.slice (some ⟨g, 0, none⟩) ks.length c) ks.length (zC ks) ∧ ZBk w' g ks ∧ w.heap.size ≤ g) ∨
   (¬ (2 ≤ f ∧ f < (N.length : Int) + 2) ∧ e = .returned (.tuple #[.agg #[.int .i64 0, .slice none 0 0], .int .i64 1]))) ∧ Below w.heap.size w w'
theorem bl {N : Nat} {a w : World} (h : Below N a w) {b : Nat} (hb : N ≤ b) (j : Nat) (u : Value) : Below N a (w.setCell ⟨b, j, none⟩ u) := h.setCell (by simpa using hb) _
section
variable {w : World} {a : Nat} {S : List Int} {M : Int} {R : List ND} {N : List Nd} {m : Nat} {P : Nat → Prop} {sb sc mb : Nat} {nv : Value}
set_option maxRecDepth 100000 in
set_option maxHeartbeats 4000000 in
theorem nodeC_any (f : Int) (h : CAx w a S M R m P sb sc nv mb) : Calls Try.prog 21 #[.pointer (some ⟨a, 0, none⟩), .int .i64 f] w fun e w' => NdL (R.map ND.nd) f w e w' := by
  have y0 : Below w.heap.size w (w.alloc (.cells #[.int .i64 0, .slice none 0 0] 58)) := al (Below.refl _ _) _
  have h0 := h.below y0
  have HN := isNode_any f h0
  have b0 := heap_alloc_new w (.cells #[.int .i64 0, .slice none 0 0] 58)
  by_cases hc : 2 ≤ f ∧ f < (R.length : Int) + 2
  · obtain ⟨i, hi, rfl, -⟩ := lvl_node (S := S) hc.1 hc.2
    rw [isN_true hc.1 hc.2] at HN
    have HN' := hide HN
    obtain ⟨c0, c1, c2, c3⟩ := h0.cells
    have hfw := h.few
    obtain ⟨ao, cap, hv, hp⟩ := h.shape
    obtain ⟨g, rfl⟩ := hp (by omega)
    subst hv
    obtain ⟨d0, d1⟩ := h0.node rfl hi
    have e1 : IntKind.i64.wrap ((i : Int) + 2 - 2) = (i : Int) := by simp [IntKind.wrap, IntKind.bits, IntKind.signed]; omega
    have hi' : (i : Int) < (R.length : Int) := by omega
    have HND : Hid ((R.map ND.nd)[i]? = some ((R[i]).lv, (R[i]).ks)) := by unfold Hid; rw [List.getElem?_eq_getElem (by simpa using hi), List.getElem_map]; rfl
    have hmi := h.ok.may (i := i) (by rw [List.length_map]; exact hi)
    rw [List.getElem_map] at hmi
    obtain ⟨-, -, hk1, hk2⟩ := hmi.rng h.ok (by rw [List.length_map]; exact hfw)
    have hkz := h0.kid (R[i]) (List.getElem_mem hi)
    simp only [ND.nd] at hk1 hk2
    clear h hp HN h0 hc hmi
    generalize (R[i]).lv = lv at *
    generalize (R[i]).ks = ks at *
    generalize (R[i]).kb = kb at *
    generalize (R[i]).kc = kc at *
    have HB0 := hide b0
    have HY0 := hide y0
    have HKZ := hide hkz
    have HI := hide hi
    have E0 : Hid ((w.alloc (.cells #[.int .i64 0, .slice none 0 0] 58)).heap.size = w.heap.size + 1) := by unfold Hid; simp
    clear b0 y0 hkz hi
    go_enter Try.func21, Try.ntmps21
    go_upto_region 4 with (go_at_call 51; refine HN'.out.mono ?_; rintro e w1 ⟨rfl, hw1⟩; subst hw1)
    have y1 : Below (w.alloc (.cells #[.int .i64 0, .slice none 0 0] 58)).heap.size (w.alloc (.cells #[.int .i64 0, .slice none 0 0] 58)) ((w.alloc (.cells #[.int .i64 0, .slice none 0 0] 58)).alloc (.cells #[.int .i64 lv, .slice (some ⟨kb, 0, none⟩) ks.length kc] 58)) := al (Below.refl _ _) _
    have B1 := hide (heap_alloc_new (w.alloc (.cells #[.int .i64 0, .slice none 0 0] 58)) (.cells #[.int .i64 lv, .slice (some ⟨kb, 0, none⟩) ks.length kc] 58))
    rw [E0.out] at B1
    have B0 := hide ((y1.block w.heap.size (lt_of_block HB0.out)).trans HB0.out)
    have Z1 := hide (HKZ.out.below y1)
    have Y1 := hide (bt HY0.out y1 (Nat.le_refl _))
    clear y1 c0 c1 c2 c3 d0 d1 HB0 HKZ HY0 HN' E0
    generalize (w.alloc (.cells #[.int .i64 0, .slice none 0 0] 58)).alloc (.cells #[.int .i64 lv, .slice (some ⟨kb, 0, none⟩) ks.length kc] 58) = W at *
    have yd : Below W.heap.size W W.drew := (Below.refl _ _).drew
    have B0d := hide ((yd.block _ (lt_of_block B0.out)).trans B0.out)
    have B1d := hide ((yd.block _ (lt_of_block B1.out)).trans B1.out)
    have Zd := hide (Z1.out.below yd)
    have Yd := hide (bt Y1.out yd (Nat.le_refl _))
    have HS0 : Hid (W.drew.cell? ⟨w.heap.size + 1, 0, none⟩ = some (.int .i64 lv) ∧ W.drew.cell? ⟨w.heap.size + 1, 1, none⟩ = some (.slice (some ⟨kb, 0, none⟩) ks.length kc)) := ⟨by rw [cell_of_row _ _ 0 _ _ _ B1d.out]; rfl, by rw [cell_of_row _ _ 1 _ _ _ B1d.out]; rfl⟩
    have HCL := hide (clone_any ⟨kb, 0, none⟩ kc ks W.drew (by omega) (by omega) Zd.out.at)
    refine wp_unt (S := fun V => V.cell? ⟨w.heap.size + 1, 0, none⟩ = some (.int .i64 lv) ∧ V.cell? ⟨w.heap.size + 1, 1, none⟩ = some (.slice (some ⟨kb, 0, none⟩) ks.length kc)) 6 (by kernel_rfl) ?_
    clear yd B0 B1 Z1 Y1
    generalize W.drew = wd at *
    refine UntH.take (i := 0) (some 20) rfl rfl (by kernel_rfl) (by kernel_rfl) (by kernel_rfl) (by kernel_rfl) (fun _ _ _ _ h => h) (by rfl) HS0.out ?_
    apply Exists.intro
    refine ⟨fun w' hw' => ?_, ?_⟩
    · obtain ⟨q0, q1⟩ := hw'
      go_simp
      first | done | rfl
    try simp only [Act.put, List.setIfInBounds_toArray, List.set_cons_zero, List.set_cons_succ]
    refine UntH.take (i := 1) (some 21) rfl rfl (by kernel_rfl) (by kernel_rfl) (by kernel_rfl) (by kernel_rfl) (fun _ _ _ _ h => h) (by rfl) HS0.out ?_
    apply Exists.intro
    refine ⟨fun w' hw' => ?_, ?_⟩
    · obtain ⟨q0, q1⟩ := hw'
      go_simp
      first | done | rfl
    try simp only [Act.put, List.setIfInBounds_toArray, List.set_cons_zero, List.set_cons_succ]
    refine UntH.take (i := 2) (some 22) rfl rfl (by kernel_rfl) (by kernel_rfl) (by kernel_rfl) (by kernel_rfl) (fun _ _ _ _ h => h) (by rfl) HS0.out ?_
    apply Exists.intro
    refine ⟨fun w' hw' => ?_, ?_⟩
    · obtain ⟨q0, q1⟩ := hw'
      go_simp
      first | done | rfl
    try simp only [Act.put, List.setIfInBounds_toArray, List.set_cons_zero, List.set_cons_succ]
    refine UntH.take (i := 3) (some 23) rfl rfl (by kernel_rfl) (by kernel_rfl) (by kernel_rfl) (by kernel_rfl) (fun _ _ _ _ h => h) (by rfl) HS0.out ?_
    apply Exists.intro
    refine ⟨fun w' hw' => ?_, ?_⟩
    · obtain ⟨q0, q1⟩ := hw'
      go_simp
      first | done | rfl
    try simp only [Act.put, List.setIfInBounds_toArray, List.set_cons_zero, List.set_cons_succ]
    refine UntH.step (i := 4) (by kernel_rfl) rfl (fun K hK => ?_)
    go_simp
    refine HCL.out.mono ?_
    rintro e w6 ⟨⟨g6, cg6, rfl, o6, z6, l6⟩, x6⟩
    have O6 := hide (own_mono o6 Yd.out.size)
    have Z6 := hide z6
    have L6 := hide (Nat.le_trans Yd.out.size l6)
    have HL6 := hide l6
    have Y6 := hide (bt Yd.out x6 (Nat.le_refl _))
    have B06 := hide ((x6.block _ (lt_of_block B0d.out)).trans B0d.out)
    have B16 := hide ((x6.block _ (lt_of_block B1d.out)).trans B1d.out)
    have HBL := hide (lt_of_block B0d.out)
    have HS6 : Hid (w6.cell? ⟨w.heap.size + 1, 0, none⟩ = some (.int .i64 lv) ∧ w6.cell? ⟨w.heap.size + 1, 1, none⟩ = some (.slice (some ⟨kb, 0, none⟩) ks.length kc)) := ⟨by rw [cell_of_row _ _ 0 _ _ _ B16.out]; rfl, by rw [cell_of_row _ _ 1 _ _ _ B16.out]; rfl⟩
    refine hK _ _ HS6.out ?_
    clear hK K o6 z6 l6 x6 HCL
    try simp only [Act.put, List.setIfInBounds_toArray, List.set_cons_zero, List.set_cons_succ]
    refine UntH.take (i := 5) (some 25) rfl rfl (by kernel_rfl) (by kernel_rfl) (by kernel_rfl) (by kernel_rfl) (fun _ _ _ _ h => h) (by rfl) HS6.out ?_
    apply Exists.intro
    refine ⟨fun w' hw' => ?_, ?_⟩
    · obtain ⟨q0, q1⟩ := hw'
      go_simp
      first | done | rfl
    try simp only [Act.put, List.setIfInBounds_toArray, List.set_cons_zero, List.set_cons_succ]
    have r0 : w6.cell? ⟨w.heap.size, 0, none⟩ = some (.int .i64 0) := by rw [cell_of_row _ _ 0 _ _ _ B06.out]; rfl
    have r1 : w6.cell? ⟨w.heap.size, 1, none⟩ = some (.slice none 0 0) := by rw [cell_of_row _ _ 1 _ _ _ B06.out]; rfl
    have f0 := frozen_of_row w6 w.heap.size 0 _ _ B06.out
    have f1 := frozen_of_row w6 w.heap.size 1 _ _ B06.out
    refine UntH.stepf (i := 6) (by kernel_rfl) rfl (by kernel_rfl) (fun K hK => ?_)
    go_simp
    refine hK _ _ ?_
    clear hK K r0 r1 f0 f1 HS0 HS6 B1d B16
    have b2 := block_setCell (block_setCell B06.out 0 (.int .i64 lv)) 1 (.slice (some ⟨g6, 0, none⟩) ks.length cg6)
    have k2 : Kept (fun k => k = w.heap.size) w6 ((w6.setCell ⟨w.heap.size, 0, none⟩ (.int .i64 lv)).setCell ⟨w.heap.size, 1, none⟩ (.slice (some ⟨g6, 0, none⟩) ks.length cg6)) := Kept.setCell (F := fun k => k = w.heap.size) (p := ⟨w.heap.size, 1, none⟩) (Kept.setCell (F := fun k => k = w.heap.size) (p := ⟨w.heap.size, 0, none⟩) (Kept.refl _ _) rfl _) rfl _
    have HB2 := hide b2
    have HK2 := hide k2
    have hng : ¬ g6 = w.heap.size := by have h1 := HL6.out; have h2 := HBL.out; omega
    have Y7 := hide (bl (bl Y6.out (Nat.le_refl _) 0 (.int .i64 lv)) (Nat.le_refl _) 1 (.slice (some ⟨g6, 0, none⟩) ks.length cg6))
    clear b2 k2
    generalize (w6.setCell ⟨w.heap.size, 0, none⟩ (.int .i64 lv)).setCell ⟨w.heap.size, 1, none⟩ (.slice (some ⟨g6, 0, none⟩) ks.length cg6) = w7 at *
    have O7 := hide (own_kept O6.out HK2.out (fun k hk e => hng (by have : g6 = k := Option.some.inj hk; omega)))
    have Z7 := hide (Z6.out.kept HK2.out hng)
    refine UntH.stepf (i := 7) (by kernel_rfl) rfl (by kernel_rfl) (fun K hK => ?_)
    go_simp
    refine hK _ _ ?_
    clear hK K
    refine UntH.end (by kernel_rfl) ?_
    go_wp2
    have r3 : w7.cell? ⟨w.heap.size, 0, none⟩ = some (.int .i64 lv) := by rw [cell_of_row w7 w.heap.size 0 _ _ _ HB2.out]; rfl
    have r4 : w7.cell? ⟨w.heap.size, 1, none⟩ = some (.slice (some ⟨g6, 0, none⟩) ks.length cg6) := by rw [cell_of_row w7 w.heap.size 1 _ _ _ HB2.out]; rfl
    refine bodyPost_ret (by simp [results, Try.results21, go_sem, r3, r4]; try rfl) rfl ?_
    exact ⟨.inl ⟨i, lv, ks, g6, cg6, HND.out, rfl, rfl, O7.out, Z7.out, L6.out⟩, Y7.out⟩
  · have e0 : isN R.length f = false := by
      by_cases h1 : 2 ≤ f
      · exact isN_hi (fun h2 => hc ⟨h1, h2⟩)
      · exact isN_lo h1
    rw [e0] at HN
    have HN' := hide HN
    have HC : Hid (¬ (2 ≤ f ∧ f < ((R.map ND.nd).length : Int) + 2)) := by unfold Hid; rw [List.length_map]; exact hc
    clear HN e0 hc h h0
    have HY0 := hide y0
    have r0 : (w.alloc (.cells #[.int .i64 0, .slice none 0 0] 58)).cell? ⟨w.heap.size, 0, none⟩ = some (.int .i64 0) := by rw [cell_of_row _ _ 0 _ _ _ b0]; rfl
    have r1 : (w.alloc (.cells #[.int .i64 0, .slice none 0 0] 58)).cell? ⟨w.heap.size, 1, none⟩ = some (.slice none 0 0) := by rw [cell_of_row _ _ 1 _ _ _ b0]; rfl
    clear y0
    go_enter Try.func21, Try.ntmps21
    go_wp2_with (go_at_call 51; refine HN'.out.mono ?_; rintro e w1 ⟨rfl, hw1⟩; subst hw1)
    refine bodyPost_ret (by simp [results, Try.results21, go_sem, r0, r1]; try rfl) rfl ?_
    exact ⟨.inr ⟨HC.out, rfl⟩, HY0.out⟩
end
end Go.Proofs.Ytaafeflbanoncaa
