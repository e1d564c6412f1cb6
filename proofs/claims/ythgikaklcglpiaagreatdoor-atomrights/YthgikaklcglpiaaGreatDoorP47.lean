/-
  AtomRights, by its contract. Condition: texts and lists no longer than a process can hold.
-/
import Derived.Test.YthgikaklcglpiaaGreatDoorP46
import Derived.Test.YthgikaklcglpiaaGreatDoorP36
import Derived.Test.YthgikaklcglpiaaGreatDoorP37
import Derived.Test.YthgikaklcglpiaaGreatDoorP32
namespace Go.Proofs.YthgikaklcglpiaaGreatDoor.L5
open Go.RowKit Go.Lib
/-- A test in memory, whatever its weight. -/
structure AtV (w : World) (a : AD) : Prop where
  sp : SpAt w a.so a.sp
  ns : StAt w a.no a.ns
  pc : PcAt w a.po a.D
  lsp : a.sp.length ≤ 140737488351232
  lns : a.ns.length ≤ 140737488351232
  lD : a.D.length ≤ 140737488351232
  lnm : a.nm.length ≤ 140737488351232
  lst : ∀ s ∈ a.ns, s.length ≤ 140737488351232
abbrev AtV.ok (n : Int) : Prop := n ≤ 2147483647
theorem AtV.full {w : World} {a : AD} (h : AtV w a) (k : AtV.ok (awP a)) : AtW w a := ⟨h.sp, h.ns, h.pc, h.lsp, h.lns, h.lD, fun d hd => Nat.le_trans ((awP_le a k).1 d hd) (by decide), h.lnm, h.lst⟩
end Go.Proofs.YthgikaklcglpiaaGreatDoor.L5
namespace Go.Proofs.YthgikaklcglpiaaGreatDoor.L9
open Go.RowKit Go.Lib

theorem sameA_comm (a b : L5.AD) : L5.sameA b a = L5.sameA a b := by
  unfold L5.sameA L5.pcsEq
  rw [Bool.eq_iff_iff]
  simp only [Bool.and_eq_true, beq_iff_eq, decide_eq_true_eq]
  constructor <;> (rintro ⟨h1, h2, h3, h4, h5⟩; exact ⟨h1.symm, h2.symm, h3.symm, h4.symm, h5.symm⟩)
theorem sameA_self (a : L5.AD) : L5.sameA a a = true := by
  unfold L5.sameA L5.pcsEq
  simp
theorem yn_bool {p : Prop} {e : Ending} {q : Bool} (h : L5.YesNo p e) (hq : q = true ↔ p) : e = .returned (.bool q) := by
  rcases h with ⟨h1, rfl⟩ | ⟨h1, rfl⟩
  · rw [hq.2 h1]
  · cases q with
    | false => rfl
    | true => exact absurd (hq.1 rfl) h1
set_option maxRecDepth 100000 in
set_option maxHeartbeats 8000000 in
theorem atomRights_any (a b : L5.AD) (w : World) (ha : L5.AtV w a) (hb : L5.AtV w b) : Calls Tryz.prog 4 #[.agg a.cells, .agg b.cells] w fun e w' => e = .returned (.bool true) ∧ Below w.heap.size w w' := by
  obtain ⟨W, hW⟩ : ∃ W, W = (w.alloc (.cells #[.int .i64 a.k, .string ⟨a.nm.toArray⟩, .slice a.so a.sp.length a.sc, .slice a.no a.ns.length a.nc, .slice a.po a.D.length a.pc] 35)).alloc (.cells #[.int .i64 b.k, .string ⟨b.nm.toArray⟩, .slice b.so b.sp.length b.sc, .slice b.no b.ns.length b.nc, .slice b.po b.D.length b.pc] 35) := ⟨_, rfl⟩
  have XX := hide (show Below w.heap.size w W by rw [hW]; exact al (al (Below.refl _ _) _) _)
  have BA := hide (show W.heap[w.heap.size]? = some (.cells #[.int .i64 a.k, .string ⟨a.nm.toArray⟩, .slice a.so a.sp.length a.sc, .slice a.no a.ns.length a.nc, .slice a.po a.D.length a.pc] 35 (0, 0)) by rw [hW]; exact (heap_alloc_old _ _ (by simp)).trans (heap_alloc_new w _))
  have BB := hide (show W.heap[w.heap.size + 1]? = some (.cells #[.int .i64 b.k, .string ⟨b.nm.toArray⟩, .slice b.so b.sp.length b.sc, .slice b.no b.ns.length b.nc, .slice b.po b.D.length b.pc] 35 (0, 0)) by rw [hW, show w.heap.size + 1 = (w.alloc (.cells #[.int .i64 a.k, .string ⟨a.nm.toArray⟩, .slice a.so a.sp.length a.sc, .slice a.no a.ns.length a.nc, .slice a.po a.D.length a.pc] 35)).heap.size by simp]; exact heap_alloc_new _ _)
  have HWA : Hid (∀ V, Below w.heap.size w V → Calls Tryz.prog 19 #[.agg #[.int .i64 a.k, .string ⟨a.nm.toArray⟩, .slice a.so a.sp.length a.sc, .slice a.no a.ns.length a.nc, .slice a.po a.D.length a.pc]] V fun e w' => e = .returned (.int .i64 (L5.awP a)) ∧ Below V.heap.size V w') := fun V x => L5.weighs_any a V (ha.pc.below x) (ha.ns.below x) ha.lns ha.lD
  have HWB : Hid (∀ V, Below w.heap.size w V → Calls Tryz.prog 19 #[.agg #[.int .i64 b.k, .string ⟨b.nm.toArray⟩, .slice b.so b.sp.length b.sc, .slice b.no b.ns.length b.nc, .slice b.po b.D.length b.pc]] V fun e w' => e = .returned (.int .i64 (L5.awP b)) ∧ Below V.heap.size V w') := fun V x => L5.weighs_any b V (hb.pc.below x) (hb.ns.below x) hb.lns hb.lD
  have HAD := hide (fun V => L5.addsUp_any (L5.awP a) (L5.awP b) V (L5.awP_ge a).1 (L5.awP_ge b).1)
  have HAW := hide (fun h => ha.full h)
  have HBW := hide (fun h => hb.full h)
  have HGE := hide (And.intro (L5.awP_ge a).1 (L5.awP_ge b).1)
  rw [show a.cells = #[.int .i64 a.k, .string ⟨a.nm.toArray⟩, .slice a.so a.sp.length a.sc, .slice a.no a.ns.length a.nc, .slice a.po a.D.length a.pc] from rfl, show b.cells = #[.int .i64 b.k, .string ⟨b.nm.toArray⟩, .slice b.so b.sp.length b.sc, .slice b.no b.ns.length b.nc, .slice b.po b.D.length b.pc] from rfl]
  clear ha hb
  generalize L5.awP a = na at *
  generalize L5.awP b = nb at *
  obtain ⟨A, hA⟩ : ∃ A, A = w.heap.size := ⟨_, rfl⟩
  obtain ⟨B, hB⟩ : ∃ B, B = w.heap.size + 1 := ⟨_, rfl⟩
  go_enter Tryz.func4, Tryz.ntmps4
  go_upto_region 1 with fail
  rw [← hB, ← hW, ← hA]
  rw [← hA] at BA
  rw [← hB] at BB
  clear hW hA hB
  refine wp_unt (S := fun V => V.cell? ⟨A, 0, none⟩ = some (.int .i64 a.k) ∧ V.cell? ⟨A, 1, none⟩ = some (.string ⟨a.nm.toArray⟩) ∧ V.cell? ⟨A, 2, none⟩ = some (.slice a.so a.sp.length a.sc) ∧ V.cell? ⟨A, 3, none⟩ = some (.slice a.no a.ns.length a.nc) ∧ V.cell? ⟨A, 4, none⟩ = some (.slice a.po a.D.length a.pc) ∧ V.cell? ⟨B, 0, none⟩ = some (.int .i64 b.k) ∧ V.cell? ⟨B, 1, none⟩ = some (.string ⟨b.nm.toArray⟩) ∧ V.cell? ⟨B, 2, none⟩ = some (.slice b.so b.sp.length b.sc) ∧ V.cell? ⟨B, 3, none⟩ = some (.slice b.no b.ns.length b.nc) ∧ V.cell? ⟨B, 4, none⟩ = some (.slice b.po b.D.length b.pc)) 5 (by kernel_rfl) ?_
  have XD : Below W.heap.size W W.drew := (Below.refl _ _).drew
  have BA2 := hide ((XD.block A (lt_of_block BA.out)).trans BA.out)
  clear BA
  have BA := hide BA2.out
  clear BA2
  have BB2 := hide ((XD.block B (lt_of_block BB.out)).trans BB.out)
  clear BB
  have BB := hide BB2.out
  clear BB2
  have XX2 := hide (bt XX.out XD (Nat.le_refl _))
  clear XX
  have XX := hide XX2.out
  clear XX2
  clear XD
  generalize W.drew = V0 at *
  have S0 : Hid (V0.cell? ⟨A, 0, none⟩ = some (.int .i64 a.k) ∧ V0.cell? ⟨A, 1, none⟩ = some (.string ⟨a.nm.toArray⟩) ∧ V0.cell? ⟨A, 2, none⟩ = some (.slice a.so a.sp.length a.sc) ∧ V0.cell? ⟨A, 3, none⟩ = some (.slice a.no a.ns.length a.nc) ∧ V0.cell? ⟨A, 4, none⟩ = some (.slice a.po a.D.length a.pc) ∧ V0.cell? ⟨B, 0, none⟩ = some (.int .i64 b.k) ∧ V0.cell? ⟨B, 1, none⟩ = some (.string ⟨b.nm.toArray⟩) ∧ V0.cell? ⟨B, 2, none⟩ = some (.slice b.so b.sp.length b.sc) ∧ V0.cell? ⟨B, 3, none⟩ = some (.slice b.no b.ns.length b.nc) ∧ V0.cell? ⟨B, 4, none⟩ = some (.slice b.po b.D.length b.pc)) := by
    obtain ⟨a0, a1, a2, a3, a4⟩ := L5.five_of BA.out
    obtain ⟨b0, b1, b2, b3, b4⟩ := L5.five_of BB.out
    exact ⟨a0, a1, a2, a3, a4, b0, b1, b2, b3, b4⟩
  refine UntH.take (i := 0) (some 11) rfl rfl (by kernel_rfl) (by kernel_rfl) (by kernel_rfl) (by kernel_rfl) (fun _ _ _ _ h => h) (by rfl) S0.out ?_
  apply Exists.intro
  refine ⟨fun w' hw' => ?_, ?_⟩
  · obtain ⟨q0, q1, q2, q3, q4, q5, q6, q7, q8, q9⟩ := hw'
    go_simp
    first | done | rfl
  refine UntH.take (i := 2) (some 13) rfl rfl (by kernel_rfl) (by kernel_rfl) (by kernel_rfl) (by kernel_rfl) (fun _ _ _ _ h => h) (by rfl) S0.out ?_
  apply Exists.intro
  refine ⟨fun w' hw' => ?_, ?_⟩
  · obtain ⟨q0, q1, q2, q3, q4, q5, q6, q7, q8, q9⟩ := hw'
    go_simp
    first | done | rfl
  refine UntH.step (i := 1) (by kernel_rfl) rfl (fun K hK => ?_)
  go_simp
  refine (HWA.out _ XX.out).mono ?_
  rintro e w1 ⟨rfl, x1⟩
  have BA2 := hide ((x1.block A (lt_of_block BA.out)).trans BA.out)
  clear BA
  have BA := hide BA2.out
  clear BA2
  have BB2 := hide ((x1.block B (lt_of_block BB.out)).trans BB.out)
  clear BB
  have BB := hide BB2.out
  clear BB2
  have XX2 := hide (bt XX.out x1 (Nat.le_refl _))
  clear XX
  have XX := hide XX2.out
  clear XX2
  have S1 : Hid (w1.cell? ⟨A, 0, none⟩ = some (.int .i64 a.k) ∧ w1.cell? ⟨A, 1, none⟩ = some (.string ⟨a.nm.toArray⟩) ∧ w1.cell? ⟨A, 2, none⟩ = some (.slice a.so a.sp.length a.sc) ∧ w1.cell? ⟨A, 3, none⟩ = some (.slice a.no a.ns.length a.nc) ∧ w1.cell? ⟨A, 4, none⟩ = some (.slice a.po a.D.length a.pc) ∧ w1.cell? ⟨B, 0, none⟩ = some (.int .i64 b.k) ∧ w1.cell? ⟨B, 1, none⟩ = some (.string ⟨b.nm.toArray⟩) ∧ w1.cell? ⟨B, 2, none⟩ = some (.slice b.so b.sp.length b.sc) ∧ w1.cell? ⟨B, 3, none⟩ = some (.slice b.no b.ns.length b.nc) ∧ w1.cell? ⟨B, 4, none⟩ = some (.slice b.po b.D.length b.pc)) := by
    obtain ⟨a0, a1, a2, a3, a4⟩ := L5.five_of BA.out
    obtain ⟨b0, b1, b2, b3, b4⟩ := L5.five_of BB.out
    exact ⟨a0, a1, a2, a3, a4, b0, b1, b2, b3, b4⟩
  refine hK _ _ S1.out ?_
  clear hK K x1 S0 HWA
  refine UntH.step (i := 3) (by kernel_rfl) rfl (fun K hK => ?_)
  go_simp
  refine (HWB.out _ XX.out).mono ?_
  rintro e w2 ⟨rfl, x2⟩
  have BA2 := hide ((x2.block A (lt_of_block BA.out)).trans BA.out)
  clear BA
  have BA := hide BA2.out
  clear BA2
  have BB2 := hide ((x2.block B (lt_of_block BB.out)).trans BB.out)
  clear BB
  have BB := hide BB2.out
  clear BB2
  have XX2 := hide (bt XX.out x2 (Nat.le_refl _))
  clear XX
  have XX := hide XX2.out
  clear XX2
  have S2 : Hid (w2.cell? ⟨A, 0, none⟩ = some (.int .i64 a.k) ∧ w2.cell? ⟨A, 1, none⟩ = some (.string ⟨a.nm.toArray⟩) ∧ w2.cell? ⟨A, 2, none⟩ = some (.slice a.so a.sp.length a.sc) ∧ w2.cell? ⟨A, 3, none⟩ = some (.slice a.no a.ns.length a.nc) ∧ w2.cell? ⟨A, 4, none⟩ = some (.slice a.po a.D.length a.pc) ∧ w2.cell? ⟨B, 0, none⟩ = some (.int .i64 b.k) ∧ w2.cell? ⟨B, 1, none⟩ = some (.string ⟨b.nm.toArray⟩) ∧ w2.cell? ⟨B, 2, none⟩ = some (.slice b.so b.sp.length b.sc) ∧ w2.cell? ⟨B, 3, none⟩ = some (.slice b.no b.ns.length b.nc) ∧ w2.cell? ⟨B, 4, none⟩ = some (.slice b.po b.D.length b.pc)) := by
    obtain ⟨a0, a1, a2, a3, a4⟩ := L5.five_of BA.out
    obtain ⟨b0, b1, b2, b3, b4⟩ := L5.five_of BB.out
    exact ⟨a0, a1, a2, a3, a4, b0, b1, b2, b3, b4⟩
  refine hK _ _ S2.out ?_
  clear hK K x2 S1 HWB
  refine UntH.step (i := 4) (by kernel_rfl) rfl (fun K hK => ?_)
  go_simp
  refine (HAD.out w2).mono ?_
  rintro e w3 ⟨rfl, hw⟩
  have hw2 := hw.symm
  clear hw
  subst hw2
  refine hK _ _ S2.out ?_
  clear hK K S2 HAD
  refine UntH.last (by kernel_rfl) rfl (by kernel_rfl) (by kernel_rfl) (fun K hK => ?_)
  go_simp
  refine hK _ _ ?_
  clear hK K
  have HLE : Hid (¬ 2147483647 < L5.aU na nb → L5.AtV.ok na ∧ L5.AtV.ok nb) := fun h => L5.aU_le HGE.out.1 HGE.out.2 (by omega)
  clear HGE
  generalize L5.aU na nb = nn at *
  by_cases hbig : 2147483647 < nn
  · clear HLE HAW HBW
    go_wp2
    go_ret
    exact ⟨rfl, XX.out⟩
  have HA0 := hide (HAW.out (HLE.out hbig).1)
  have HB0 := hide (HBW.out (HLE.out hbig).2)
  clear HLE HAW HBW
  go_upto_region 3 with fail
  clear hbig
  go_wp2_with (fail)
  refine (awake_any _).mono ?_
  rintro e w4 ⟨rfl, x4⟩
  have BA2 := hide ((x4.block A (lt_of_block BA.out)).trans BA.out)
  clear BA
  have BA := hide BA2.out
  clear BA2
  have BB2 := hide ((x4.block B (lt_of_block BB.out)).trans BB.out)
  clear BB
  have BB := hide BB2.out
  clear BB2
  have XX2 := hide (bt XX.out x4 (Nat.le_refl _))
  clear XX
  have XX := hide XX2.out
  clear XX2
  clear x4
  obtain ⟨a0, a1, a2, a3, a4⟩ := L5.five_of BA.out
  have HR : Hid (Calls Tryz.prog 20 #[.agg #[.int .i64 a.k, .string ⟨a.nm.toArray⟩, .slice a.so a.sp.length a.sc, .slice a.no a.ns.length a.nc, .slice a.po a.D.length a.pc]] w4 fun e w' => L5.YesNo (L5.RgA a) e ∧ Below w4.heap.size w4 w') := L5.rightA_any a w4 (HA0.out.below XX.out)
  go_wp2_with (fail)
  refine (HR.out).mono ?_
  rintro e w5 ⟨he, x5⟩
  obtain ⟨qa, rfl, hqa⟩ := L5.YesNo.bool he
  have HQA := hide hqa
  clear he hqa HR
  clear a0 a1 a2 a3 a4
  have BA2 := hide ((x5.block A (lt_of_block BA.out)).trans BA.out)
  clear BA
  have BA := hide BA2.out
  clear BA2
  have BB2 := hide ((x5.block B (lt_of_block BB.out)).trans BB.out)
  clear BB
  have BB := hide BB2.out
  clear BB2
  have XX2 := hide (bt XX.out x5 (Nat.le_refl _))
  clear XX
  have XX := hide XX2.out
  clear XX2
  clear x5
  obtain ⟨b0, b1, b2, b3, b4⟩ := L5.five_of BB.out
  have HR : Hid (Calls Tryz.prog 20 #[.agg #[.int .i64 b.k, .string ⟨b.nm.toArray⟩, .slice b.so b.sp.length b.sc, .slice b.no b.ns.length b.nc, .slice b.po b.D.length b.pc]] w5 fun e w' => L5.YesNo (L5.RgA b) e ∧ Below w5.heap.size w5 w') := L5.rightA_any b w5 (HB0.out.below XX.out)
  go_wp2_with (fail)
  refine (HR.out).mono ?_
  rintro e w6 ⟨he, x6⟩
  obtain ⟨qb, rfl, hqb⟩ := L5.YesNo.bool he
  have HQB := hide hqb
  clear he hqb HR
  clear b0 b1 b2 b3 b4
  have BA2 := hide ((x6.block A (lt_of_block BA.out)).trans BA.out)
  clear BA
  have BA := hide BA2.out
  clear BA2
  have BB2 := hide ((x6.block B (lt_of_block BB.out)).trans BB.out)
  clear BB
  have BB := hide BB2.out
  clear BB2
  have XX2 := hide (bt XX.out x6 (Nat.le_refl _))
  clear XX
  have XX := hide XX2.out
  clear XX2
  clear x6
  obtain ⟨a0, a1, a2, a3, a4⟩ := L5.five_of BA.out
  obtain ⟨b0, b1, b2, b3, b4⟩ := L5.five_of BB.out
  obtain ⟨s, hs⟩ : ∃ s, s = L5.sameA a b := ⟨_, rfl⟩
  have HSE := hide hs
  clear hs
  have HR : Hid (Calls Tryz.prog 21 #[.agg #[.int .i64 a.k, .string ⟨a.nm.toArray⟩, .slice a.so a.sp.length a.sc, .slice a.no a.ns.length a.nc, .slice a.po a.D.length a.pc], .agg #[.int .i64 b.k, .string ⟨b.nm.toArray⟩, .slice b.so b.sp.length b.sc, .slice b.no b.ns.length b.nc, .slice b.po b.D.length b.pc]] w6 fun e w' => e = .returned (.bool s) ∧ Below w6.heap.size w6 w') := by unfold Hid; rw [HSE.out]; exact L5.same_any a b w6 (HA0.out.below XX.out) (HB0.out.below XX.out)
  go_wp2_with (fail)
  refine (HR.out).mono ?_
  rintro e w7 ⟨rfl, x7⟩
  clear HR
  clear a0 a1 a2 a3 a4
  clear b0 b1 b2 b3 b4
  have BA2 := hide ((x7.block A (lt_of_block BA.out)).trans BA.out)
  clear BA
  have BA := hide BA2.out
  clear BA2
  have BB2 := hide ((x7.block B (lt_of_block BB.out)).trans BB.out)
  clear BB
  have BB := hide BB2.out
  clear BB2
  have XX2 := hide (bt XX.out x7 (Nat.le_refl _))
  clear XX
  have XX := hide XX2.out
  clear XX2
  clear x7
  obtain ⟨a0, a1, a2, a3, a4⟩ := L5.five_of BA.out
  obtain ⟨b0, b1, b2, b3, b4⟩ := L5.five_of BB.out
  have HR : Hid (Calls Tryz.prog 21 #[.agg #[.int .i64 b.k, .string ⟨b.nm.toArray⟩, .slice b.so b.sp.length b.sc, .slice b.no b.ns.length b.nc, .slice b.po b.D.length b.pc], .agg #[.int .i64 a.k, .string ⟨a.nm.toArray⟩, .slice a.so a.sp.length a.sc, .slice a.no a.ns.length a.nc, .slice a.po a.D.length a.pc]] w7 fun e w' => e = .returned (.bool s) ∧ Below w7.heap.size w7 w') := by unfold Hid; rw [HSE.out, ← sameA_comm]; exact L5.same_any b a w7 (HB0.out.below XX.out) (HA0.out.below XX.out)
  go_wp2_with (fail)
  refine (HR.out).mono ?_
  rintro e w8 ⟨rfl, x8⟩
  clear HR
  clear a0 a1 a2 a3 a4
  clear b0 b1 b2 b3 b4
  have BA2 := hide ((x8.block A (lt_of_block BA.out)).trans BA.out)
  clear BA
  have BA := hide BA2.out
  clear BA2
  have BB2 := hide ((x8.block B (lt_of_block BB.out)).trans BB.out)
  clear BB
  have BB := hide BB2.out
  clear BB2
  have XX2 := hide (bt XX.out x8 (Nat.le_refl _))
  clear XX
  have XX := hide XX2.out
  clear XX2
  clear x8
  obtain ⟨a0, a1, a2, a3, a4⟩ := L5.five_of BA.out
  have HR : Hid (Calls Tryz.prog 21 #[.agg #[.int .i64 a.k, .string ⟨a.nm.toArray⟩, .slice a.so a.sp.length a.sc, .slice a.no a.ns.length a.nc, .slice a.po a.D.length a.pc], .agg #[.int .i64 a.k, .string ⟨a.nm.toArray⟩, .slice a.so a.sp.length a.sc, .slice a.no a.ns.length a.nc, .slice a.po a.D.length a.pc]] w8 fun e w' => e = .returned (.bool true) ∧ Below w8.heap.size w8 w') := by unfold Hid; rw [← sameA_self a]; exact L5.same_any a a w8 (HA0.out.below XX.out) (HA0.out.below XX.out)
  go_wp2_with (fail)
  refine (HR.out).mono ?_
  rintro e w9 ⟨rfl, x9⟩
  clear HR
  clear a0 a1 a2 a3 a4
  have BA2 := hide ((x9.block A (lt_of_block BA.out)).trans BA.out)
  clear BA
  have BA := hide BA2.out
  clear BA2
  have BB2 := hide ((x9.block B (lt_of_block BB.out)).trans BB.out)
  clear BB
  have BB := hide BB2.out
  clear BB2
  have XX2 := hide (bt XX.out x9 (Nat.le_refl _))
  clear XX
  have XX := hide XX2.out
  clear XX2
  clear x9
  go_upto_region 9 with fail
  obtain ⟨a0, a1, a2, a3, a4⟩ := L5.five_of BA.out
  have HR : Hid (Calls Tryz.prog 22 #[.agg #[.int .i64 a.k, .string ⟨a.nm.toArray⟩, .slice a.so a.sp.length a.sc, .slice a.no a.ns.length a.nc, .slice a.po a.D.length a.pc]] w9 fun e w' => e = .returned (.bool qa) ∧ Below w9.heap.size w9 w') := (L5.rightD_any a w9 (HA0.out.below XX.out)).mono (fun e w' hh => ⟨yn_bool hh.1 HQA.out, hh.2⟩)
  go_wp2_with (fail)
  refine (HR.out).mono ?_
  rintro e w10 ⟨rfl, x10⟩
  clear HR HQA
  clear a0 a1 a2 a3 a4
  have BA2 := hide ((x10.block A (lt_of_block BA.out)).trans BA.out)
  clear BA
  have BA := hide BA2.out
  clear BA2
  have BB2 := hide ((x10.block B (lt_of_block BB.out)).trans BB.out)
  clear BB
  have BB := hide BB2.out
  clear BB2
  have XX2 := hide (bt XX.out x10 (Nat.le_refl _))
  clear XX
  have XX := hide XX2.out
  clear XX2
  clear x10
  obtain ⟨b0, b1, b2, b3, b4⟩ := L5.five_of BB.out
  have HR : Hid (Calls Tryz.prog 22 #[.agg #[.int .i64 b.k, .string ⟨b.nm.toArray⟩, .slice b.so b.sp.length b.sc, .slice b.no b.ns.length b.nc, .slice b.po b.D.length b.pc]] w10 fun e w' => e = .returned (.bool qb) ∧ Below w10.heap.size w10 w') := (L5.rightD_any b w10 (HB0.out.below XX.out)).mono (fun e w' hh => ⟨yn_bool hh.1 HQB.out, hh.2⟩)
  go_wp2_with (fail)
  refine (HR.out).mono ?_
  rintro e w11 ⟨rfl, x11⟩
  clear HR HQB
  clear b0 b1 b2 b3 b4
  have BA2 := hide ((x11.block A (lt_of_block BA.out)).trans BA.out)
  clear BA
  have BA := hide BA2.out
  clear BA2
  have BB2 := hide ((x11.block B (lt_of_block BB.out)).trans BB.out)
  clear BB
  have BB := hide BB2.out
  clear BB2
  have XX2 := hide (bt XX.out x11 (Nat.le_refl _))
  clear XX
  have XX := hide XX2.out
  clear XX2
  clear x11
  obtain ⟨a0, a1, a2, a3, a4⟩ := L5.five_of BA.out
  obtain ⟨b0, b1, b2, b3, b4⟩ := L5.five_of BB.out
  have HR : Hid (Calls Tryz.prog 16 #[.agg #[.int .i64 a.k, .string ⟨a.nm.toArray⟩, .slice a.so a.sp.length a.sc, .slice a.no a.ns.length a.nc, .slice a.po a.D.length a.pc], .agg #[.int .i64 b.k, .string ⟨b.nm.toArray⟩, .slice b.so b.sp.length b.sc, .slice b.no b.ns.length b.nc, .slice b.po b.D.length b.pc]] w11 fun e w' => e = .returned (.bool s) ∧ Below w11.heap.size w11 w') := by unfold Hid; rw [HSE.out]; exact L5.sameD_any a b w11 (HA0.out.below XX.out) (HB0.out.below XX.out)
  go_wp2_with (fail)
  refine (HR.out).mono ?_
  rintro e w12 ⟨rfl, x12⟩
  clear HR
  clear a0 a1 a2 a3 a4
  clear b0 b1 b2 b3 b4
  have BA2 := hide ((x12.block A (lt_of_block BA.out)).trans BA.out)
  clear BA
  have BA := hide BA2.out
  clear BA2
  have BB2 := hide ((x12.block B (lt_of_block BB.out)).trans BB.out)
  clear BB
  have BB := hide BB2.out
  clear BB2
  have XX2 := hide (bt XX.out x12 (Nat.le_refl _))
  clear XX
  have XX := hide XX2.out
  clear XX2
  clear x12
  go_wp2
  go_ret
  exact ⟨rfl, XX.out⟩
end Go.Proofs.YthgikaklcglpiaaGreatDoor.L9
