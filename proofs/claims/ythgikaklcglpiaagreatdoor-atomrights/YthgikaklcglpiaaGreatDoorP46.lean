/-
  awake, by its contract. No condition.
-/
import Derived.Test.YthgikaklcglpiaaGreatDoorP45
namespace Go.Proofs.YthgikaklcglpiaaGreatDoor.L9
open Go.RowKit Go.Lib

def mkP (so : Option Addr) (sc : Nat) (no : Option Addr) (nc : Nat) (po : Option Addr) (pc : Nat) : L5.AD := ⟨8, [], [(80, 90)], so, sc, [], no, nc, [], po, pc⟩
def mkM (so : Option Addr) (sc : Nat) (no : Option Addr) (nc : Nat) (po : Option Addr) (pc : Nat) : L5.AD := ⟨9, [], [], so, sc, [[71, 69, 84], [80, 85, 84]], no, nc, [], po, pc⟩
theorem PtA.mk {a : L5.AD} (h : PtA a) : ∃ so sc no nc po pc, a = mkP so sc no nc po pc := by
  obtain ⟨k, nm, sp, so, sc, ns, no, nc, D, po, pc⟩ := a
  obtain ⟨h1, h2, h3, h4, h5⟩ := h
  simp only at h1 h2 h3 h4 h5
  subst h1 h2 h3 h4 h5
  exact ⟨so, sc, no, nc, po, pc, rfl⟩
theorem MtA.mk {a : L5.AD} (h : MtA a) : ∃ so sc no nc po pc, a = mkM so sc no nc po pc := by
  obtain ⟨k, nm, sp, so, sc, ns, no, nc, D, po, pc⟩ := a
  obtain ⟨h1, h2, h3, h4, h5⟩ := h
  simp only at h1 h2 h3 h4 h5
  subst h1 h2 h3 h4 h5
  exact ⟨so, sc, no, nc, po, pc, rfl⟩
theorem mkP_pt (so : Option Addr) (sc : Nat) (no : Option Addr) (nc : Nat) (po : Option Addr) (pc : Nat) : PtA (mkP so sc no nc po pc) := ⟨rfl, rfl, rfl, rfl, rfl⟩
theorem mkM_mt (so : Option Addr) (sc : Nat) (no : Option Addr) (nc : Nat) (po : Option Addr) (pc : Nat) : MtA (mkM so sc no nc po pc) := ⟨rfl, rfl, rfl, rfl, rfl⟩
theorem of_known2 {w : World} {g : Nat} (h : knB w g) : Calls Tryz.prog 13 #[.agg #[.int .i64 8, .string ⟨#[]⟩, .string ⟨#[]⟩, .slice none 0 0, .slice (some ⟨g, 0, none⟩) 2 2, .slice none 0 0, .slice none 0 0, .int .i64 0]] w fun e w' => ∃ so sc no nc po pc, e = .returned (.tuple #[.agg #[.int .i64 8, .string ⟨#[]⟩, .slice so 1 sc, .slice no 0 nc, .slice po 0 pc], .int .i64 0]) ∧ L5.AtW w' (mkP so sc no nc po pc) ∧ Below w.heap.size w w' := by
  refine (of_known h).mono ?_
  rintro e w' ⟨⟨a, rfl, ha, hat⟩, x⟩
  obtain ⟨so, sc, no, nc, po, pc, rfl⟩ := ha.mk
  exact ⟨so, sc, no, nc, po, pc, rfl, hat.at_, x⟩
theorem of_meth2 {w : World} {g : Nat} (h : mtB w g) : Calls Tryz.prog 13 #[.agg #[.int .i64 9, .string ⟨#[]⟩, .string ⟨#[]⟩, .slice none 0 0, .slice none 0 0, .slice (some ⟨g, 0, none⟩) 3 3, .slice none 0 0, .int .i64 0]] w fun e w' => ∃ so sc no nc po pc, e = .returned (.tuple #[.agg #[.int .i64 9, .string ⟨#[]⟩, .slice so 0 sc, .slice no 2 nc, .slice po 0 pc], .int .i64 0]) ∧ L5.AtW w' (mkM so sc no nc po pc) ∧ Below w.heap.size w w' := by
  refine (of_meth h).mono ?_
  rintro e w' ⟨⟨a, rfl, ha, hat⟩, x⟩
  obtain ⟨so, sc, no, nc, po, pc, rfl⟩ := ha.mk
  exact ⟨so, sc, no, nc, po, pc, rfl, hat.at_, x⟩
theorem all_two2 {w : World} {T S ga gb : Nat} (hT : w.heap[T]? = some (.cells #[.slice (some ⟨S, 0, none⟩) 2 2] 61 (0, 0))) (hS : itB w S ga gb) (ha : knB w ga) (hb : knB w gb) (hn : ga ≠ gb) :
    Calls Tryz.prog 29 #[.slice (some ⟨T, 0, none⟩) 1 1] w fun e w' => ∃ so sc no nc po pc g c, e = .returned (.tuple #[.slice (some ⟨g, 0, none⟩) 1 c, .int .i64 0]) ∧ w'.ownsRow w.heap.size 35 5 (.slice (some ⟨g, 0, none⟩) 1 c) 1 [.int .i64 8, .string ⟨#[]⟩, .slice so 1 sc, .slice no 0 nc, .slice po 0 pc] ∧ L5.AtW w' (mkP so sc no nc po pc) ∧ Below w.heap.size w w' := by
  refine (all_two hT hS ha hb hn).mono ?_
  rintro e w' ⟨⟨a, g, c, rfl, hp, hr, hat⟩, x⟩
  obtain ⟨so, sc, no, nc, po, pc, rfl⟩ := hp.mk
  exact ⟨so, sc, no, nc, po, pc, g, c, rfl, hr, hat.at_, x⟩
theorem test_pt {w : World} {so no po : Option Addr} {sc nc pc : Nat} (h : L5.AtW w (mkP so sc no nc po pc)) : Calls Tryz.prog 24 #[.agg #[.int .i64 8, .string ⟨#[]⟩, .slice so 1 sc, .slice no 0 nc, .slice po 0 pc], .agg #[.string ⟨#[71, 69, 84]⟩, .string ⟨#[47]⟩, .int .i64 0, .int .i64 85, .slice none 0 0]] w fun e w' => e = .returned (.tuple #[.bool true, .int .i64 0]) ∧ Below w.heap.size w w' :=
  test_yes (mkP so sc no nc po pc) w h 8 (by decide) (by decide) rfl (PtA.rg (mkP_pt ..)) 78 rfl (enters_of Tryz.func78 (by kernel_rfl) rfl) (fun V Q hP hA => (hasPort_any Q _ V hP hA).mono (fun e w' hh => ⟨hh.1.trans (by
    have : L5.hasL (mkP so sc no nc po pc).sp 85 = true := by
      show L5.hasL [(80, 90)] 85 = true
      decide
    rw [this]), hh.2⟩))
theorem test_mt {w : World} {so no po : Option Addr} {sc nc pc : Nat} (h : L5.AtW w (mkM so sc no nc po pc)) : Calls Tryz.prog 24 #[.agg #[.int .i64 9, .string ⟨#[]⟩, .slice so 0 sc, .slice no 2 nc, .slice po 0 pc], .agg #[.string ⟨#[71, 69, 84]⟩, .string ⟨#[47]⟩, .int .i64 0, .int .i64 85, .slice none 0 0]] w fun e w' => e = .returned (.tuple #[.bool true, .int .i64 0]) ∧ Below w.heap.size w w' :=
  test_yes (mkM so sc no nc po pc) w h 9 (by decide) (by decide) rfl (MtA.rg (mkM_mt ..)) 80 rfl (enters_of Tryz.func80 (by kernel_rfl) rfl) (fun V Q hP hA => hasMethod_any Q _ V hP hA rfl)
theorem right_pt {w : World} {so no po : Option Addr} {sc nc pc : Nat} (h : L5.AtW w (mkP so sc no nc po pc)) : Calls Tryz.prog 20 #[.agg #[.int .i64 8, .string ⟨#[]⟩, .slice so 1 sc, .slice no 0 nc, .slice po 0 pc]] w fun e w' => e = .returned (.bool true) ∧ Below w.heap.size w w' :=
  (L5.rightA_any (mkP so sc no nc po pc) w h).mono (fun e w' hh => ⟨by
    rcases hh.1 with ⟨_, rfl⟩ | ⟨h, _⟩
    · rfl
    · exact absurd (PtA.rgA (mkP_pt ..)) h, hh.2⟩)
theorem same_pp {w : World} {so no po lso lno lpo : Option Addr} {sc nc pc lsc lnc lpc : Nat} (h : L5.AtW w (mkP so sc no nc po pc)) (k : L5.AtW w (mkP lso lsc lno lnc lpo lpc)) : Calls Tryz.prog 21 #[.agg #[.int .i64 8, .string ⟨#[]⟩, .slice so 1 sc, .slice no 0 nc, .slice po 0 pc], .agg #[.int .i64 8, .string ⟨#[]⟩, .slice lso 1 lsc, .slice lno 0 lnc, .slice lpo 0 lpc]] w fun e w' => e = .returned (.bool true) ∧ Below w.heap.size w w' :=
  (L5.same_any (mkP so sc no nc po pc) (mkP lso lsc lno lnc lpo lpc) w h k).mono (fun e w' hh => ⟨by rw [hh.1, PtA.same (mkP_pt ..) (mkP_pt ..)], hh.2⟩)
theorem same_pm {w : World} {so no po lso lno lpo : Option Addr} {sc nc pc lsc lnc lpc : Nat} (h : L5.AtW w (mkP so sc no nc po pc)) (k : L5.AtW w (mkM lso lsc lno lnc lpo lpc)) : Calls Tryz.prog 21 #[.agg #[.int .i64 8, .string ⟨#[]⟩, .slice so 1 sc, .slice no 0 nc, .slice po 0 pc], .agg #[.int .i64 9, .string ⟨#[]⟩, .slice lso 0 lsc, .slice lno 2 lnc, .slice lpo 0 lpc]] w fun e w' => e = .returned (.bool false) ∧ Below w.heap.size w w' :=
  (L5.same_any (mkP so sc no nc po pc) (mkM lso lsc lno lnc lpo lpc) w h k).mono (fun e w' hh => ⟨by rw [hh.1]; rfl, hh.2⟩)
set_option maxRecDepth 100000 in
set_option maxHeartbeats 8000000 in
theorem awake_any (w : World) : Calls Tryz.prog 11 #[] w fun e w' => e = .returned (.bool true) ∧ Below w.heap.size w w' := by
  go_enter Tryz.func11, Tryz.ntmps11
  go_upto_region 1 with fail
  have XX := hide (Below.refl w.heap.size w)
  go_wp2_with (fail)
  refine (known_any w).mono ?_
  rintro e w1 ⟨⟨g1, rfl, hk1, _⟩, x1⟩
  have XX2 := hide (bt XX.out x1 (Nat.le_refl _))
  clear XX
  have XX := hide XX2.out
  clear XX2
  clear x1
  go_wp2_with (fail)
  refine (of_known2 hk1).mono ?_
  rintro e w2 ⟨aso, asc, ano, anc, apo, apc, rfl, hat, x2⟩
  have XX2 := hide (bt XX.out x2 (Nat.le_refl _))
  clear XX
  have XX := hide XX2.out
  clear XX2
  have HA := hide hat
  clear x2 hk1 hat
  have XA : Below w2.heap.size w2 (w2.alloc (.cells #[.int .i64 8, .string ⟨#[]⟩, .slice aso 1 asc, .slice ano 0 anc, .slice apo 0 apc] 35)) := al (Below.refl _ _) _
  have BA := hide (heap_alloc_new w2 (.cells #[.int .i64 8, .string ⟨#[]⟩, .slice aso 1 asc, .slice ano 0 anc, .slice apo 0 apc] 35))
  have HA2 := hide (HA.out.below XA)
  clear HA
  have HA := hide HA2.out
  clear HA2
  have XX2 := hide (bt XX.out XA (Nat.le_refl _))
  clear XX
  have XX := hide XX2.out
  clear XX2
  clear XA
  obtain ⟨A, hA⟩ : ∃ p, p = w2.heap.size := ⟨_, rfl⟩
  go_upto_region 2 with fail
  rw [← hA]
  rw [← hA] at BA
  clear hA
  generalize w2.alloc (.cells #[.int .i64 8, .string ⟨#[]⟩, .slice aso 1 asc, .slice ano 0 anc, .slice apo 0 apc] 35) = W3 at *
  have XM : Below W3.heap.size W3 (W3.alloc (.cells #[.string ⟨#[80, 85, 84]⟩, .string ⟨#[71, 69, 84]⟩, .string ⟨#[80, 85, 84]⟩] 9)) := al (Below.refl _ _) _
  have BM := heap_alloc_new W3 (.cells #[.string ⟨#[80, 85, 84]⟩, .string ⟨#[71, 69, 84]⟩, .string ⟨#[80, 85, 84]⟩] 9)
  have BA2 := hide ((XM.block A (lt_of_block BA.out)).trans BA.out)
  clear BA
  have BA := hide BA2.out
  clear BA2
  have HA2 := hide (HA.out.below XM)
  clear HA
  have HA := hide HA2.out
  clear HA2
  have XX2 := hide (bt XX.out XM (Nat.le_refl _))
  clear XX
  have XX := hide XX2.out
  clear XX2
  clear XM
  have HOM := hide (of_meth2 BM)
  clear BM
  go_wp2_with (fail)
  refine (HOM.out).mono ?_
  rintro e w4 ⟨bso, bsc, bno, bnc, bpo, bpc, rfl, hbt, x4⟩
  have BA2 := hide ((x4.block A (lt_of_block BA.out)).trans BA.out)
  clear BA
  have BA := hide BA2.out
  clear BA2
  have HA2 := hide (HA.out.below x4)
  clear HA
  have HA := hide HA2.out
  clear HA2
  have XX2 := hide (bt XX.out x4 (Nat.le_refl _))
  clear XX
  have XX := hide XX2.out
  clear XX2
  have HB := hide hbt
  clear x4 hbt HOM
  have XA : Below w4.heap.size w4 (w4.alloc (.cells #[.int .i64 9, .string ⟨#[]⟩, .slice bso 0 bsc, .slice bno 2 bnc, .slice bpo 0 bpc] 35)) := al (Below.refl _ _) _
  have BB := hide (heap_alloc_new w4 (.cells #[.int .i64 9, .string ⟨#[]⟩, .slice bso 0 bsc, .slice bno 2 bnc, .slice bpo 0 bpc] 35))
  have BA2 := hide ((XA.block A (lt_of_block BA.out)).trans BA.out)
  clear BA
  have BA := hide BA2.out
  clear BA2
  have HA2 := hide (HA.out.below XA)
  clear HA
  have HA := hide HA2.out
  clear HA2
  have HB2 := hide (HB.out.below XA)
  clear HB
  have HB := hide HB2.out
  clear HB2
  have XX2 := hide (bt XX.out XA (Nat.le_refl _))
  clear XX
  have XX := hide XX2.out
  clear XX2
  clear XA
  obtain ⟨B, hB⟩ : ∃ p, p = w4.heap.size := ⟨_, rfl⟩
  go_upto_region 3 with fail
  rw [← hB]
  rw [← hB] at BB
  clear hB
  generalize w4.alloc (.cells #[.int .i64 9, .string ⟨#[]⟩, .slice bso 0 bsc, .slice bno 2 bnc, .slice bpo 0 bpc] 35) = W5 at *
  go_wp2_with (fail)
  refine (of_has W5).mono ?_
  rintro e w6 ⟨rfl, x6⟩
  have BA2 := hide ((x6.block A (lt_of_block BA.out)).trans BA.out)
  clear BA
  have BA := hide BA2.out
  clear BA2
  have BB2 := hide ((x6.block B (lt_of_block BB.out)).trans BB.out)
  clear BB
  have BB := hide BB2.out
  clear BB2
  have HA2 := hide (HA.out.below x6)
  clear HA
  have HA := hide HA2.out
  clear HA2
  have HB2 := hide (HB.out.below x6)
  clear HB
  have HB := hide HB2.out
  clear HB2
  have XX2 := hide (bt XX.out x6 (Nat.le_refl _))
  clear XX
  have XX := hide XX2.out
  clear XX2
  clear x6
  have XA : Below w6.heap.size w6 (w6.alloc (.cells #[.int .i64 0, .string ⟨#[]⟩, .slice none 0 0, .slice none 0 0, .slice none 0 0] 35)) := al (Below.refl _ _) _
  have BC := hide (heap_alloc_new w6 (.cells #[.int .i64 0, .string ⟨#[]⟩, .slice none 0 0, .slice none 0 0, .slice none 0 0] 35))
  have BA2 := hide ((XA.block A (lt_of_block BA.out)).trans BA.out)
  clear BA
  have BA := hide BA2.out
  clear BA2
  have BB2 := hide ((XA.block B (lt_of_block BB.out)).trans BB.out)
  clear BB
  have BB := hide BB2.out
  clear BB2
  have HA2 := hide (HA.out.below XA)
  clear HA
  have HA := hide HA2.out
  clear HA2
  have HB2 := hide (HB.out.below XA)
  clear HB
  have HB := hide HB2.out
  clear HB2
  have XX2 := hide (bt XX.out XA (Nat.le_refl _))
  clear XX
  have XX := hide XX2.out
  clear XX2
  clear XA
  obtain ⟨C, hC⟩ : ∃ p, p = w6.heap.size := ⟨_, rfl⟩
  go_upto_region 4 with fail
  rw [← hC]
  rw [← hC] at BC
  clear hC
  generalize w6.alloc (.cells #[.int .i64 0, .string ⟨#[]⟩, .slice none 0 0, .slice none 0 0, .slice none 0 0] 35) = W7 at *
  have XA : Below W7.heap.size W7 (W7.alloc (.cells #[.string ⟨#[71, 69, 84]⟩, .string ⟨#[47]⟩, .int .i64 0, .int .i64 85, .slice none 0 0] 52)) := al (Below.refl _ _) _
  have BQ := hide (heap_alloc_new W7 (.cells #[.string ⟨#[71, 69, 84]⟩, .string ⟨#[47]⟩, .int .i64 0, .int .i64 85, .slice none 0 0] 52))
  have BA2 := hide ((XA.block A (lt_of_block BA.out)).trans BA.out)
  clear BA
  have BA := hide BA2.out
  clear BA2
  have BB2 := hide ((XA.block B (lt_of_block BB.out)).trans BB.out)
  clear BB
  have BB := hide BB2.out
  clear BB2
  have BC2 := hide ((XA.block C (lt_of_block BC.out)).trans BC.out)
  clear BC
  have BC := hide BC2.out
  clear BC2
  have HA2 := hide (HA.out.below XA)
  clear HA
  have HA := hide HA2.out
  clear HA2
  have HB2 := hide (HB.out.below XA)
  clear HB
  have HB := hide HB2.out
  clear HB2
  have XX2 := hide (bt XX.out XA (Nat.le_refl _))
  clear XX
  have XX := hide XX2.out
  clear XX2
  clear XA
  obtain ⟨Q, hQ⟩ : ∃ p, p = W7.heap.size := ⟨_, rfl⟩
  go_upto_region 5 with fail
  rw [← hQ]
  rw [← hQ] at BQ
  clear hQ
  generalize W7.alloc (.cells #[.string ⟨#[71, 69, 84]⟩, .string ⟨#[47]⟩, .int .i64 0, .int .i64 85, .slice none 0 0] 52) = W8 at *
  clear BC
  obtain ⟨a0, a1, a2, a3, a4⟩ := L5.five_of BA.out
  obtain ⟨q0, q1, q2, q3, q4⟩ := L5.five_of BQ.out
  go_wp2_with (fail)
  refine (test_pt HA.out).mono ?_
  rintro e w9 ⟨rfl, x9⟩
  have BA2 := hide ((x9.block A (lt_of_block BA.out)).trans BA.out)
  clear BA
  have BA := hide BA2.out
  clear BA2
  have BB2 := hide ((x9.block B (lt_of_block BB.out)).trans BB.out)
  clear BB
  have BB := hide BB2.out
  clear BB2
  have BQ2 := hide ((x9.block Q (lt_of_block BQ.out)).trans BQ.out)
  clear BQ
  have BQ := hide BQ2.out
  clear BQ2
  have HA2 := hide (HA.out.below x9)
  clear HA
  have HA := hide HA2.out
  clear HA2
  have HB2 := hide (HB.out.below x9)
  clear HB
  have HB := hide HB2.out
  clear HB2
  have XX2 := hide (bt XX.out x9 (Nat.le_refl _))
  clear XX
  have XX := hide XX2.out
  clear XX2
  clear x9
  clear a0 a1 a2 a3 a4
  clear q0 q1 q2 q3 q4
  go_upto_region 6 with fail
  obtain ⟨b0, b1, b2, b3, b4⟩ := L5.five_of BB.out
  obtain ⟨q0, q1, q2, q3, q4⟩ := L5.five_of BQ.out
  go_wp2_with (fail)
  refine (test_mt HB.out).mono ?_
  rintro e w10 ⟨rfl, x10⟩
  have BA2 := hide ((x10.block A (lt_of_block BA.out)).trans BA.out)
  clear BA
  have BA := hide BA2.out
  clear BA2
  have BB2 := hide ((x10.block B (lt_of_block BB.out)).trans BB.out)
  clear BB
  have BB := hide BB2.out
  clear BB2
  have BQ2 := hide ((x10.block Q (lt_of_block BQ.out)).trans BQ.out)
  clear BQ
  have BQ := hide BQ2.out
  clear BQ2
  have HA2 := hide (HA.out.below x10)
  clear HA
  have HA := hide HA2.out
  clear HA2
  have HB2 := hide (HB.out.below x10)
  clear HB
  have HB := hide HB2.out
  clear HB2
  have XX2 := hide (bt XX.out x10 (Nat.le_refl _))
  clear XX
  have XX := hide XX2.out
  clear XX2
  clear x10
  clear b0 b1 b2 b3 b4
  clear q0 q1 q2 q3 q4
  go_upto_region 7 with fail
  clear BQ
  go_wp2_with (fail)
  refine (known_any w10).mono ?_
  rintro e w11 ⟨⟨ga, rfl, hka, _⟩, x11⟩
  have BA2 := hide ((x11.block A (lt_of_block BA.out)).trans BA.out)
  clear BA
  have BA := hide BA2.out
  clear BA2
  have BB2 := hide ((x11.block B (lt_of_block BB.out)).trans BB.out)
  clear BB
  have BB := hide BB2.out
  clear BB2
  have HA2 := hide (HA.out.below x11)
  clear HA
  have HA := hide HA2.out
  clear HA2
  have HB2 := hide (HB.out.below x11)
  clear HB
  have HB := hide HB2.out
  clear HB2
  have XX2 := hide (bt XX.out x11 (Nat.le_refl _))
  clear XX
  have XX := hide XX2.out
  clear XX2
  have HKA := hide hka
  clear x11 hka
  go_wp2_with (fail)
  refine (known_any w11).mono ?_
  rintro e w12 ⟨⟨gb, rfl, hkb, hgb⟩, x12⟩
  have BA2 := hide ((x12.block A (lt_of_block BA.out)).trans BA.out)
  clear BA
  have BA := hide BA2.out
  clear BA2
  have BB2 := hide ((x12.block B (lt_of_block BB.out)).trans BB.out)
  clear BB
  have BB := hide BB2.out
  clear BB2
  have HA2 := hide (HA.out.below x12)
  clear HA
  have HA := hide HA2.out
  clear HA2
  have HB2 := hide (HB.out.below x12)
  clear HB
  have HB := hide HB2.out
  clear HB2
  have XX2 := hide (bt XX.out x12 (Nat.le_refl _))
  clear XX
  have XX := hide XX2.out
  clear XX2
  have HKA2 := hide ((x12.block ga (lt_of_block HKA.out)).trans HKA.out)
  have HNE : Hid (ga ≠ gb) := by have := lt_of_block HKA.out; unfold Hid; omega
  have XI : Below w12.heap.size w12 (w12.alloc (.cells #[.int .i64 2, .string ⟨#[97]⟩, .int .i64 8, .string ⟨#[]⟩, .string ⟨#[]⟩, .slice none 0 0, .slice (some ⟨ga, 0, none⟩) 2 2, .slice none 0 0, .slice none 0 0, .int .i64 0, .int .i64 0, .int .i64 3, .string ⟨#[98]⟩, .int .i64 8, .string ⟨#[]⟩, .string ⟨#[]⟩, .slice none 0 0, .slice (some ⟨gb, 0, none⟩) 2 2, .slice none 0 0, .slice none 0 0, .int .i64 0, .int .i64 0] 71)) := al (Below.refl _ _) _
  have BI := heap_alloc_new w12 (.cells #[.int .i64 2, .string ⟨#[97]⟩, .int .i64 8, .string ⟨#[]⟩, .string ⟨#[]⟩, .slice none 0 0, .slice (some ⟨ga, 0, none⟩) 2 2, .slice none 0 0, .slice none 0 0, .int .i64 0, .int .i64 0, .int .i64 3, .string ⟨#[98]⟩, .int .i64 8, .string ⟨#[]⟩, .string ⟨#[]⟩, .slice none 0 0, .slice (some ⟨gb, 0, none⟩) 2 2, .slice none 0 0, .slice none 0 0, .int .i64 0, .int .i64 0] 71)
  have XT : Below (w12.alloc (.cells #[.int .i64 2, .string ⟨#[97]⟩, .int .i64 8, .string ⟨#[]⟩, .string ⟨#[]⟩, .slice none 0 0, .slice (some ⟨ga, 0, none⟩) 2 2, .slice none 0 0, .slice none 0 0, .int .i64 0, .int .i64 0, .int .i64 3, .string ⟨#[98]⟩, .int .i64 8, .string ⟨#[]⟩, .string ⟨#[]⟩, .slice none 0 0, .slice (some ⟨gb, 0, none⟩) 2 2, .slice none 0 0, .slice none 0 0, .int .i64 0, .int .i64 0] 71)).heap.size (w12.alloc (.cells #[.int .i64 2, .string ⟨#[97]⟩, .int .i64 8, .string ⟨#[]⟩, .string ⟨#[]⟩, .slice none 0 0, .slice (some ⟨ga, 0, none⟩) 2 2, .slice none 0 0, .slice none 0 0, .int .i64 0, .int .i64 0, .int .i64 3, .string ⟨#[98]⟩, .int .i64 8, .string ⟨#[]⟩, .string ⟨#[]⟩, .slice none 0 0, .slice (some ⟨gb, 0, none⟩) 2 2, .slice none 0 0, .slice none 0 0, .int .i64 0, .int .i64 0] 71)) ((w12.alloc (.cells #[.int .i64 2, .string ⟨#[97]⟩, .int .i64 8, .string ⟨#[]⟩, .string ⟨#[]⟩, .slice none 0 0, .slice (some ⟨ga, 0, none⟩) 2 2, .slice none 0 0, .slice none 0 0, .int .i64 0, .int .i64 0, .int .i64 3, .string ⟨#[98]⟩, .int .i64 8, .string ⟨#[]⟩, .string ⟨#[]⟩, .slice none 0 0, .slice (some ⟨gb, 0, none⟩) 2 2, .slice none 0 0, .slice none 0 0, .int .i64 0, .int .i64 0] 71)).alloc (.cells #[.slice (some ⟨w12.heap.size, 0, none⟩) 2 2] 61)) := al (Below.refl _ _) _
  have BT := heap_alloc_new (w12.alloc (.cells #[.int .i64 2, .string ⟨#[97]⟩, .int .i64 8, .string ⟨#[]⟩, .string ⟨#[]⟩, .slice none 0 0, .slice (some ⟨ga, 0, none⟩) 2 2, .slice none 0 0, .slice none 0 0, .int .i64 0, .int .i64 0, .int .i64 3, .string ⟨#[98]⟩, .int .i64 8, .string ⟨#[]⟩, .string ⟨#[]⟩, .slice none 0 0, .slice (some ⟨gb, 0, none⟩) 2 2, .slice none 0 0, .slice none 0 0, .int .i64 0, .int .i64 0] 71)) (.cells #[.slice (some ⟨w12.heap.size, 0, none⟩) 2 2] 61)
  have XIT := bt XI XT (Nat.le_refl _)
  have HAL := hide (all_two2 BT ((XT.block _ (lt_of_block BI)).trans BI) ((XIT.block ga (lt_of_block HKA2.out)).trans HKA2.out) ((XIT.block gb (lt_of_block hkb)).trans hkb) HNE.out)
  rw [show (w12.alloc (.cells #[.int .i64 2, .string ⟨#[97]⟩, .int .i64 8, .string ⟨#[]⟩, .string ⟨#[]⟩, .slice none 0 0, .slice (some ⟨ga, 0, none⟩) 2 2, .slice none 0 0, .slice none 0 0, .int .i64 0, .int .i64 0, .int .i64 3, .string ⟨#[98]⟩, .int .i64 8, .string ⟨#[]⟩, .string ⟨#[]⟩, .slice none 0 0, .slice (some ⟨gb, 0, none⟩) 2 2, .slice none 0 0, .slice none 0 0, .int .i64 0, .int .i64 0] 71)).heap.size = w12.heap.size + 1 by simp] at HAL
  have BA2 := hide ((XIT.block A (lt_of_block BA.out)).trans BA.out)
  clear BA
  have BA := hide BA2.out
  clear BA2
  have BB2 := hide ((XIT.block B (lt_of_block BB.out)).trans BB.out)
  clear BB
  have BB := hide BB2.out
  clear BB2
  have HA2 := hide (HA.out.below XIT)
  clear HA
  have HA := hide HA2.out
  clear HA2
  have HB2 := hide (HB.out.below XIT)
  clear HB
  have HB := hide HB2.out
  clear HB2
  have XX2 := hide (bt XX.out XIT (Nat.le_refl _))
  clear XX
  have XX := hide XX2.out
  clear XX2
  clear XIT BT XT BI XI HNE HKA2 HKA hkb hgb x12
  go_wp2_with (fail)
  refine (HAL.out).mono ?_
  rintro e w13 ⟨lso, lsc, lno, lnc, lpo, lpc, g, c, rfl, hrow, hlt, x13⟩
  have BA2 := hide ((x13.block A (lt_of_block BA.out)).trans BA.out)
  clear BA
  have BA := hide BA2.out
  clear BA2
  have BB2 := hide ((x13.block B (lt_of_block BB.out)).trans BB.out)
  clear BB
  have BB := hide BB2.out
  clear BB2
  have HA2 := hide (HA.out.below x13)
  clear HA
  have HA := hide HA2.out
  clear HA2
  have HB2 := hide (HB.out.below x13)
  clear HB
  have HB := hide HB2.out
  clear HB2
  have XX2 := hide (bt XX.out x13 (Nat.le_refl _))
  clear XX
  have XX := hide XX2.out
  clear XX2
  have HL := hide hlt
  have HR := hide hrow
  clear x13 hlt hrow HAL
  go_upto_region 8 with fail
  have a2 := (L5.five_of BA.out).2.2.1
  have b3 := (L5.five_of BB.out).2.2.2.1
  go_upto_region 10 with fail
  clear a2 b3
  obtain ⟨a0, a1, a2, a3, a4⟩ := L5.five_of BA.out
  go_wp2_with (fail)
  refine (right_pt HA.out).mono ?_
  rintro e w14 ⟨rfl, x14⟩
  have BA2 := hide ((x14.block A (lt_of_block BA.out)).trans BA.out)
  clear BA
  have BA := hide BA2.out
  clear BA2
  have BB2 := hide ((x14.block B (lt_of_block BB.out)).trans BB.out)
  clear BB
  have BB := hide BB2.out
  clear BB2
  have HA2 := hide (HA.out.below x14)
  clear HA
  have HA := hide HA2.out
  clear HA2
  have HB2 := hide (HB.out.below x14)
  clear HB
  have HB := hide HB2.out
  clear HB2
  have HL2 := hide (HL.out.below x14)
  clear HL
  have HL := hide HL2.out
  clear HL2
  have HR2 := hide (own_below HR.out x14)
  clear HR
  have HR := hide HR2.out
  clear HR2
  have XX2 := hide (bt XX.out x14 (Nat.le_refl _))
  clear XX
  have XX := hide XX2.out
  clear XX2
  clear x14
  clear a0 a1 a2 a3 a4
  go_upto_region 11 with fail
  refine wp_unt (S := fun V => V.cell? ⟨A, 0, none⟩ = some (.int .i64 8) ∧ V.cell? ⟨A, 1, none⟩ = some (.string ⟨#[]⟩) ∧ V.cell? ⟨A, 2, none⟩ = some (.slice aso 1 asc) ∧ V.cell? ⟨A, 3, none⟩ = some (.slice ano 0 anc) ∧ V.cell? ⟨A, 4, none⟩ = some (.slice apo 0 apc) ∧ V.cell? ⟨g, 0, none⟩ = some (.int .i64 8) ∧ V.cell? ⟨g, 1, none⟩ = some (.string ⟨#[]⟩) ∧ V.cell? ⟨g, 2, none⟩ = some (.slice lso 1 lsc) ∧ V.cell? ⟨g, 3, none⟩ = some (.slice lno 0 lnc) ∧ V.cell? ⟨g, 4, none⟩ = some (.slice lpo 0 lpc)) 5 (by kernel_rfl) ?_
  have XD : Below w14.heap.size w14 w14.drew := (Below.refl _ _).drew
  have BA2 := hide ((XD.block A (lt_of_block BA.out)).trans BA.out)
  clear BA
  have BA := hide BA2.out
  clear BA2
  have BB2 := hide ((XD.block B (lt_of_block BB.out)).trans BB.out)
  clear BB
  have BB := hide BB2.out
  clear BB2
  have HA2 := hide (HA.out.below XD)
  clear HA
  have HA := hide HA2.out
  clear HA2
  have HB2 := hide (HB.out.below XD)
  clear HB
  have HB := hide HB2.out
  clear HB2
  have HL2 := hide (HL.out.below XD)
  clear HL
  have HL := hide HL2.out
  clear HL2
  have HR2 := hide (own_below HR.out XD)
  clear HR
  have HR := hide HR2.out
  clear HR2
  have XX2 := hide (bt XX.out XD (Nat.le_refl _))
  clear XX
  have XX := hide XX2.out
  clear XX2
  clear XD
  generalize w14.drew = V at *
  have S0 : Hid (V.cell? ⟨A, 0, none⟩ = some (.int .i64 8) ∧ V.cell? ⟨A, 1, none⟩ = some (.string ⟨#[]⟩) ∧ V.cell? ⟨A, 2, none⟩ = some (.slice aso 1 asc) ∧ V.cell? ⟨A, 3, none⟩ = some (.slice ano 0 anc) ∧ V.cell? ⟨A, 4, none⟩ = some (.slice apo 0 apc) ∧ V.cell? ⟨g, 0, none⟩ = some (.int .i64 8) ∧ V.cell? ⟨g, 1, none⟩ = some (.string ⟨#[]⟩) ∧ V.cell? ⟨g, 2, none⟩ = some (.slice lso 1 lsc) ∧ V.cell? ⟨g, 3, none⟩ = some (.slice lno 0 lnc) ∧ V.cell? ⟨g, 4, none⟩ = some (.slice lpo 0 lpc)) := by
    obtain ⟨a0, a1, a2, a3, a4⟩ := L5.five_of BA.out
    obtain ⟨l0, l1, l2, l3, l4⟩ := row_five (a := (mkP lso lsc lno lnc lpo lpc)) HR.out
    exact ⟨a0, a1, a2, a3, a4, l0, l1, l2, l3, l4⟩
  refine UntH.take (i := 0) (some 98) rfl rfl (by kernel_rfl) (by kernel_rfl) (by kernel_rfl) (by kernel_rfl) (fun _ _ _ _ h => h) (by rfl) S0.out ?_
  apply Exists.intro
  refine ⟨fun w' hw' => ?_, ?_⟩
  · obtain ⟨q0, q1, q2, q3, q4, q5, q6, q7, q8, q9⟩ := hw'
    go_simp
    first | done | rfl
  refine UntH.take (i := 1) (some 99) rfl rfl (by kernel_rfl) (by kernel_rfl) (by kernel_rfl) (by kernel_rfl) (fun _ _ _ _ h => h) (by rfl) S0.out ?_
  apply Exists.intro
  refine ⟨fun w' hw' => ?_, ?_⟩
  · obtain ⟨q0, q1, q2, q3, q4, q5, q6, q7, q8, q9⟩ := hw'
    go_simp
    first | done | rfl
  refine UntH.take (i := 2) (some 100) rfl rfl (by kernel_rfl) (by kernel_rfl) (by kernel_rfl) (by kernel_rfl) (fun _ _ _ _ h => h) (by rfl) S0.out ?_
  apply Exists.intro
  refine ⟨fun w' hw' => ?_, ?_⟩
  · obtain ⟨q0, q1, q2, q3, q4, q5, q6, q7, q8, q9⟩ := hw'
    go_simp
    first | done | rfl
  refine UntH.take (i := 3) (some 101) rfl rfl (by kernel_rfl) (by kernel_rfl) (by kernel_rfl) (by kernel_rfl) (fun _ _ _ _ h => h) (by rfl) S0.out ?_
  apply Exists.intro
  refine ⟨fun w' hw' => ?_, ?_⟩
  · obtain ⟨q0, q1, q2, q3, q4, q5, q6, q7, q8, q9⟩ := hw'
    go_simp
    first | done | rfl
  refine UntH.step (i := 4) (by kernel_rfl) rfl (fun K hK => ?_)
  go_simp
  refine (same_pp HA.out HL.out).mono ?_
  rintro e w15 ⟨rfl, x15⟩
  have BA2 := hide ((x15.block A (lt_of_block BA.out)).trans BA.out)
  clear BA
  have BA := hide BA2.out
  clear BA2
  have BB2 := hide ((x15.block B (lt_of_block BB.out)).trans BB.out)
  clear BB
  have BB := hide BB2.out
  clear BB2
  have HA2 := hide (HA.out.below x15)
  clear HA
  have HA := hide HA2.out
  clear HA2
  have HB2 := hide (HB.out.below x15)
  clear HB
  have HB := hide HB2.out
  clear HB2
  have HL2 := hide (HL.out.below x15)
  clear HL
  have HL := hide HL2.out
  clear HL2
  have HR2 := hide (own_below HR.out x15)
  clear HR
  have HR := hide HR2.out
  clear HR2
  have XX2 := hide (bt XX.out x15 (Nat.le_refl _))
  clear XX
  have XX := hide XX2.out
  clear XX2
  have S1 : Hid (w15.cell? ⟨A, 0, none⟩ = some (.int .i64 8) ∧ w15.cell? ⟨A, 1, none⟩ = some (.string ⟨#[]⟩) ∧ w15.cell? ⟨A, 2, none⟩ = some (.slice aso 1 asc) ∧ w15.cell? ⟨A, 3, none⟩ = some (.slice ano 0 anc) ∧ w15.cell? ⟨A, 4, none⟩ = some (.slice apo 0 apc) ∧ w15.cell? ⟨g, 0, none⟩ = some (.int .i64 8) ∧ w15.cell? ⟨g, 1, none⟩ = some (.string ⟨#[]⟩) ∧ w15.cell? ⟨g, 2, none⟩ = some (.slice lso 1 lsc) ∧ w15.cell? ⟨g, 3, none⟩ = some (.slice lno 0 lnc) ∧ w15.cell? ⟨g, 4, none⟩ = some (.slice lpo 0 lpc)) := by
    obtain ⟨a0, a1, a2, a3, a4⟩ := L5.five_of BA.out
    obtain ⟨l0, l1, l2, l3, l4⟩ := row_five (a := (mkP lso lsc lno lnc lpo lpc)) HR.out
    exact ⟨a0, a1, a2, a3, a4, l0, l1, l2, l3, l4⟩
  refine hK _ _ S1.out ?_
  clear hK K x15 S0 S1
  refine UntH.last (by kernel_rfl) rfl (by kernel_rfl) (by kernel_rfl) (fun K hK => ?_)
  go_simp
  refine hK _ _ ?_
  clear hK K HR HL
  go_upto_region 12 with fail
  obtain ⟨a0, a1, a2, a3, a4⟩ := L5.five_of BA.out
  obtain ⟨b0, b1, b2, b3, b4⟩ := L5.five_of BB.out
  go_wp2_with (fail)
  refine (same_pm HA.out HB.out).mono ?_
  rintro e w16 ⟨rfl, x16⟩
  have BA2 := hide ((x16.block A (lt_of_block BA.out)).trans BA.out)
  clear BA
  have BA := hide BA2.out
  clear BA2
  have BB2 := hide ((x16.block B (lt_of_block BB.out)).trans BB.out)
  clear BB
  have BB := hide BB2.out
  clear BB2
  have HA2 := hide (HA.out.below x16)
  clear HA
  have HA := hide HA2.out
  clear HA2
  have HB2 := hide (HB.out.below x16)
  clear HB
  have HB := hide HB2.out
  clear HB2
  have XX2 := hide (bt XX.out x16 (Nat.le_refl _))
  clear XX
  have XX := hide XX2.out
  clear XX2
  clear x16
  clear a0 a1 a2 a3 a4
  clear b0 b1 b2 b3 b4
  go_upto_region 13 with fail
  have a2 := (L5.five_of BA.out).2.2.1
  have b3 := (L5.five_of BB.out).2.2.2.1
  obtain ⟨ba, oa, hao, _, hca⟩ := HA.out.sp.get (i := 0) (show 0 < 1 by decide)
  obtain ⟨bb, ob, hbo, _, hcb⟩ := HB.out.ns.get (i := 0) (show 0 < 2 by decide)
  have ca := hca 0 (show 0 < 1 by decide)
  have cb := hcb 0 (show 0 < 2 by decide)
  clear hca hcb
  have hao : aso = some ⟨ba, oa, none⟩ := hao
  have hbo : bno = some ⟨bb, ob, none⟩ := hbo
  subst hao
  subst hbo
  obtain ⟨ca0, ca1⟩ := ca
  have ca0 : w16.cell? ⟨ba, oa, none⟩ = some (.int .i64 80) := ca0
  have ca1 : w16.cell? ⟨ba, oa + 1, none⟩ = some (.int .i64 90) := ca1
  have cb : w16.cell? ⟨bb, ob, none⟩ = some (.string ⟨#[71, 69, 84]⟩) := cb
  clear HA HB BA BB
  go_wp2
  go_ret
  exact ⟨rfl, XX.out⟩
end Go.Proofs.YthgikaklcglpiaaGreatDoor.L9
