/-
  awake: some of the chapter's examples answer as they must. No condition.
-/
import Derived.Test.YtkpdbbbeagnjpaaDoorAwl
namespace Go.Proofs.YtkpdbbbeagnjpaaDoor
open Go.RowKit Go.Lib

set_option maxHeartbeats 4000000 in
set_option maxRecDepth 100000 in
theorem awake_any (w : World) : Calls Tryd.prog 5 #[] w fun e w' => e = .returned (.bool true) ∧ Below w.heap.size w w' := by
  have HA := hide (awakeA w)
  have HB := hide awakeB
  have HQ1 := hide awakeQ1
  have HQ2 := hide awakeQ2
  have HN1 := hide awakeN1
  have HN2 := hide awakeN2
  have HW1 := hide awakeW1
  have HW2 := hide awakeW2
  go_enter Tryd.func5, Tryd.ntmps5
  go_upto_region 2 with (go_at_call 6; refine HA.out.mono ?_; rintro e w1 ⟨⟨g, cap, rfl, ho⟩, x1⟩; have HO := hide ho; have X1 := hide x1; clear ho x1)
  have HC : Hid (∀ V, Below w1.heap.size w1 V → V.cell? ⟨g, 0, none⟩ = some (.int .i64 1) ∧ V.cell? ⟨g, 1, none⟩ = some (.string ⟨#[108, 101, 116]⟩) ∧ V.cell? ⟨g, 2, none⟩ = some (.int .i64 0) ∧ V.cell? ⟨g, 3, none⟩ = some (.int .i64 0) ∧ V.cell? ⟨g, 4, none⟩ = some (.int .i64 0) ∧ V.cell? ⟨g, 5, none⟩ = some (.int .i64 0) ∧ V.cell? ⟨g, 18, none⟩ = some (.int .i64 6) ∧ V.cell? ⟨g, 19, none⟩ = some (.string ⟨#[120, 34, 121]⟩) ∧ V.cell? ⟨g, 20, none⟩ = some (.int .i64 0) ∧ V.cell? ⟨g, 21, none⟩ = some (.int .i64 0) ∧ V.cell? ⟨g, 22, none⟩ = some (.int .i64 0) ∧ V.cell? ⟨g, 23, none⟩ = some (.int .i64 10) ∧ V.cell? ⟨g, 30, none⟩ = some (.int .i64 8) ∧ V.cell? ⟨g, 31, none⟩ = some (.string ⟨#[]⟩) ∧ V.cell? ⟨g, 32, none⟩ = some (.int .i64 0) ∧ V.cell? ⟨g, 33, none⟩ = some (.int .i64 0) ∧ V.cell? ⟨g, 34, none⟩ = some (.int .i64 0) ∧ V.cell? ⟨g, 35, none⟩ = some (.int .i64 21)) := fun V y => by
    have o := own_below HO.out y
    rw [tkA_cells] at o
    have key := fun (j : Nat) (u : Value) hu => by
      have := o.cells (g := g) rfl j u hu
      rw [show (⟨g, 0, none⟩ : Addr).add j = ⟨g, 0 + j, none⟩ by unfold Addr.add; split <;> simp_all, Nat.zero_add] at this
      exact this
    exact ⟨key 0 _ rfl, key 1 _ rfl, key 2 _ rfl, key 3 _ rfl, key 4 _ rfl, key 5 _ rfl, key 18 _ rfl, key 19 _ rfl, key 20 _ rfl, key 21 _ rfl, key 22 _ rfl, key 23 _ rfl, key 30 _ rfl, key 31 _ rfl, key 32 _ rfl, key 33 _ rfl, key 34 _ rfl, key 35 _ rfl⟩
  clear HO HA
  go_upto_region 3 with (go_at_call 6; refine (HB.out _).mono ?_; rintro e w2 ⟨rfl, x2⟩; have X2 := hide x2; clear x2)
  go_upto_region 4 with (go_at_call 7; refine (HQ1.out _).mono ?_; rintro e w3 ⟨rfl, x3⟩; have X3 := hide (bt X2.out x3 (Nat.le_refl _)); clear x3)
  go_upto_region 5 with (go_at_call 7; refine (HQ2.out _).mono ?_; rintro e w4 ⟨rfl, x4⟩; have X4 := hide (bt X3.out x4 (Nat.le_refl _)); clear x4)
  clear HB HQ1 HQ2
  obtain ⟨k0, k1, k2, k3, k4, k5, k18, k19, k20, k21, k22, k23, k30, k31, k32, k33, k34, k35⟩ := HC.out w4 X4.out
  go_upto_region 7 with fail
  have q0 := eqB0
  have q1 := eqB1
  have q2 := eqB2
  go_wp2_with (fail)
  refine (HN1.out _).mono ?_
  rintro e w5 ⟨rfl, x5⟩
  have X5 := hide (bt X4.out x5 (Nat.le_refl _))
  clear x5 HN1 q0 q1 q2
  go_wp2_with (fail)
  refine (HN2.out _).mono ?_
  rintro e w6 ⟨rfl, x6⟩
  have X6 := hide (bt X5.out x6 (Nat.le_refl _))
  clear x6 HN2
  go_wp2_with (fail)
  refine (HW1.out _).mono ?_
  rintro e w7 ⟨rfl, hw7⟩
  subst hw7
  clear HW1
  go_wp2_with (fail)
  refine (HW2.out _).mono ?_
  rintro e w8 ⟨rfl, hw8⟩
  subst hw8
  go_wp2
  go_ret
  exact ⟨rfl, bt X1.out X6.out (Nat.le_refl _)⟩
end Go.Proofs.YtkpdbbbeagnjpaaDoor
