/-
  The reader's condition by its contract. No condition.
-/
import Derived.Test.YtlmhofjiobmodaaGreatDoorQ21
namespace Go.Proofs.YtlmhofjiobmodaaGreatDoor
open Go.RowKit Go.Lib

set_option maxRecDepth 100000 in
set_option maxHeartbeats 4000000 in
theorem cond_at0 {rbase rp g cap : Nat} {Ts : List Tk} {i : Nat} {w : World} (x : PR CT) (HC : ∀ V : World, RdA V rbase rp g cap Ts i → Calls Tryz.prog 119 #[.pointer (some ⟨rp, 0, none⟩), .agg #[.string ⟨#[111, 114]⟩, .int .i64 6, .int .i64 1]] V (PostC rbase rp g cap Ts V x)) (hR : RdA w rbase rp g cap Ts i) :
    Calls Tryz.prog 77 #[.pointer (some ⟨rp, 0, none⟩), .int .i64 0] w (PostC rbase rp g cap Ts w x) := by
  have HCC := hide HC
  obtain ⟨Q, hQ⟩ : ∃ Q, Q = w.heap.size := ⟨_, rfl⟩
  obtain ⟨W, hW⟩ : ∃ W, W = w.alloc (.cells #[.int .i64 0, .string ⟨#[]⟩, .string ⟨#[]⟩, .slice none 0 0, .slice none 0 0, .slice none 0 0, .slice none 0 0, .int .i64 0] 60) := ⟨_, rfl⟩
  have X0 := hide (show Below w.heap.size w W by rw [hW]; exact al (Below.refl _ _) _)
  have Q0 := hide (show W.heap[Q]? = some (.cells #[.int .i64 0, .string ⟨#[]⟩, .string ⟨#[]⟩, .slice none 0 0, .slice none 0 0, .slice none 0 0, .slice none 0 0, .int .i64 0] 60 (0, 0)) by rw [hW, hQ]; exact heap_alloc_new w _)
  have R0 := hide (hR.below X0.out)
  have HQE := hide hQ
  have HGL : Hid (rp < Q ∧ g < Q) := by have := hR.gl; unfold Hid; omega
  have HO := hide (operators_any W)
  clear HC hR
  go_enter Tryz.func77, Tryz.ntmps77
  go_upto_region 1 with fail
  rw [← hQ, ← hW]
  clear hQ hW
  have nQ : Q ≠ rp := by have := HGL.out; omega
  go_upto_region 2 with (go_at_call 116; refine HO.out.mono ?_; rintro e w1 ⟨rfl, x1⟩; have X1 := hide x1; clear x1)
  have X2 := hide (bt X0.out (bt X1.out (show Below w1.heap.size w1 (w1.alloc (.cells #[.string ⟨#[111, 114]⟩, .int .i64 6, .int .i64 1, .string ⟨#[97, 110, 100]⟩, .int .i64 5, .int .i64 2, .string ⟨#[110, 111, 116]⟩, .int .i64 4, .int .i64 2] 152)) from al (Below.refl _ _) _) (Nat.le_refl _)) (Nat.le_refl _))
  have X12 := hide (bt X1.out (show Below w1.heap.size w1 (w1.alloc (.cells #[.string ⟨#[111, 114]⟩, .int .i64 6, .int .i64 1, .string ⟨#[97, 110, 100]⟩, .int .i64 5, .int .i64 2, .string ⟨#[110, 111, 116]⟩, .int .i64 4, .int .i64 2] 152)) from al (Below.refl _ _) _) (Nat.le_refl _))
  have T2 := hide (heap_alloc_new w1 (.cells #[.string ⟨#[111, 114]⟩, .int .i64 6, .int .i64 1, .string ⟨#[97, 110, 100]⟩, .int .i64 5, .int .i64 2, .string ⟨#[110, 111, 116]⟩, .int .i64 4, .int .i64 2] 152))
  obtain ⟨T, hT⟩ : ∃ T, T = w1.heap.size := ⟨_, rfl⟩
  rw [← hT] at T2
  rw [← hT]
  have R2 := hide (R0.out.below X12.out)
  have Q2 := hide ((X12.out.block Q (lt_of_block Q0.out)).trans Q0.out)
  clear hT X12 X1 R0 Q0 X0 HO
  generalize w1.alloc (.cells #[.string ⟨#[111, 114]⟩, .int .i64 6, .int .i64 1, .string ⟨#[97, 110, 100]⟩, .int .i64 5, .int .i64 2, .string ⟨#[110, 111, 116]⟩, .int .i64 4, .int .i64 2] 152) = w2 at *
  have q0 : w2.cell? ⟨T, 0, none⟩ = #[.string ⟨#[111, 114]⟩, .int .i64 6, .int .i64 1, .string ⟨#[97, 110, 100]⟩, .int .i64 5, .int .i64 2, .string ⟨#[110, 111, 116]⟩, .int .i64 4, .int .i64 2][0]? := by rw [cell_of_row _ _ _ _ _ _ T2.out]
  have q1 : w2.cell? ⟨T, 1, none⟩ = #[.string ⟨#[111, 114]⟩, .int .i64 6, .int .i64 1, .string ⟨#[97, 110, 100]⟩, .int .i64 5, .int .i64 2, .string ⟨#[110, 111, 116]⟩, .int .i64 4, .int .i64 2][1]? := by rw [cell_of_row _ _ _ _ _ _ T2.out]
  have q2 : w2.cell? ⟨T, 2, none⟩ = #[.string ⟨#[111, 114]⟩, .int .i64 6, .int .i64 1, .string ⟨#[97, 110, 100]⟩, .int .i64 5, .int .i64 2, .string ⟨#[110, 111, 116]⟩, .int .i64 4, .int .i64 2][2]? := by rw [cell_of_row _ _ _ _ _ _ T2.out]
  have q3 : w2.cell? ⟨T, 3, none⟩ = #[.string ⟨#[111, 114]⟩, .int .i64 6, .int .i64 1, .string ⟨#[97, 110, 100]⟩, .int .i64 5, .int .i64 2, .string ⟨#[110, 111, 116]⟩, .int .i64 4, .int .i64 2][3]? := by rw [cell_of_row _ _ _ _ _ _ T2.out]
  have q4 : w2.cell? ⟨T, 4, none⟩ = #[.string ⟨#[111, 114]⟩, .int .i64 6, .int .i64 1, .string ⟨#[97, 110, 100]⟩, .int .i64 5, .int .i64 2, .string ⟨#[110, 111, 116]⟩, .int .i64 4, .int .i64 2][4]? := by rw [cell_of_row _ _ _ _ _ _ T2.out]
  have q5 : w2.cell? ⟨T, 5, none⟩ = #[.string ⟨#[111, 114]⟩, .int .i64 6, .int .i64 1, .string ⟨#[97, 110, 100]⟩, .int .i64 5, .int .i64 2, .string ⟨#[110, 111, 116]⟩, .int .i64 4, .int .i64 2][5]? := by rw [cell_of_row _ _ _ _ _ _ T2.out]
  have q6 : w2.cell? ⟨T, 6, none⟩ = #[.string ⟨#[111, 114]⟩, .int .i64 6, .int .i64 1, .string ⟨#[97, 110, 100]⟩, .int .i64 5, .int .i64 2, .string ⟨#[110, 111, 116]⟩, .int .i64 4, .int .i64 2][6]? := by rw [cell_of_row _ _ _ _ _ _ T2.out]
  have q7 : w2.cell? ⟨T, 7, none⟩ = #[.string ⟨#[111, 114]⟩, .int .i64 6, .int .i64 1, .string ⟨#[97, 110, 100]⟩, .int .i64 5, .int .i64 2, .string ⟨#[110, 111, 116]⟩, .int .i64 4, .int .i64 2][7]? := by rw [cell_of_row _ _ _ _ _ _ T2.out]
  have q8 : w2.cell? ⟨T, 8, none⟩ = #[.string ⟨#[111, 114]⟩, .int .i64 6, .int .i64 1, .string ⟨#[97, 110, 100]⟩, .int .i64 5, .int .i64 2, .string ⟨#[110, 111, 116]⟩, .int .i64 4, .int .i64 2][8]? := by rw [cell_of_row _ _ _ _ _ _ T2.out]
  simp at q0 q1 q2 q3 q4 q5 q6 q7 q8
  have HI := hide (HCC.out w2 R2.out)
  clear HCC
  go_wp2_with (fail)
  refine HI.out.mono ?_
  clear q0 q1 q2 q3 q4 q5 q6 q7 q8
  intro e w3 hp
  cases hxa : x with
  | out => rw [hxa] at hp; exact absurd hp (fun h => h)
  | bad e0 p =>
    rw [hxa] at hp
    obtain ⟨he, k3⟩ := hp
    unfold pan at he
    subst he
    exact ⟨rfl, PostC.badI (by first | exact hxa | rfl) rfl ((Kept.of_below X2.out).trans k3)⟩
  | ok c j =>
    have HXA := hide hxa
    rw [hxa] at hp
    obtain ⟨⟨vs, bs, rfl, hct, hnd⟩, r3, k3⟩ := hp
    obtain ⟨a3, c3, a4, c4, a5, c5, a6, c6, rfl⟩ := hct.eight
    have C3 := hide hct
    have HND := hide hnd
    have R3 := hide r3
    have Q3 := hide ((k3.block Q (lt_of_block Q2.out) nQ).trans Q2.out)
    have K3 := hide ((Kept.of_below (F := fun k => k = rp) X2.out).trans k3)
    have HS2 : Hid (Q < w2.heap.size) := lt_of_block Q2.out
    clear hxa hct hnd r3 k3 HI R2 Q2 X2 T2
    obtain ⟨⟨_, p0⟩, f0, ⟨_, p1⟩, f1, ⟨_, p2⟩, f2, ⟨_, p3⟩, f3, ⟨_, p4⟩, f4, ⟨_, p5⟩, f5, ⟨_, p6⟩, f6, ⟨_, p7⟩, f7, hsb, hsk⟩ := st8 Q3.out (.int .i64 c.k) (.string ⟨c.nm.toArray⟩) (.string ⟨c.tx.toArray⟩) (.slice a3 c.pre.length c3) (.slice a4 c.sp.length c4) (.slice a5 c.ns.length c5) (.slice a6 c.kids.length c6) (.int .i64 c.p)
    have HSB := hide hsb
    have KQ := hide hsk
    clear hsb hsk
    go_wp2
    clear p0 f0 p1 f1 p2 f2 p3 f3 p4 f4 p5 f5 p6 f6 p7 f7
    generalize ((((((((w3.setCell ⟨Q, 0, none⟩ (.int .i64 c.k)).setCell ⟨Q, 1, none⟩ (.string ⟨c.nm.toArray⟩)).setCell ⟨Q, 2, none⟩ (.string ⟨c.tx.toArray⟩)).setCell ⟨Q, 3, none⟩ (.slice a3 c.pre.length c3)).setCell ⟨Q, 4, none⟩ (.slice a4 c.sp.length c4)).setCell ⟨Q, 5, none⟩ (.slice a5 c.ns.length c5)).setCell ⟨Q, 6, none⟩ (.slice a6 c.kids.length c6)).setCell ⟨Q, 7, none⟩ (.int .i64 c.p)) = w9 at *
    obtain ⟨q0, q1, q2, q3, q4, q5, q6, q7⟩ := ld8 HSB.out
    refine bodyPost_ret (by simp [results, Tryz.results77, go_sem, q0, q1, q2, q3, q4, q5, q6, q7]; try rfl) rfl ?_
    refine PostC.okI (by first | exact HXA.out | rfl) rfl (C3.out.frame KQ.out (fun k hk => ?_) ?_) HND.out (R3.out.kept KQ.out ?_ ?_) (K3.out.fin KQ.out ?_)
    · have := HS2.out
      rw [hk]
      exact this
    · have := HS2.out
      have := HQE.out
      omega
    · have := HGL.out
      show ¬ rp = Q
      omega
    · have := HGL.out
      show ¬ g = Q
      omega
    · have := HQE.out
      omega
set_option maxRecDepth 100000 in
set_option maxHeartbeats 4000000 in
theorem cond_at1 {rbase rp g cap : Nat} {Ts : List Tk} {i : Nat} {w : World} (x : PR CT) (HC : ∀ V : World, RdA V rbase rp g cap Ts i → Calls Tryz.prog 119 #[.pointer (some ⟨rp, 0, none⟩), .agg #[.string ⟨#[97, 110, 100]⟩, .int .i64 5, .int .i64 2]] V (PostC rbase rp g cap Ts V x)) (hR : RdA w rbase rp g cap Ts i) :
    Calls Tryz.prog 77 #[.pointer (some ⟨rp, 0, none⟩), .int .i64 1] w (PostC rbase rp g cap Ts w x) := by
  have HCC := hide HC
  obtain ⟨Q, hQ⟩ : ∃ Q, Q = w.heap.size := ⟨_, rfl⟩
  obtain ⟨W, hW⟩ : ∃ W, W = w.alloc (.cells #[.int .i64 0, .string ⟨#[]⟩, .string ⟨#[]⟩, .slice none 0 0, .slice none 0 0, .slice none 0 0, .slice none 0 0, .int .i64 0] 60) := ⟨_, rfl⟩
  have X0 := hide (show Below w.heap.size w W by rw [hW]; exact al (Below.refl _ _) _)
  have Q0 := hide (show W.heap[Q]? = some (.cells #[.int .i64 0, .string ⟨#[]⟩, .string ⟨#[]⟩, .slice none 0 0, .slice none 0 0, .slice none 0 0, .slice none 0 0, .int .i64 0] 60 (0, 0)) by rw [hW, hQ]; exact heap_alloc_new w _)
  have R0 := hide (hR.below X0.out)
  have HQE := hide hQ
  have HGL : Hid (rp < Q ∧ g < Q) := by have := hR.gl; unfold Hid; omega
  have HO := hide (operators_any W)
  clear HC hR
  go_enter Tryz.func77, Tryz.ntmps77
  go_upto_region 1 with fail
  rw [← hQ, ← hW]
  clear hQ hW
  have nQ : Q ≠ rp := by have := HGL.out; omega
  go_upto_region 2 with (go_at_call 116; refine HO.out.mono ?_; rintro e w1 ⟨rfl, x1⟩; have X1 := hide x1; clear x1)
  have X2 := hide (bt X0.out (bt X1.out (show Below w1.heap.size w1 (w1.alloc (.cells #[.string ⟨#[111, 114]⟩, .int .i64 6, .int .i64 1, .string ⟨#[97, 110, 100]⟩, .int .i64 5, .int .i64 2, .string ⟨#[110, 111, 116]⟩, .int .i64 4, .int .i64 2] 152)) from al (Below.refl _ _) _) (Nat.le_refl _)) (Nat.le_refl _))
  have X12 := hide (bt X1.out (show Below w1.heap.size w1 (w1.alloc (.cells #[.string ⟨#[111, 114]⟩, .int .i64 6, .int .i64 1, .string ⟨#[97, 110, 100]⟩, .int .i64 5, .int .i64 2, .string ⟨#[110, 111, 116]⟩, .int .i64 4, .int .i64 2] 152)) from al (Below.refl _ _) _) (Nat.le_refl _))
  have T2 := hide (heap_alloc_new w1 (.cells #[.string ⟨#[111, 114]⟩, .int .i64 6, .int .i64 1, .string ⟨#[97, 110, 100]⟩, .int .i64 5, .int .i64 2, .string ⟨#[110, 111, 116]⟩, .int .i64 4, .int .i64 2] 152))
  obtain ⟨T, hT⟩ : ∃ T, T = w1.heap.size := ⟨_, rfl⟩
  rw [← hT] at T2
  rw [← hT]
  have R2 := hide (R0.out.below X12.out)
  have Q2 := hide ((X12.out.block Q (lt_of_block Q0.out)).trans Q0.out)
  clear hT X12 X1 R0 Q0 X0 HO
  generalize w1.alloc (.cells #[.string ⟨#[111, 114]⟩, .int .i64 6, .int .i64 1, .string ⟨#[97, 110, 100]⟩, .int .i64 5, .int .i64 2, .string ⟨#[110, 111, 116]⟩, .int .i64 4, .int .i64 2] 152) = w2 at *
  have q0 : w2.cell? ⟨T, 0, none⟩ = #[.string ⟨#[111, 114]⟩, .int .i64 6, .int .i64 1, .string ⟨#[97, 110, 100]⟩, .int .i64 5, .int .i64 2, .string ⟨#[110, 111, 116]⟩, .int .i64 4, .int .i64 2][0]? := by rw [cell_of_row _ _ _ _ _ _ T2.out]
  have q1 : w2.cell? ⟨T, 1, none⟩ = #[.string ⟨#[111, 114]⟩, .int .i64 6, .int .i64 1, .string ⟨#[97, 110, 100]⟩, .int .i64 5, .int .i64 2, .string ⟨#[110, 111, 116]⟩, .int .i64 4, .int .i64 2][1]? := by rw [cell_of_row _ _ _ _ _ _ T2.out]
  have q2 : w2.cell? ⟨T, 2, none⟩ = #[.string ⟨#[111, 114]⟩, .int .i64 6, .int .i64 1, .string ⟨#[97, 110, 100]⟩, .int .i64 5, .int .i64 2, .string ⟨#[110, 111, 116]⟩, .int .i64 4, .int .i64 2][2]? := by rw [cell_of_row _ _ _ _ _ _ T2.out]
  have q3 : w2.cell? ⟨T, 3, none⟩ = #[.string ⟨#[111, 114]⟩, .int .i64 6, .int .i64 1, .string ⟨#[97, 110, 100]⟩, .int .i64 5, .int .i64 2, .string ⟨#[110, 111, 116]⟩, .int .i64 4, .int .i64 2][3]? := by rw [cell_of_row _ _ _ _ _ _ T2.out]
  have q4 : w2.cell? ⟨T, 4, none⟩ = #[.string ⟨#[111, 114]⟩, .int .i64 6, .int .i64 1, .string ⟨#[97, 110, 100]⟩, .int .i64 5, .int .i64 2, .string ⟨#[110, 111, 116]⟩, .int .i64 4, .int .i64 2][4]? := by rw [cell_of_row _ _ _ _ _ _ T2.out]
  have q5 : w2.cell? ⟨T, 5, none⟩ = #[.string ⟨#[111, 114]⟩, .int .i64 6, .int .i64 1, .string ⟨#[97, 110, 100]⟩, .int .i64 5, .int .i64 2, .string ⟨#[110, 111, 116]⟩, .int .i64 4, .int .i64 2][5]? := by rw [cell_of_row _ _ _ _ _ _ T2.out]
  have q6 : w2.cell? ⟨T, 6, none⟩ = #[.string ⟨#[111, 114]⟩, .int .i64 6, .int .i64 1, .string ⟨#[97, 110, 100]⟩, .int .i64 5, .int .i64 2, .string ⟨#[110, 111, 116]⟩, .int .i64 4, .int .i64 2][6]? := by rw [cell_of_row _ _ _ _ _ _ T2.out]
  have q7 : w2.cell? ⟨T, 7, none⟩ = #[.string ⟨#[111, 114]⟩, .int .i64 6, .int .i64 1, .string ⟨#[97, 110, 100]⟩, .int .i64 5, .int .i64 2, .string ⟨#[110, 111, 116]⟩, .int .i64 4, .int .i64 2][7]? := by rw [cell_of_row _ _ _ _ _ _ T2.out]
  have q8 : w2.cell? ⟨T, 8, none⟩ = #[.string ⟨#[111, 114]⟩, .int .i64 6, .int .i64 1, .string ⟨#[97, 110, 100]⟩, .int .i64 5, .int .i64 2, .string ⟨#[110, 111, 116]⟩, .int .i64 4, .int .i64 2][8]? := by rw [cell_of_row _ _ _ _ _ _ T2.out]
  simp at q0 q1 q2 q3 q4 q5 q6 q7 q8
  have HI := hide (HCC.out w2 R2.out)
  clear HCC
  go_wp2_with (fail)
  refine HI.out.mono ?_
  clear q0 q1 q2 q3 q4 q5 q6 q7 q8
  intro e w3 hp
  cases hxa : x with
  | out => rw [hxa] at hp; exact absurd hp (fun h => h)
  | bad e0 p =>
    rw [hxa] at hp
    obtain ⟨he, k3⟩ := hp
    unfold pan at he
    subst he
    exact ⟨rfl, PostC.badI (by first | exact hxa | rfl) rfl ((Kept.of_below X2.out).trans k3)⟩
  | ok c j =>
    have HXA := hide hxa
    rw [hxa] at hp
    obtain ⟨⟨vs, bs, rfl, hct, hnd⟩, r3, k3⟩ := hp
    obtain ⟨a3, c3, a4, c4, a5, c5, a6, c6, rfl⟩ := hct.eight
    have C3 := hide hct
    have HND := hide hnd
    have R3 := hide r3
    have Q3 := hide ((k3.block Q (lt_of_block Q2.out) nQ).trans Q2.out)
    have K3 := hide ((Kept.of_below (F := fun k => k = rp) X2.out).trans k3)
    have HS2 : Hid (Q < w2.heap.size) := lt_of_block Q2.out
    clear hxa hct hnd r3 k3 HI R2 Q2 X2 T2
    obtain ⟨⟨_, p0⟩, f0, ⟨_, p1⟩, f1, ⟨_, p2⟩, f2, ⟨_, p3⟩, f3, ⟨_, p4⟩, f4, ⟨_, p5⟩, f5, ⟨_, p6⟩, f6, ⟨_, p7⟩, f7, hsb, hsk⟩ := st8 Q3.out (.int .i64 c.k) (.string ⟨c.nm.toArray⟩) (.string ⟨c.tx.toArray⟩) (.slice a3 c.pre.length c3) (.slice a4 c.sp.length c4) (.slice a5 c.ns.length c5) (.slice a6 c.kids.length c6) (.int .i64 c.p)
    have HSB := hide hsb
    have KQ := hide hsk
    clear hsb hsk
    go_wp2
    clear p0 f0 p1 f1 p2 f2 p3 f3 p4 f4 p5 f5 p6 f6 p7 f7
    generalize ((((((((w3.setCell ⟨Q, 0, none⟩ (.int .i64 c.k)).setCell ⟨Q, 1, none⟩ (.string ⟨c.nm.toArray⟩)).setCell ⟨Q, 2, none⟩ (.string ⟨c.tx.toArray⟩)).setCell ⟨Q, 3, none⟩ (.slice a3 c.pre.length c3)).setCell ⟨Q, 4, none⟩ (.slice a4 c.sp.length c4)).setCell ⟨Q, 5, none⟩ (.slice a5 c.ns.length c5)).setCell ⟨Q, 6, none⟩ (.slice a6 c.kids.length c6)).setCell ⟨Q, 7, none⟩ (.int .i64 c.p)) = w9 at *
    obtain ⟨q0, q1, q2, q3, q4, q5, q6, q7⟩ := ld8 HSB.out
    refine bodyPost_ret (by simp [results, Tryz.results77, go_sem, q0, q1, q2, q3, q4, q5, q6, q7]; try rfl) rfl ?_
    refine PostC.okI (by first | exact HXA.out | rfl) rfl (C3.out.frame KQ.out (fun k hk => ?_) ?_) HND.out (R3.out.kept KQ.out ?_ ?_) (K3.out.fin KQ.out ?_)
    · have := HS2.out
      rw [hk]
      exact this
    · have := HS2.out
      have := HQE.out
      omega
    · have := HGL.out
      show ¬ rp = Q
      omega
    · have := HGL.out
      show ¬ g = Q
      omega
    · have := HQE.out
      omega
set_option maxRecDepth 100000 in
set_option maxHeartbeats 4000000 in
theorem cond_at2 {rbase rp g cap : Nat} {Ts : List Tk} {i : Nat} {w : World} (x : PR CT) (HC : ∀ V : World, RdA V rbase rp g cap Ts i → Calls Tryz.prog 118 #[.pointer (some ⟨rp, 0, none⟩), .agg #[.string ⟨#[110, 111, 116]⟩, .int .i64 4, .int .i64 2]] V (PostC rbase rp g cap Ts V x)) (hR : RdA w rbase rp g cap Ts i) :
    Calls Tryz.prog 77 #[.pointer (some ⟨rp, 0, none⟩), .int .i64 2] w (PostC rbase rp g cap Ts w x) := by
  have HCC := hide HC
  obtain ⟨Q, hQ⟩ : ∃ Q, Q = w.heap.size := ⟨_, rfl⟩
  obtain ⟨W, hW⟩ : ∃ W, W = w.alloc (.cells #[.int .i64 0, .string ⟨#[]⟩, .string ⟨#[]⟩, .slice none 0 0, .slice none 0 0, .slice none 0 0, .slice none 0 0, .int .i64 0] 60) := ⟨_, rfl⟩
  have X0 := hide (show Below w.heap.size w W by rw [hW]; exact al (Below.refl _ _) _)
  have Q0 := hide (show W.heap[Q]? = some (.cells #[.int .i64 0, .string ⟨#[]⟩, .string ⟨#[]⟩, .slice none 0 0, .slice none 0 0, .slice none 0 0, .slice none 0 0, .int .i64 0] 60 (0, 0)) by rw [hW, hQ]; exact heap_alloc_new w _)
  have R0 := hide (hR.below X0.out)
  have HQE := hide hQ
  have HGL : Hid (rp < Q ∧ g < Q) := by have := hR.gl; unfold Hid; omega
  have HO := hide (operators_any W)
  clear HC hR
  go_enter Tryz.func77, Tryz.ntmps77
  go_upto_region 1 with fail
  rw [← hQ, ← hW]
  clear hQ hW
  have nQ : Q ≠ rp := by have := HGL.out; omega
  go_upto_region 2 with (go_at_call 116; refine HO.out.mono ?_; rintro e w1 ⟨rfl, x1⟩; have X1 := hide x1; clear x1)
  have X2 := hide (bt X0.out (bt X1.out (show Below w1.heap.size w1 (w1.alloc (.cells #[.string ⟨#[111, 114]⟩, .int .i64 6, .int .i64 1, .string ⟨#[97, 110, 100]⟩, .int .i64 5, .int .i64 2, .string ⟨#[110, 111, 116]⟩, .int .i64 4, .int .i64 2] 152)) from al (Below.refl _ _) _) (Nat.le_refl _)) (Nat.le_refl _))
  have X12 := hide (bt X1.out (show Below w1.heap.size w1 (w1.alloc (.cells #[.string ⟨#[111, 114]⟩, .int .i64 6, .int .i64 1, .string ⟨#[97, 110, 100]⟩, .int .i64 5, .int .i64 2, .string ⟨#[110, 111, 116]⟩, .int .i64 4, .int .i64 2] 152)) from al (Below.refl _ _) _) (Nat.le_refl _))
  have T2 := hide (heap_alloc_new w1 (.cells #[.string ⟨#[111, 114]⟩, .int .i64 6, .int .i64 1, .string ⟨#[97, 110, 100]⟩, .int .i64 5, .int .i64 2, .string ⟨#[110, 111, 116]⟩, .int .i64 4, .int .i64 2] 152))
  obtain ⟨T, hT⟩ : ∃ T, T = w1.heap.size := ⟨_, rfl⟩
  rw [← hT] at T2
  rw [← hT]
  have R2 := hide (R0.out.below X12.out)
  have Q2 := hide ((X12.out.block Q (lt_of_block Q0.out)).trans Q0.out)
  clear hT X12 X1 R0 Q0 X0 HO
  generalize w1.alloc (.cells #[.string ⟨#[111, 114]⟩, .int .i64 6, .int .i64 1, .string ⟨#[97, 110, 100]⟩, .int .i64 5, .int .i64 2, .string ⟨#[110, 111, 116]⟩, .int .i64 4, .int .i64 2] 152) = w2 at *
  have q0 : w2.cell? ⟨T, 0, none⟩ = #[.string ⟨#[111, 114]⟩, .int .i64 6, .int .i64 1, .string ⟨#[97, 110, 100]⟩, .int .i64 5, .int .i64 2, .string ⟨#[110, 111, 116]⟩, .int .i64 4, .int .i64 2][0]? := by rw [cell_of_row _ _ _ _ _ _ T2.out]
  have q1 : w2.cell? ⟨T, 1, none⟩ = #[.string ⟨#[111, 114]⟩, .int .i64 6, .int .i64 1, .string ⟨#[97, 110, 100]⟩, .int .i64 5, .int .i64 2, .string ⟨#[110, 111, 116]⟩, .int .i64 4, .int .i64 2][1]? := by rw [cell_of_row _ _ _ _ _ _ T2.out]
  have q2 : w2.cell? ⟨T, 2, none⟩ = #[.string ⟨#[111, 114]⟩, .int .i64 6, .int .i64 1, .string ⟨#[97, 110, 100]⟩, .int .i64 5, .int .i64 2, .string ⟨#[110, 111, 116]⟩, .int .i64 4, .int .i64 2][2]? := by rw [cell_of_row _ _ _ _ _ _ T2.out]
  have q3 : w2.cell? ⟨T, 3, none⟩ = #[.string ⟨#[111, 114]⟩, .int .i64 6, .int .i64 1, .string ⟨#[97, 110, 100]⟩, .int .i64 5, .int .i64 2, .string ⟨#[110, 111, 116]⟩, .int .i64 4, .int .i64 2][3]? := by rw [cell_of_row _ _ _ _ _ _ T2.out]
  have q4 : w2.cell? ⟨T, 4, none⟩ = #[.string ⟨#[111, 114]⟩, .int .i64 6, .int .i64 1, .string ⟨#[97, 110, 100]⟩, .int .i64 5, .int .i64 2, .string ⟨#[110, 111, 116]⟩, .int .i64 4, .int .i64 2][4]? := by rw [cell_of_row _ _ _ _ _ _ T2.out]
  have q5 : w2.cell? ⟨T, 5, none⟩ = #[.string ⟨#[111, 114]⟩, .int .i64 6, .int .i64 1, .string ⟨#[97, 110, 100]⟩, .int .i64 5, .int .i64 2, .string ⟨#[110, 111, 116]⟩, .int .i64 4, .int .i64 2][5]? := by rw [cell_of_row _ _ _ _ _ _ T2.out]
  have q6 : w2.cell? ⟨T, 6, none⟩ = #[.string ⟨#[111, 114]⟩, .int .i64 6, .int .i64 1, .string ⟨#[97, 110, 100]⟩, .int .i64 5, .int .i64 2, .string ⟨#[110, 111, 116]⟩, .int .i64 4, .int .i64 2][6]? := by rw [cell_of_row _ _ _ _ _ _ T2.out]
  have q7 : w2.cell? ⟨T, 7, none⟩ = #[.string ⟨#[111, 114]⟩, .int .i64 6, .int .i64 1, .string ⟨#[97, 110, 100]⟩, .int .i64 5, .int .i64 2, .string ⟨#[110, 111, 116]⟩, .int .i64 4, .int .i64 2][7]? := by rw [cell_of_row _ _ _ _ _ _ T2.out]
  have q8 : w2.cell? ⟨T, 8, none⟩ = #[.string ⟨#[111, 114]⟩, .int .i64 6, .int .i64 1, .string ⟨#[97, 110, 100]⟩, .int .i64 5, .int .i64 2, .string ⟨#[110, 111, 116]⟩, .int .i64 4, .int .i64 2][8]? := by rw [cell_of_row _ _ _ _ _ _ T2.out]
  simp at q0 q1 q2 q3 q4 q5 q6 q7 q8
  have HI := hide (HCC.out w2 R2.out)
  clear HCC
  go_wp2_with (fail)
  refine HI.out.mono ?_
  clear q0 q1 q2 q3 q4 q5 q6 q7 q8
  intro e w3 hp
  cases hxa : x with
  | out => rw [hxa] at hp; exact absurd hp (fun h => h)
  | bad e0 p =>
    rw [hxa] at hp
    obtain ⟨he, k3⟩ := hp
    unfold pan at he
    subst he
    exact ⟨rfl, PostC.badI (by first | exact hxa | rfl) rfl ((Kept.of_below X2.out).trans k3)⟩
  | ok c j =>
    have HXA := hide hxa
    rw [hxa] at hp
    obtain ⟨⟨vs, bs, rfl, hct, hnd⟩, r3, k3⟩ := hp
    obtain ⟨a3, c3, a4, c4, a5, c5, a6, c6, rfl⟩ := hct.eight
    have C3 := hide hct
    have HND := hide hnd
    have R3 := hide r3
    have Q3 := hide ((k3.block Q (lt_of_block Q2.out) nQ).trans Q2.out)
    have K3 := hide ((Kept.of_below (F := fun k => k = rp) X2.out).trans k3)
    have HS2 : Hid (Q < w2.heap.size) := lt_of_block Q2.out
    clear hxa hct hnd r3 k3 HI R2 Q2 X2 T2
    obtain ⟨⟨_, p0⟩, f0, ⟨_, p1⟩, f1, ⟨_, p2⟩, f2, ⟨_, p3⟩, f3, ⟨_, p4⟩, f4, ⟨_, p5⟩, f5, ⟨_, p6⟩, f6, ⟨_, p7⟩, f7, hsb, hsk⟩ := st8 Q3.out (.int .i64 c.k) (.string ⟨c.nm.toArray⟩) (.string ⟨c.tx.toArray⟩) (.slice a3 c.pre.length c3) (.slice a4 c.sp.length c4) (.slice a5 c.ns.length c5) (.slice a6 c.kids.length c6) (.int .i64 c.p)
    have HSB := hide hsb
    have KQ := hide hsk
    clear hsb hsk
    go_wp2
    clear p0 f0 p1 f1 p2 f2 p3 f3 p4 f4 p5 f5 p6 f6 p7 f7
    generalize ((((((((w3.setCell ⟨Q, 0, none⟩ (.int .i64 c.k)).setCell ⟨Q, 1, none⟩ (.string ⟨c.nm.toArray⟩)).setCell ⟨Q, 2, none⟩ (.string ⟨c.tx.toArray⟩)).setCell ⟨Q, 3, none⟩ (.slice a3 c.pre.length c3)).setCell ⟨Q, 4, none⟩ (.slice a4 c.sp.length c4)).setCell ⟨Q, 5, none⟩ (.slice a5 c.ns.length c5)).setCell ⟨Q, 6, none⟩ (.slice a6 c.kids.length c6)).setCell ⟨Q, 7, none⟩ (.int .i64 c.p)) = w9 at *
    obtain ⟨q0, q1, q2, q3, q4, q5, q6, q7⟩ := ld8 HSB.out
    refine bodyPost_ret (by simp [results, Tryz.results77, go_sem, q0, q1, q2, q3, q4, q5, q6, q7]; try rfl) rfl ?_
    refine PostC.okI (by first | exact HXA.out | rfl) rfl (C3.out.frame KQ.out (fun k hk => ?_) ?_) HND.out (R3.out.kept KQ.out ?_ ?_) (K3.out.fin KQ.out ?_)
    · have := HS2.out
      rw [hk]
      exact this
    · have := HS2.out
      have := HQE.out
      omega
    · have := HGL.out
      show ¬ rp = Q
      omega
    · have := HGL.out
      show ¬ g = Q
      omega
    · have := HQE.out
      omega
set_option maxRecDepth 100000 in
set_option maxHeartbeats 4000000 in
theorem cond_at3 {rbase rp g cap : Nat} {Ts : List Tk} {i : Nat} {w : World} (x : PR CT) (HC : ∀ V : World, RdA V rbase rp g cap Ts i → Calls Tryz.prog 117 #[.pointer (some ⟨rp, 0, none⟩)] V (PostC rbase rp g cap Ts V x)) (hR : RdA w rbase rp g cap Ts i) :
    Calls Tryz.prog 77 #[.pointer (some ⟨rp, 0, none⟩), .int .i64 3] w (PostC rbase rp g cap Ts w x) := by
  have HCC := hide HC
  obtain ⟨Q, hQ⟩ : ∃ Q, Q = w.heap.size := ⟨_, rfl⟩
  obtain ⟨W, hW⟩ : ∃ W, W = w.alloc (.cells #[.int .i64 0, .string ⟨#[]⟩, .string ⟨#[]⟩, .slice none 0 0, .slice none 0 0, .slice none 0 0, .slice none 0 0, .int .i64 0] 60) := ⟨_, rfl⟩
  have X0 := hide (show Below w.heap.size w W by rw [hW]; exact al (Below.refl _ _) _)
  have Q0 := hide (show W.heap[Q]? = some (.cells #[.int .i64 0, .string ⟨#[]⟩, .string ⟨#[]⟩, .slice none 0 0, .slice none 0 0, .slice none 0 0, .slice none 0 0, .int .i64 0] 60 (0, 0)) by rw [hW, hQ]; exact heap_alloc_new w _)
  have R0 := hide (hR.below X0.out)
  have HQE := hide hQ
  have HGL : Hid (rp < Q ∧ g < Q) := by have := hR.gl; unfold Hid; omega
  have HO := hide (operators_any W)
  clear HC hR
  go_enter Tryz.func77, Tryz.ntmps77
  go_upto_region 1 with fail
  rw [← hQ, ← hW]
  clear hQ hW
  have nQ : Q ≠ rp := by have := HGL.out; omega
  go_upto_region 2 with (go_at_call 116; refine HO.out.mono ?_; rintro e w1 ⟨rfl, x1⟩; have X1 := hide x1; clear x1)
  have X2 := hide (bt X0.out (bt X1.out (show Below w1.heap.size w1 (w1.alloc (.cells #[.string ⟨#[111, 114]⟩, .int .i64 6, .int .i64 1, .string ⟨#[97, 110, 100]⟩, .int .i64 5, .int .i64 2, .string ⟨#[110, 111, 116]⟩, .int .i64 4, .int .i64 2] 152)) from al (Below.refl _ _) _) (Nat.le_refl _)) (Nat.le_refl _))
  have X12 := hide (bt X1.out (show Below w1.heap.size w1 (w1.alloc (.cells #[.string ⟨#[111, 114]⟩, .int .i64 6, .int .i64 1, .string ⟨#[97, 110, 100]⟩, .int .i64 5, .int .i64 2, .string ⟨#[110, 111, 116]⟩, .int .i64 4, .int .i64 2] 152)) from al (Below.refl _ _) _) (Nat.le_refl _))
  have T2 := hide (heap_alloc_new w1 (.cells #[.string ⟨#[111, 114]⟩, .int .i64 6, .int .i64 1, .string ⟨#[97, 110, 100]⟩, .int .i64 5, .int .i64 2, .string ⟨#[110, 111, 116]⟩, .int .i64 4, .int .i64 2] 152))
  obtain ⟨T, hT⟩ : ∃ T, T = w1.heap.size := ⟨_, rfl⟩
  rw [← hT] at T2
  rw [← hT]
  have R2 := hide (R0.out.below X12.out)
  have Q2 := hide ((X12.out.block Q (lt_of_block Q0.out)).trans Q0.out)
  clear hT X12 X1 R0 Q0 X0 HO
  generalize w1.alloc (.cells #[.string ⟨#[111, 114]⟩, .int .i64 6, .int .i64 1, .string ⟨#[97, 110, 100]⟩, .int .i64 5, .int .i64 2, .string ⟨#[110, 111, 116]⟩, .int .i64 4, .int .i64 2] 152) = w2 at *
  have q0 : w2.cell? ⟨T, 0, none⟩ = #[.string ⟨#[111, 114]⟩, .int .i64 6, .int .i64 1, .string ⟨#[97, 110, 100]⟩, .int .i64 5, .int .i64 2, .string ⟨#[110, 111, 116]⟩, .int .i64 4, .int .i64 2][0]? := by rw [cell_of_row _ _ _ _ _ _ T2.out]
  have q1 : w2.cell? ⟨T, 1, none⟩ = #[.string ⟨#[111, 114]⟩, .int .i64 6, .int .i64 1, .string ⟨#[97, 110, 100]⟩, .int .i64 5, .int .i64 2, .string ⟨#[110, 111, 116]⟩, .int .i64 4, .int .i64 2][1]? := by rw [cell_of_row _ _ _ _ _ _ T2.out]
  have q2 : w2.cell? ⟨T, 2, none⟩ = #[.string ⟨#[111, 114]⟩, .int .i64 6, .int .i64 1, .string ⟨#[97, 110, 100]⟩, .int .i64 5, .int .i64 2, .string ⟨#[110, 111, 116]⟩, .int .i64 4, .int .i64 2][2]? := by rw [cell_of_row _ _ _ _ _ _ T2.out]
  have q3 : w2.cell? ⟨T, 3, none⟩ = #[.string ⟨#[111, 114]⟩, .int .i64 6, .int .i64 1, .string ⟨#[97, 110, 100]⟩, .int .i64 5, .int .i64 2, .string ⟨#[110, 111, 116]⟩, .int .i64 4, .int .i64 2][3]? := by rw [cell_of_row _ _ _ _ _ _ T2.out]
  have q4 : w2.cell? ⟨T, 4, none⟩ = #[.string ⟨#[111, 114]⟩, .int .i64 6, .int .i64 1, .string ⟨#[97, 110, 100]⟩, .int .i64 5, .int .i64 2, .string ⟨#[110, 111, 116]⟩, .int .i64 4, .int .i64 2][4]? := by rw [cell_of_row _ _ _ _ _ _ T2.out]
  have q5 : w2.cell? ⟨T, 5, none⟩ = #[.string ⟨#[111, 114]⟩, .int .i64 6, .int .i64 1, .string ⟨#[97, 110, 100]⟩, .int .i64 5, .int .i64 2, .string ⟨#[110, 111, 116]⟩, .int .i64 4, .int .i64 2][5]? := by rw [cell_of_row _ _ _ _ _ _ T2.out]
  have q6 : w2.cell? ⟨T, 6, none⟩ = #[.string ⟨#[111, 114]⟩, .int .i64 6, .int .i64 1, .string ⟨#[97, 110, 100]⟩, .int .i64 5, .int .i64 2, .string ⟨#[110, 111, 116]⟩, .int .i64 4, .int .i64 2][6]? := by rw [cell_of_row _ _ _ _ _ _ T2.out]
  have q7 : w2.cell? ⟨T, 7, none⟩ = #[.string ⟨#[111, 114]⟩, .int .i64 6, .int .i64 1, .string ⟨#[97, 110, 100]⟩, .int .i64 5, .int .i64 2, .string ⟨#[110, 111, 116]⟩, .int .i64 4, .int .i64 2][7]? := by rw [cell_of_row _ _ _ _ _ _ T2.out]
  have q8 : w2.cell? ⟨T, 8, none⟩ = #[.string ⟨#[111, 114]⟩, .int .i64 6, .int .i64 1, .string ⟨#[97, 110, 100]⟩, .int .i64 5, .int .i64 2, .string ⟨#[110, 111, 116]⟩, .int .i64 4, .int .i64 2][8]? := by rw [cell_of_row _ _ _ _ _ _ T2.out]
  simp at q0 q1 q2 q3 q4 q5 q6 q7 q8
  have HI := hide (HCC.out w2 R2.out)
  clear HCC
  go_wp2_with (fail)
  refine HI.out.mono ?_
  clear q0 q1 q2 q3 q4 q5 q6 q7 q8
  intro e w3 hp
  cases hxa : x with
  | out => rw [hxa] at hp; exact absurd hp (fun h => h)
  | bad e0 p =>
    rw [hxa] at hp
    obtain ⟨he, k3⟩ := hp
    unfold pan at he
    subst he
    exact ⟨rfl, PostC.badI (by first | exact hxa | rfl) rfl ((Kept.of_below X2.out).trans k3)⟩
  | ok c j =>
    have HXA := hide hxa
    rw [hxa] at hp
    obtain ⟨⟨vs, bs, rfl, hct, hnd⟩, r3, k3⟩ := hp
    obtain ⟨a3, c3, a4, c4, a5, c5, a6, c6, rfl⟩ := hct.eight
    have C3 := hide hct
    have HND := hide hnd
    have R3 := hide r3
    have Q3 := hide ((k3.block Q (lt_of_block Q2.out) nQ).trans Q2.out)
    have K3 := hide ((Kept.of_below (F := fun k => k = rp) X2.out).trans k3)
    have HS2 : Hid (Q < w2.heap.size) := lt_of_block Q2.out
    clear hxa hct hnd r3 k3 HI R2 Q2 X2 T2
    obtain ⟨⟨_, p0⟩, f0, ⟨_, p1⟩, f1, ⟨_, p2⟩, f2, ⟨_, p3⟩, f3, ⟨_, p4⟩, f4, ⟨_, p5⟩, f5, ⟨_, p6⟩, f6, ⟨_, p7⟩, f7, hsb, hsk⟩ := st8 Q3.out (.int .i64 c.k) (.string ⟨c.nm.toArray⟩) (.string ⟨c.tx.toArray⟩) (.slice a3 c.pre.length c3) (.slice a4 c.sp.length c4) (.slice a5 c.ns.length c5) (.slice a6 c.kids.length c6) (.int .i64 c.p)
    have HSB := hide hsb
    have KQ := hide hsk
    clear hsb hsk
    go_wp2
    clear p0 f0 p1 f1 p2 f2 p3 f3 p4 f4 p5 f5 p6 f6 p7 f7
    generalize ((((((((w3.setCell ⟨Q, 0, none⟩ (.int .i64 c.k)).setCell ⟨Q, 1, none⟩ (.string ⟨c.nm.toArray⟩)).setCell ⟨Q, 2, none⟩ (.string ⟨c.tx.toArray⟩)).setCell ⟨Q, 3, none⟩ (.slice a3 c.pre.length c3)).setCell ⟨Q, 4, none⟩ (.slice a4 c.sp.length c4)).setCell ⟨Q, 5, none⟩ (.slice a5 c.ns.length c5)).setCell ⟨Q, 6, none⟩ (.slice a6 c.kids.length c6)).setCell ⟨Q, 7, none⟩ (.int .i64 c.p)) = w9 at *
    obtain ⟨q0, q1, q2, q3, q4, q5, q6, q7⟩ := ld8 HSB.out
    refine bodyPost_ret (by simp [results, Tryz.results77, go_sem, q0, q1, q2, q3, q4, q5, q6, q7]; try rfl) rfl ?_
    refine PostC.okI (by first | exact HXA.out | rfl) rfl (C3.out.frame KQ.out (fun k hk => ?_) ?_) HND.out (R3.out.kept KQ.out ?_ ?_) (K3.out.fin KQ.out ?_)
    · have := HS2.out
      rw [hk]
      exact this
    · have := HS2.out
      have := HQE.out
      omega
    · have := HGL.out
      show ¬ rp = Q
      omega
    · have := HGL.out
      show ¬ g = Q
      omega
    · have := HQE.out
      omega
/-- A condition is read as the pure reader reads it. -/
theorem cond_any {rbase rp g cap : Nat} {Ts : List Tk} : ∀ (f place i : Nat) (w : World), place ≤ 3 → i ≤ Ts.length → 4 * (Ts.length - i) + (3 - place) + 2 ≤ f → RdA w rbase rp g cap Ts i → Calls Tryz.prog 77 #[.pointer (some ⟨rp, 0, none⟩), .int .i64 (place : Nat)] w (PostC rbase rp g cap Ts w (condP Ts f place i))
  | 0, _, _, _, _, _, h, _ => by omega
  | f + 1, 0, i, w, _, hi, hf, hR => by
    refine cond_at0 _ (fun V hV => ?_) hR
    rw [condP_zero]
    exact row_any wOr 6 1 (by decide) (by omega) (fun l V h1 h2 h3 => cond_any f 1 l V (by decide) h1 h2 h3) hV
  | f + 1, 1, i, w, _, hi, hf, hR => by
    refine cond_at1 _ (fun V hV => ?_) hR
    rw [condP_one]
    exact row_any wAnd 5 2 (by decide) (by omega) (fun l V h1 h2 h3 => cond_any f 2 l V (by decide) h1 h2 h3) hV
  | f + 1, 2, i, w, _, hi, hf, hR => by
    refine cond_at2 _ (fun V hV => ?_) hR
    exact not_any (by omega) (fun l V h1 h2 h3 => cond_any f 2 l V (by decide) h1 (by omega) h3) (fun l V h1 h2 h3 => cond_any f 3 l V (by decide) h1 (by omega) h3) hV
  | f + 1, 3, i, w, _, hi, hf, hR => by
    refine cond_at3 _ (fun V hV => ?_) hR
    exact first_any (by omega) (fun l V h1 h2 h3 => cond_any f 0 l V (by decide) h1 (by omega) h3) hV
  | f + 1, n + 4, i, w, h, _, _, _ => by omega
end Go.Proofs.YtlmhofjiobmodaaGreatDoor
