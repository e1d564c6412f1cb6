/-
  halvesOf by its contract. No condition.
-/
import Derived.Test.YtnfdjbaafiifnaaP13
import Derived.Deep.RegionHeld3
namespace Go.Proofs.Ytnfdjbaafiifnaa
open Go.RowKit Go.Lib

theorem push_get (w : World) (o : Obj) {k : Nat} (hk : k < w.heap.size) : (w.alloc o).heap[k]? = w.heap[k]? := (al (Below.refl _ w) o).block k hk
set_option maxRecDepth 100000 in
set_option maxHeartbeats 10000000 in
theorem halvesOf_any (a k : Nat) (ha : a ≤ 4294967296) (hk : k ≤ 31) (w : World) : Calls Try.prog 55 #[.agg #[.int .i64 a, .int .i64 k]] w fun e w' => e = .returned (.tuple #[.agg #[.int .i64 a, .int .i64 (k + 1 : Nat)], .agg #[.int .i64 (a + 2 ^ (31 - k) : Nat), .int .i64 (k + 1 : Nat)]]) ∧ Below w.heap.size w w' := by
  obtain ⟨s, hs⟩ : ∃ s, s = 31 - k := ⟨_, rfl⟩
  have hP : 2 ^ s ≤ 2147483648 := Nat.pow_le_pow_right (n := 2) (by decide) (show s ≤ 31 by omega)
  have hpw : IntKind.i64.wrap ((2 : Int) ^ min s 64) = ((2 ^ s : Nat) : Int) := by
    have hs2 : s ≤ 31 := by omega
    rw [Nat.min_eq_left (by omega), show ((2 : Int) ^ s) = ((2 ^ s : Nat) : Int) by simp]
    simp only [IntKind.wrap, IntKind.bits, IntKind.signed]
    generalize 2 ^ s = P at *
    simp
    omega
  rw [← hs]
  generalize 2 ^ s = P at *
  have hsum : IntKind.i64.wrap ((a : Int) + (P : Int)) = ((a + P : Nat) : Int) := by simp [IntKind.wrap, IntKind.bits, IntKind.signed]; omega
  have hwr : IntKind.i64.wrap (32 - ((k : Int) + 1)) = (s : Nat) := by simp [IntKind.wrap, IntKind.bits, IntKind.signed]; omega
  have hX : Below w.heap.size w (((w.alloc (.cells #[.int .i64 a, .int .i64 k] 42)).alloc (.cells #[.int .i64 0, .int .i64 0] 42)).alloc (.cells #[.int .i64 0, .int .i64 0] 42)) := al (al (al (Below.refl _ _) _) _) _
  have b1 : (((w.alloc (.cells #[.int .i64 a, .int .i64 k] 42)).alloc (.cells #[.int .i64 0, .int .i64 0] 42)).alloc (.cells #[.int .i64 0, .int .i64 0] 42)).heap[w.heap.size + 1]? = some (.cells #[.int .i64 0, .int .i64 0] 42 (0, 0)) := by
    rw [push_get _ _ (by simp)]
    have := heap_alloc_new (w.alloc (.cells #[.int .i64 a, .int .i64 k] 42)) (.cells #[.int .i64 0, .int .i64 0] 42)
    rwa [show (w.alloc (.cells #[.int .i64 a, .int .i64 k] 42)).heap.size = w.heap.size + 1 by simp] at this
  have b2 := heap_alloc_new ((w.alloc (.cells #[.int .i64 a, .int .i64 k] 42)).alloc (.cells #[.int .i64 0, .int .i64 0] 42)) (.cells #[.int .i64 0, .int .i64 0] 42)
  rw [show ((w.alloc (.cells #[.int .i64 a, .int .i64 k] 42)).alloc (.cells #[.int .i64 0, .int .i64 0] 42)).heap.size = w.heap.size + 1 + 1 by simp] at b2
  have q0 : (((w.alloc (.cells #[.int .i64 a, .int .i64 k] 42)).alloc (.cells #[.int .i64 0, .int .i64 0] 42)).alloc (.cells #[.int .i64 0, .int .i64 0] 42)).cell? ⟨w.heap.size, 0, none⟩ = some (.int .i64 a) := by
    rw [cell_of_row _ w.heap.size 0 _ _ _ ((push_get _ _ (by simp; omega)).trans ((push_get _ _ (by simp)).trans (heap_alloc_new w (.cells #[.int .i64 a, .int .i64 k] 42))))]
    rfl
  have HX := hide hX
  have B1 := hide b1
  have B2 := hide b2
  clear hX b1 b2 hs
  go_enter Try.func55, Try.ntmps55
  go_wp2
  generalize ((w.alloc (.cells #[.int .i64 a, .int .i64 k] 42)).alloc (.cells #[.int .i64 0, .int .i64 0] 42)).alloc (.cells #[.int .i64 0, .int .i64 0] 42) = W at *
  have r0 : W.cell? ⟨w.heap.size + 1, 0, none⟩ = some (.int .i64 0) := by rw [cell_of_row W (w.heap.size + 1) 0 _ _ _ B1.out]; rfl
  have r1 : W.cell? ⟨w.heap.size + 1, 1, none⟩ = some (.int .i64 0) := by rw [cell_of_row W (w.heap.size + 1) 1 _ _ _ B1.out]; rfl
  have f0 := frozen_of_row W (w.heap.size + 1) 0 _ _ B1.out
  have f1 := frozen_of_row W (w.heap.size + 1) 1 _ _ B1.out
  have r2 : W.cell? ⟨w.heap.size + 1 + 1, 0, none⟩ = some (.int .i64 0) := by rw [cell_of_row W (w.heap.size + 1 + 1) 0 _ _ _ B2.out]; rfl
  have r3 : W.cell? ⟨w.heap.size + 1 + 1, 1, none⟩ = some (.int .i64 0) := by rw [cell_of_row W (w.heap.size + 1 + 1) 1 _ _ _ B2.out]; rfl
  have f2 := frozen_of_row W (w.heap.size + 1 + 1) 0 _ _ B2.out
  have f3 := frozen_of_row W (w.heap.size + 1 + 1) 1 _ _ B2.out
  go_region_held3 (fun w' => w'.cell? ⟨w.heap.size, 0, none⟩ = some (.int .i64 (a : Int))) (first | assumption | (simp [go_sem, *]; done)) (fail)
  clear q0 r0 r1 r2 r3 f0 f1 f2 f3
  have z1 := block_setCell (block_setCell B1.out 0 (.int .i64 (a : Int))) 1 (.int .i64 ((k : Int) + 1))
  have z2 := (Below.heap_setCell (W.setCell ⟨w.heap.size + 1, 0, none⟩ (.int .i64 (a : Int))) ⟨w.heap.size + 1, 1, none⟩ (.int .i64 ((k : Int) + 1)) (w.heap.size + 1 + 1) (by simp)).trans ((Below.heap_setCell W ⟨w.heap.size + 1, 0, none⟩ (.int .i64 (a : Int)) (w.heap.size + 1 + 1) (by simp)).trans B2.out)
  have z3 := ((HX.out.setCell (p := ⟨w.heap.size + 1, 0, none⟩) (by simp) (.int .i64 (a : Int))).setCell (p := ⟨w.heap.size + 1, 1, none⟩) (by simp) (.int .i64 ((k : Int) + 1)))
  generalize (W.setCell ⟨w.heap.size + 1, 0, none⟩ (.int .i64 (a : Int))).setCell ⟨w.heap.size + 1, 1, none⟩ (.int .i64 ((k : Int) + 1)) = W2 at *
  have y1 := (Below.heap_setCell (W2.setCell ⟨w.heap.size + 1 + 1, 0, none⟩ (.int .i64 ((a : Int) + (P : Int)))) ⟨w.heap.size + 1 + 1, 1, none⟩ (.int .i64 ((k : Int) + 1)) (w.heap.size + 1) (by simp)).trans ((Below.heap_setCell W2 ⟨w.heap.size + 1 + 1, 0, none⟩ (.int .i64 ((a : Int) + (P : Int))) (w.heap.size + 1) (by simp)).trans z1)
  have y2 := block_setCell (block_setCell z2 0 (.int .i64 ((a : Int) + (P : Int)))) 1 (.int .i64 ((k : Int) + 1))
  have y3 := ((z3.setCell (p := ⟨w.heap.size + 1 + 1, 0, none⟩) (by simp; omega) (.int .i64 ((a : Int) + (P : Int)))).setCell (p := ⟨w.heap.size + 1 + 1, 1, none⟩) (by simp; omega) (.int .i64 ((k : Int) + 1))).drew
  generalize (W2.setCell ⟨w.heap.size + 1 + 1, 0, none⟩ (.int .i64 ((a : Int) + (P : Int)))).setCell ⟨w.heap.size + 1 + 1, 1, none⟩ (.int .i64 ((k : Int) + 1)) = W3 at *
  have r0 : W3.cell? ⟨w.heap.size + 1, 0, none⟩ = some (.int .i64 (a : Int)) := by rw [cell_of_row W3 (w.heap.size + 1) 0 _ _ _ y1]; rfl
  have r1 : W3.cell? ⟨w.heap.size + 1, 1, none⟩ = some (.int .i64 ((k : Int) + 1)) := by rw [cell_of_row W3 (w.heap.size + 1) 1 _ _ _ y1]; rfl
  have r2 : W3.cell? ⟨w.heap.size + 1 + 1, 0, none⟩ = some (.int .i64 ((a : Int) + (P : Int))) := by rw [cell_of_row W3 (w.heap.size + 1 + 1) 0 _ _ _ y2]; rfl
  have r3 : W3.cell? ⟨w.heap.size + 1 + 1, 1, none⟩ = some (.int .i64 ((k : Int) + 1)) := by rw [cell_of_row W3 (w.heap.size + 1 + 1) 1 _ _ _ y2]; rfl
  have Y3 := hide y3
  clear y1 y2 y3 z1 z2 z3
  go_wp2
  refine bodyPost_ret (by simp [results, Try.results55, go_sem, r0, r1, r2, r3]; try rfl) rfl ?_
  exact ⟨rfl, Y3.out⟩
end Go.Proofs.Ytnfdjbaafiifnaa
