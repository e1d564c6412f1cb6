/-
  Range by its contract. No condition.
-/
import Derived.Test.YtnfdjbaafiifnaaP07
import Derived.Deep.RegionHeld3
namespace Go.Proofs.Ytnfdjbaafiifnaa
open Go.RowKit Go.Lib
theorem block_setCell {w : World} {b : Nat} {cs : Array Value} {t : TypeId} {fr : Nat × Nat} (h : w.heap[b]? = some (.cells cs t fr)) (j : Nat) (u : Value) : (w.setCell ⟨b, j, none⟩ u).heap[b]? = some (.cells (cs.set! j u) t fr) := by
  have hlt := lt_of_block h
  have h' : w.heap[b] = .cells cs t fr := by simpa [Array.getElem?_eq_getElem hlt] using h
  show (w.heap.modify b _)[b]? = _
  rw [Array.getElem?_eq_getElem (by simpa using hlt), Array.getElem_modify_self, h']
  rfl
def pprE (a k : Int) : Int := if Pfx a k then 0 else 1
def rngH (a k : Int) : Int := if Pfx a k then a + 2 ^ (32 - k.toNat) - 1 else 0
def rngL (a k : Int) : Int := if Pfx a k then a else 0
set_option maxRecDepth 100000 in
set_option maxHeartbeats 4000000 in
theorem range_any (a k : Int) (w : World) : Calls Try.prog 19 #[.agg #[.int .i64 a, .int .i64 k]] w fun e w' => e = .returned (.tuple #[.agg #[.int .i64 (rngL a k), .int .i64 (rngH a k)], .int .i64 (pprE a k)]) ∧ Below w.heap.size w w' := by
  have hB : Below w.heap.size w ((w.alloc (.cells #[.int .i64 a, .int .i64 k] 42)).alloc (.cells #[.int .i64 0, .int .i64 0] 58)) := al (al (Below.refl _ _) _) _
  have hr := fun w => right_any a k w
  have q0 : ((w.alloc (.cells #[.int .i64 a, .int .i64 k] 42)).alloc (.cells #[.int .i64 0, .int .i64 0] 58)).cell? ⟨w.heap.size, 0, none⟩ = some (.int .i64 a) := by simp
  have q1 : ((w.alloc (.cells #[.int .i64 a, .int .i64 k] 42)).alloc (.cells #[.int .i64 0, .int .i64 0] 58)).cell? ⟨w.heap.size, 1, none⟩ = some (.int .i64 k) := by simp
  have hws : w.heap.size + 1 < ((w.alloc (.cells #[.int .i64 a, .int .i64 k] 42)).alloc (.cells #[.int .i64 0, .int .i64 0] 58)).heap.size := by simp
  have b0 := heap_alloc_new (w.alloc (.cells #[.int .i64 a, .int .i64 k] 42)) (.cells #[.int .i64 0, .int .i64 0] 58)
  rw [show (w.alloc (.cells #[.int .i64 a, .int .i64 k] 42)).heap.size = w.heap.size + 1 by simp] at b0
  by_cases h : Pfx a k
  · have e1 : rngL a k = a := if_pos h
    have e2 : rngH a k = a + 2 ^ (32 - k.toNat) - 1 := if_pos h
    have e3 : pprE a k = 0 := if_pos h
    rw [decide_eq_true h] at hr
    rw [e1, e2, e3]
    clear e1 e2 e3
    obtain ⟨n, b, rfl, rfl, hb, hn, hm⟩ := h.nat
    have hl := fun w2 => last_any (n / 16777216 % 256) (n / 65536 % 256) (n / 256 % 256) (n % 256) b (by omega) (by omega) (by omega) (by omega) hb (by rw [W4_of n hn]; exact hm) w2
    rw [W4_of n hn] at hl
    have hpw : 2 ^ (32 - b) ≤ 4294967296 := Nat.pow_le_pow_right (n := 2) (by decide) (show 32 - b ≤ 32 by omega)
    have hpo : 0 < 2 ^ (32 - b) := Nat.pow_pos (by decide)
    clear h hm
    go_enter Try.func19, Try.ntmps19
    go_wp2_with (go_at_call 37; generalize (w.alloc (.cells #[.int .i64 (n : Int), .int .i64 (b : Int)] 42)).alloc (.cells #[.int .i64 0, .int .i64 0] 58) = W at *; refine (hr _).mono ?_; rintro e w1 ⟨rfl, x1⟩; have B1 := hide ((x1.block (w.heap.size + 1) hws).trans b0); have q2 := (x1.cell (p := ⟨w.heap.size, 0, none⟩) (Nat.lt_of_succ_lt hws)).trans q0; have q3 := (x1.cell (p := ⟨w.heap.size, 1, none⟩) (Nat.lt_of_succ_lt hws)).trans q1; have X1 := hide x1; clear x1 q0 q1 b0)
    have hw1 : w.heap.size + 1 < w1.heap.size := Nat.lt_of_lt_of_le hws X1.out.size
    have HB := hide hB
    clear hB hr
    go_region_held3 (fun w' => w'.cell? ⟨w.heap.size, 0, none⟩ = some (.int .i64 (n : Int)) ∧ w'.cell? ⟨w.heap.size, 1, none⟩ = some (.int .i64 (b : Int))) (first | assumption | (simp [go_sem, *]; done))
      (first
        | (go_at_call 38; refine (quadOf_any n _).mono ?_; rintro e w2 ⟨rfl, x2⟩; have g2 : w2.cell? ⟨w.heap.size, 0, none⟩ = some (.int .i64 (n : Int)) := ((x2.cell (p := ⟨w.heap.size, 0, none⟩) (Nat.lt_of_succ_lt hw1)).trans q2); have g3 : w2.cell? ⟨w.heap.size, 1, none⟩ = some (.int .i64 (b : Int)) := ((x2.cell (p := ⟨w.heap.size, 1, none⟩) (Nat.lt_of_succ_lt hw1)).trans q3); have y2 : Below w1.heap.size w1 w2 := ((Below.refl _ _).drew.trans x2); have X2 := hide y2; clear x2 y2)
        | (go_at_call 39; refine (hl w2).mono ?_; rintro e w3 ⟨⟨a', b', c', d', ⟨l1, l2, l3, l4⟩, rfl, h5⟩, x3⟩; have g4 : w3.cell? ⟨w.heap.size, 0, none⟩ = some (.int .i64 (n : Int)) := ((x3.cell (p := ⟨w.heap.size, 0, none⟩) (Nat.lt_of_lt_of_le (Nat.lt_of_succ_lt hw1) X2.out.size)).trans g2); have g5 : w3.cell? ⟨w.heap.size, 1, none⟩ = some (.int .i64 (b : Int)) := ((x3.cell (p := ⟨w.heap.size, 1, none⟩) (Nat.lt_of_lt_of_le (Nat.lt_of_succ_lt hw1) X2.out.size)).trans g3); have X3 := hide (bt X2.out x3 (Nat.le_refl _)); have H5 := hide h5; clear x3 h5)
        | (go_at_call 40; have hwd := word_any a' b' c' d' l1 l2 l3 l4 w3; rw [H5.out] at hwd; refine hwd.mono ?_; rintro e w4 ⟨rfl, x4⟩; have X4 := hide (bt X3.out x4 (Nat.le_refl _)); have B4 := hide ((X4.out.block (w.heap.size + 1) hw1).trans B1.out); have r0 : w4.cell? ⟨w.heap.size + 1, 0, none⟩ = some (.int .i64 0) := (by rw [cell_of_row w4 (w.heap.size + 1) 0 _ _ _ B4.out]; rfl); have r1 : w4.cell? ⟨w.heap.size + 1, 1, none⟩ = some (.int .i64 0) := (by rw [cell_of_row w4 (w.heap.size + 1) 1 _ _ _ B4.out]; rfl); have f0 := frozen_of_row w4 (w.heap.size + 1) 0 _ _ B4.out; have f1 := frozen_of_row w4 (w.heap.size + 1) 1 _ _ B4.out; have g6 : w4.cell? ⟨w.heap.size, 0, none⟩ = some (.int .i64 (n : Int)) := ((X4.out.cell (p := ⟨w.heap.size, 0, none⟩) (Nat.lt_of_succ_lt hw1)).trans q2); have g7 : w4.cell? ⟨w.heap.size, 1, none⟩ = some (.int .i64 (b : Int)) := ((X4.out.cell (p := ⟨w.heap.size, 1, none⟩) (Nat.lt_of_succ_lt hw1)).trans q3); clear x4))
    clear g2 g3 g4 g5 g6 g7 q2 q3 r0 r1 f0 f1
    go_wp2
    have ev : ((n + 2 ^ (32 - b) - 1 : Nat) : Int) = (n : Int) + 2 ^ (32 - (b : Int).toNat) - 1 := by
      rw [Int.toNat_natCast, Int.natCast_sub (by omega)]
      simp
    rw [← ev]
    have b2 := block_setCell (block_setCell B4.out 0 (.int .i64 (n : Int))) 1 (.int .i64 ((n + 2 ^ (32 - b) - 1 : Nat) : Int))
    have k2 : Below w.heap.size w ((w4.setCell ⟨w.heap.size + 1, 0, none⟩ (.int .i64 (n : Int))).setCell ⟨w.heap.size + 1, 1, none⟩ (.int .i64 ((n + 2 ^ (32 - b) - 1 : Nat) : Int))) := ((bt (bt HB.out X1.out (Nat.le_refl _)) X4.out (Nat.le_refl _)).setCell (by simp) _).setCell (by simp) _
    generalize (w4.setCell ⟨w.heap.size + 1, 0, none⟩ (.int .i64 (n : Int))).setCell ⟨w.heap.size + 1, 1, none⟩ (.int .i64 ((n + 2 ^ (32 - b) - 1 : Nat) : Int)) = W2 at *
    have r3 : W2.cell? ⟨w.heap.size + 1, 0, none⟩ = some (.int .i64 (n : Int)) := by rw [cell_of_row W2 (w.heap.size + 1) 0 _ _ _ b2]; rfl
    have r4 : W2.cell? ⟨w.heap.size + 1, 1, none⟩ = some (.int .i64 ((n + 2 ^ (32 - b) - 1 : Nat) : Int)) := by rw [cell_of_row W2 (w.heap.size + 1) 1 _ _ _ b2]; rfl
    refine bodyPost_ret (by simp [results, Try.results19, go_sem, r3, r4]; try rfl) rfl ?_
    exact ⟨rfl, k2⟩
  · have e1 : rngL a k = 0 := if_neg h
    have e2 : rngH a k = 0 := if_neg h
    have e3 : pprE a k = 1 := if_neg h
    rw [decide_eq_false h] at hr
    rw [e1, e2, e3]
    clear e1 e2 e3
    go_enter Try.func19, Try.ntmps19
    go_wp2_with (go_at_call 37; generalize (w.alloc (.cells #[.int .i64 a, .int .i64 k] 42)).alloc (.cells #[.int .i64 0, .int .i64 0] 58) = W at *; refine (hr _).mono ?_; rintro e w1 ⟨rfl, x1⟩; have B1 := hide ((x1.block (w.heap.size + 1) hws).trans b0); have r0 : w1.cell? ⟨w.heap.size + 1, 0, none⟩ = some (.int .i64 0) := (by rw [cell_of_row w1 (w.heap.size + 1) 0 _ _ _ B1.out]; rfl); have r1 : w1.cell? ⟨w.heap.size + 1, 1, none⟩ = some (.int .i64 0) := (by rw [cell_of_row w1 (w.heap.size + 1) 1 _ _ _ B1.out]; rfl); have f0 := frozen_of_row w1 (w.heap.size + 1) 0 _ _ B1.out; have f1 := frozen_of_row w1 (w.heap.size + 1) 1 _ _ B1.out; have X1 := hide x1; clear x1)
    have b2 := block_setCell (block_setCell B1.out 0 (.int .i64 0)) 1 (.int .i64 0)
    have k2 : Below w.heap.size w ((w1.setCell ⟨w.heap.size + 1, 0, none⟩ (.int .i64 0)).setCell ⟨w.heap.size + 1, 1, none⟩ (.int .i64 0)) := ((bt hB X1.out (Nat.le_refl _)).setCell (by simp) _).setCell (by simp) _
    generalize (w1.setCell ⟨w.heap.size + 1, 0, none⟩ (.int .i64 0)).setCell ⟨w.heap.size + 1, 1, none⟩ (.int .i64 0) = W2 at *
    have r3 : W2.cell? ⟨w.heap.size + 1, 0, none⟩ = some (.int .i64 0) := by rw [cell_of_row W2 (w.heap.size + 1) 0 _ _ _ b2]; rfl
    have r4 : W2.cell? ⟨w.heap.size + 1, 1, none⟩ = some (.int .i64 0) := by rw [cell_of_row W2 (w.heap.size + 1) 1 _ _ _ b2]; rfl
    refine bodyPost_ret (by simp [results, Try.results19, go_sem, r3, r4]; try rfl) rfl ?_
    exact ⟨rfl, k2⟩

end Go.Proofs.Ytnfdjbaafiifnaa
