/-
  Layer 3's own Size and Right of the document by their contracts. No condition.
-/
import Derived.Test.YtnfdjbaafiifnaaP08
namespace Go.Proofs.Ytnfdjbaafiifnaa
open Go.RowKit Go.Lib

theorem size_any (k : Nat) (hk : k ≤ 32) (w : World) : Calls Try.prog 46 #[.int .i64 k] w fun e w' => e = .returned (.int .i64 (2 ^ (32 - k) : Nat)) ∧ w' = w := by
  rcases k with _ | _ | _ | _ | _ | _ | _ | _ | _ | _ | _ | _ | _ | _ | _ | _ | _ | _ | _ | _ | _ | _ | _ | _ | _ | _ | _ | _ | _ | _ | _ | _ | _ | k
  all_goals first | (exfalso; omega) | skip
  all_goals
    clear hk
    try simp only [Nat.zero_add, Nat.reduceAdd]
    go_enter Try.func46, Try.ntmps46
    go_wp2
    go_ret
    exact ⟨rfl, rfl⟩
set_option maxRecDepth 100000 in
set_option maxHeartbeats 1000000 in
theorem refRight_any (a k : Int) (w : World) : Calls Try.prog 45 #[.agg #[.int .i64 a, .int .i64 k]] w fun e w' => e = .returned (.bool (decide (Pfx a k))) ∧ Below w.heap.size w w' := by
  have hB : Below w.heap.size w (w.alloc (.cells #[.int .i64 a, .int .i64 k] 42)) := al (Below.refl _ _) _
  have q0 : (w.alloc (.cells #[.int .i64 a, .int .i64 k] 42)).cell? ⟨w.heap.size, 0, none⟩ = some (.int .i64 a) := by simp
  have q1 : (w.alloc (.cells #[.int .i64 a, .int .i64 k] 42)).cell? ⟨w.heap.size, 1, none⟩ = some (.int .i64 k) := by simp
  have hws : w.heap.size < (w.alloc (.cells #[.int .i64 a, .int .i64 k] 42)).heap.size := by simp
  go_enter Try.func45, Try.ntmps45
  go_wp2
  generalize w.alloc (.cells #[.int .i64 a, .int .i64 k] 42) = W at *
  have HB := hide hB
  have HD : Hid (Below W.heap.size W W.drew) := (Below.refl _ _).drew
  clear hB
  have fin : ∀ (b : Bool) (w2 : World), decide (Pfx a k) = b → Below W.heap.size W w2 → Ending.returned (.bool b) = .returned (.bool (decide (Pfx a k))) ∧ Below w.heap.size w w2 := fun b w2 e x => ⟨by rw [e], bt HB.out x (Nat.le_refl _)⟩
  by_cases h1 : 0 ≤ k
  · have d1 : decide (0 ≤ k) = true := decide_eq_true h1
    by_cases h2 : k ≤ 32
    · have d2 : decide (k ≤ 32) = true := decide_eq_true h2
      by_cases h3 : 0 ≤ a
      · have d3 : decide (0 ≤ a) = true := decide_eq_true h3
        by_cases h4 : a ≤ 4294967295
        · have d4 : decide (a ≤ 4294967295) = true := decide_eq_true h4
          obtain ⟨n, rfl⟩ : ∃ n : Nat, a = n := ⟨a.toNat, by omega⟩
          obtain ⟨b, rfl⟩ : ∃ b : Nat, k = b := ⟨k.toNat, by omega⟩
          have hz := fun w => size_any b (by omega) w
          have hp : decide (Pfx (n : Int) (b : Int)) = (((n % 2 ^ (32 - b) : Nat) : Int) == 0) := by
            rw [Bool.eq_iff_iff, decide_eq_true_iff, beq_iff_eq]
            exact ⟨fun h => by have := h.2.2.2.2; simp only [Int.toNat_natCast] at this; rw [this]; rfl, fun h => ⟨h1, h2, h3, h4, by simp only [Int.toNat_natCast]; exact Int.ofNat_inj.1 h⟩⟩
          have hpos : 0 < 2 ^ (32 - b) := Nat.pow_pos (by decide)
          generalize 2 ^ (32 - b) = S at *
          have hm : (n : Int).tmod S = ((n % S : Nat) : Int) := by rw [Int.tmod_eq_emod_of_nonneg (by omega)]; omega
          have hS : ¬ S = 0 := by omega
          have hF := fun w2 => fin _ w2 hp
          clear fin hp
          generalize n % S = z at *
          refine wp_region_quiet (C := fun w' => Below W.heap.size W w') (by kernel_rfl) (by kernel_rfl) HD.out ?_
          refine QW.out (l := _ :: _) ?_
          iterate 23 (refine QW.take (by rfl) ?_; apply Exists.intro; refine ⟨fun w' hw' => ?_, ?_⟩; (· (have g0 := (hw'.cell (p := ⟨w.heap.size, 0, none⟩) hws).trans q0; have g1 := (hw'.cell (p := ⟨w.heap.size, 1, none⟩) hws).trans q1; go_simp; first | done | ((try simp only [d1, d2, d3, d4]); first | done | rfl))); try simp only [Act.put, List.setIfInBounds_toArray, List.set_cons_zero, List.set_cons_succ])
          iterate 1 (refine QW.take (by rfl) ?_; apply Exists.intro; refine ⟨fun w' hw' => ?_, ?_⟩; (· (have g0 := (hw'.cell (p := ⟨w.heap.size, 0, none⟩) hws).trans q0; have g1 := (hw'.cell (p := ⟨w.heap.size, 1, none⟩) hws).trans q1; go_simp; (refine (hz _).mono ?_; rintro e w2 ⟨rfl, rfl⟩; exact ⟨rfl, hw'⟩))); try simp only [Act.put, List.setIfInBounds_toArray, List.set_cons_zero, List.set_cons_succ])
          iterate 4 (refine QW.take (by rfl) ?_; apply Exists.intro; refine ⟨fun w' hw' => ?_, ?_⟩; (· (have g0 := (hw'.cell (p := ⟨w.heap.size, 0, none⟩) hws).trans q0; have g1 := (hw'.cell (p := ⟨w.heap.size, 1, none⟩) hws).trans q1; go_simp; first | done | ((try simp only [d1, d2, d3, d4]); first | done | rfl))); try simp only [Act.put, List.setIfInBounds_toArray, List.set_cons_zero, List.set_cons_succ])
          refine QW.nil ?_
          intro w2 x2
          have X2 := hide x2
          clear x2 q0 q1
          go_wp2
          go_ret
          exact hF w2 X2.out
        · have d4 : decide (a ≤ 4294967295) = false := decide_eq_false h4
          have hp : decide (Pfx a k) = false := decide_eq_false (fun h => h4 h.2.2.2.1)
          have hF := fun w2 => fin _ w2 hp
          clear fin hp
          refine wp_region_quiet (C := fun w' => Below W.heap.size W w') (by kernel_rfl) (by kernel_rfl) HD.out ?_
          refine QW.out (l := _ :: _) ?_
          iterate 19 (refine QW.take (by rfl) ?_; apply Exists.intro; refine ⟨fun w' hw' => ?_, ?_⟩; (· (have g0 := (hw'.cell (p := ⟨w.heap.size, 0, none⟩) hws).trans q0; have g1 := (hw'.cell (p := ⟨w.heap.size, 1, none⟩) hws).trans q1; go_simp; first | done | ((try simp only [d1, d2, d3, d4]); first | done | rfl))); try simp only [Act.put, List.setIfInBounds_toArray, List.set_cons_zero, List.set_cons_succ])
          iterate 7 (refine QW.skip (by rfl) ?_; try simp only [Act.put, List.setIfInBounds_toArray, List.set_cons_zero, List.set_cons_succ])
          iterate 2 (refine QW.take (by rfl) ?_; apply Exists.intro; refine ⟨fun w' hw' => ?_, ?_⟩; (· (have g0 := (hw'.cell (p := ⟨w.heap.size, 0, none⟩) hws).trans q0; have g1 := (hw'.cell (p := ⟨w.heap.size, 1, none⟩) hws).trans q1; go_simp; first | done | ((try simp only [d1, d2, d3, d4]); first | done | rfl))); try simp only [Act.put, List.setIfInBounds_toArray, List.set_cons_zero, List.set_cons_succ])
          refine QW.nil ?_
          intro w2 x2
          have X2 := hide x2
          clear x2 q0 q1
          go_wp2
          go_ret
          exact hF w2 X2.out
      · have d3 : decide (0 ≤ a) = false := decide_eq_false h3
        have hp : decide (Pfx a k) = false := decide_eq_false (fun h => h3 h.2.2.1)
        have hF := fun w2 => fin _ w2 hp
        clear fin hp
        refine wp_region_quiet (C := fun w' => Below W.heap.size W w') (by kernel_rfl) (by kernel_rfl) HD.out ?_
        refine QW.out (l := _ :: _) ?_
        iterate 14 (refine QW.take (by rfl) ?_; apply Exists.intro; refine ⟨fun w' hw' => ?_, ?_⟩; (· (have g0 := (hw'.cell (p := ⟨w.heap.size, 0, none⟩) hws).trans q0; have g1 := (hw'.cell (p := ⟨w.heap.size, 1, none⟩) hws).trans q1; go_simp; first | done | ((try simp only [d1, d2, d3]); first | done | rfl))); try simp only [Act.put, List.setIfInBounds_toArray, List.set_cons_zero, List.set_cons_succ])
        iterate 3 (refine QW.skip (by rfl) ?_; try simp only [Act.put, List.setIfInBounds_toArray, List.set_cons_zero, List.set_cons_succ])
        iterate 2 (refine QW.take (by rfl) ?_; apply Exists.intro; refine ⟨fun w' hw' => ?_, ?_⟩; (· (have g0 := (hw'.cell (p := ⟨w.heap.size, 0, none⟩) hws).trans q0; have g1 := (hw'.cell (p := ⟨w.heap.size, 1, none⟩) hws).trans q1; go_simp; first | done | ((try simp only [d1, d2, d3]); first | done | rfl))); try simp only [Act.put, List.setIfInBounds_toArray, List.set_cons_zero, List.set_cons_succ])
        iterate 7 (refine QW.skip (by rfl) ?_; try simp only [Act.put, List.setIfInBounds_toArray, List.set_cons_zero, List.set_cons_succ])
        iterate 2 (refine QW.take (by rfl) ?_; apply Exists.intro; refine ⟨fun w' hw' => ?_, ?_⟩; (· (have g0 := (hw'.cell (p := ⟨w.heap.size, 0, none⟩) hws).trans q0; have g1 := (hw'.cell (p := ⟨w.heap.size, 1, none⟩) hws).trans q1; go_simp; first | done | ((try simp only [d1, d2, d3]); first | done | rfl))); try simp only [Act.put, List.setIfInBounds_toArray, List.set_cons_zero, List.set_cons_succ])
        refine QW.nil ?_
        intro w2 x2
        have X2 := hide x2
        clear x2 q0 q1
        go_wp2
        go_ret
        exact hF w2 X2.out
    · have d2 : decide (k ≤ 32) = false := decide_eq_false h2
      have hp : decide (Pfx a k) = false := decide_eq_false (fun h => h2 h.2.1)
      have hF := fun w2 => fin _ w2 hp
      clear fin hp
      refine wp_region_quiet (C := fun w' => Below W.heap.size W w') (by kernel_rfl) (by kernel_rfl) HD.out ?_
      refine QW.out (l := _ :: _) ?_
      iterate 9 (refine QW.take (by rfl) ?_; apply Exists.intro; refine ⟨fun w' hw' => ?_, ?_⟩; (· (have g0 := (hw'.cell (p := ⟨w.heap.size, 0, none⟩) hws).trans q0; have g1 := (hw'.cell (p := ⟨w.heap.size, 1, none⟩) hws).trans q1; go_simp; first | done | ((try simp only [d1, d2]); first | done | rfl))); try simp only [Act.put, List.setIfInBounds_toArray, List.set_cons_zero, List.set_cons_succ])
      iterate 3 (refine QW.skip (by rfl) ?_; try simp only [Act.put, List.setIfInBounds_toArray, List.set_cons_zero, List.set_cons_succ])
      iterate 2 (refine QW.take (by rfl) ?_; apply Exists.intro; refine ⟨fun w' hw' => ?_, ?_⟩; (· (have g0 := (hw'.cell (p := ⟨w.heap.size, 0, none⟩) hws).trans q0; have g1 := (hw'.cell (p := ⟨w.heap.size, 1, none⟩) hws).trans q1; go_simp; first | done | ((try simp only [d1, d2]); first | done | rfl))); try simp only [Act.put, List.setIfInBounds_toArray, List.set_cons_zero, List.set_cons_succ])
      iterate 3 (refine QW.skip (by rfl) ?_; try simp only [Act.put, List.setIfInBounds_toArray, List.set_cons_zero, List.set_cons_succ])
      iterate 2 (refine QW.take (by rfl) ?_; apply Exists.intro; refine ⟨fun w' hw' => ?_, ?_⟩; (· (have g0 := (hw'.cell (p := ⟨w.heap.size, 0, none⟩) hws).trans q0; have g1 := (hw'.cell (p := ⟨w.heap.size, 1, none⟩) hws).trans q1; go_simp; first | done | ((try simp only [d1, d2]); first | done | rfl))); try simp only [Act.put, List.setIfInBounds_toArray, List.set_cons_zero, List.set_cons_succ])
      iterate 7 (refine QW.skip (by rfl) ?_; try simp only [Act.put, List.setIfInBounds_toArray, List.set_cons_zero, List.set_cons_succ])
      iterate 2 (refine QW.take (by rfl) ?_; apply Exists.intro; refine ⟨fun w' hw' => ?_, ?_⟩; (· (have g0 := (hw'.cell (p := ⟨w.heap.size, 0, none⟩) hws).trans q0; have g1 := (hw'.cell (p := ⟨w.heap.size, 1, none⟩) hws).trans q1; go_simp; first | done | ((try simp only [d1, d2]); first | done | rfl))); try simp only [Act.put, List.setIfInBounds_toArray, List.set_cons_zero, List.set_cons_succ])
      refine QW.nil ?_
      intro w2 x2
      have X2 := hide x2
      clear x2 q0 q1
      go_wp2
      go_ret
      exact hF w2 X2.out
  · have d1 : decide (0 ≤ k) = false := decide_eq_false h1
    have hp : decide (Pfx a k) = false := decide_eq_false (fun h => h1 h.1)
    have hF := fun w2 => fin _ w2 hp
    clear fin hp
    refine wp_region_quiet (C := fun w' => Below W.heap.size W w') (by kernel_rfl) (by kernel_rfl) HD.out ?_
    refine QW.out (l := _ :: _) ?_
    iterate 4 (refine QW.take (by rfl) ?_; apply Exists.intro; refine ⟨fun w' hw' => ?_, ?_⟩; (· (have g0 := (hw'.cell (p := ⟨w.heap.size, 0, none⟩) hws).trans q0; have g1 := (hw'.cell (p := ⟨w.heap.size, 1, none⟩) hws).trans q1; go_simp; first | done | ((try simp only [d1]); first | done | rfl))); try simp only [Act.put, List.setIfInBounds_toArray, List.set_cons_zero, List.set_cons_succ])
    iterate 3 (refine QW.skip (by rfl) ?_; try simp only [Act.put, List.setIfInBounds_toArray, List.set_cons_zero, List.set_cons_succ])
    iterate 2 (refine QW.take (by rfl) ?_; apply Exists.intro; refine ⟨fun w' hw' => ?_, ?_⟩; (· (have g0 := (hw'.cell (p := ⟨w.heap.size, 0, none⟩) hws).trans q0; have g1 := (hw'.cell (p := ⟨w.heap.size, 1, none⟩) hws).trans q1; go_simp; first | done | ((try simp only [d1]); first | done | rfl))); try simp only [Act.put, List.setIfInBounds_toArray, List.set_cons_zero, List.set_cons_succ])
    iterate 3 (refine QW.skip (by rfl) ?_; try simp only [Act.put, List.setIfInBounds_toArray, List.set_cons_zero, List.set_cons_succ])
    iterate 2 (refine QW.take (by rfl) ?_; apply Exists.intro; refine ⟨fun w' hw' => ?_, ?_⟩; (· (have g0 := (hw'.cell (p := ⟨w.heap.size, 0, none⟩) hws).trans q0; have g1 := (hw'.cell (p := ⟨w.heap.size, 1, none⟩) hws).trans q1; go_simp; first | done | ((try simp only [d1]); first | done | rfl))); try simp only [Act.put, List.setIfInBounds_toArray, List.set_cons_zero, List.set_cons_succ])
    iterate 3 (refine QW.skip (by rfl) ?_; try simp only [Act.put, List.setIfInBounds_toArray, List.set_cons_zero, List.set_cons_succ])
    iterate 2 (refine QW.take (by rfl) ?_; apply Exists.intro; refine ⟨fun w' hw' => ?_, ?_⟩; (· (have g0 := (hw'.cell (p := ⟨w.heap.size, 0, none⟩) hws).trans q0; have g1 := (hw'.cell (p := ⟨w.heap.size, 1, none⟩) hws).trans q1; go_simp; first | done | ((try simp only [d1]); first | done | rfl))); try simp only [Act.put, List.setIfInBounds_toArray, List.set_cons_zero, List.set_cons_succ])
    iterate 7 (refine QW.skip (by rfl) ?_; try simp only [Act.put, List.setIfInBounds_toArray, List.set_cons_zero, List.set_cons_succ])
    iterate 2 (refine QW.take (by rfl) ?_; apply Exists.intro; refine ⟨fun w' hw' => ?_, ?_⟩; (· (have g0 := (hw'.cell (p := ⟨w.heap.size, 0, none⟩) hws).trans q0; have g1 := (hw'.cell (p := ⟨w.heap.size, 1, none⟩) hws).trans q1; go_simp; first | done | ((try simp only [d1]); first | done | rfl))); try simp only [Act.put, List.setIfInBounds_toArray, List.set_cons_zero, List.set_cons_succ])
    refine QW.nil ?_
    intro w2 x2
    have X2 := hide x2
    clear x2 q0 q1
    go_wp2
    go_ret
    exact hF w2 X2.out

end Go.Proofs.Ytnfdjbaafiifnaa
