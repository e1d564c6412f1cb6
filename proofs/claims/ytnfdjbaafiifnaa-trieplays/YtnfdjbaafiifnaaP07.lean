/-
  last, leads by their contracts, the mask settled; isWord, right. Condition: a number of bits is 0 to 32.
-/
import Derived.Test.YtnfdjbaafiifnaaP05
import Derived.Test.YtnfdjbaafiifnaaP06
namespace Go.Proofs.Ytnfdjbaafiifnaa
open Go.RowKit Go.Lib

theorem leads_any (a b c d k : Nat) (ha : a < 256) (hb : b < 256) (hc : c < 256) (hd : d < 256) (hk : k ≤ 32) (w : World) :
    Calls Try.prog 60 #[.agg #[.int .u8 a, .int .u8 b, .int .u8 c, .int .u8 d], .int .i64 k] w fun e w' => e = .returned (.bool (decide (W4 a b c d % 2 ^ (32 - k) = 0))) ∧ Below w.heap.size w w' :=
  leads_of a b c d k ha hb hc hd hk w (fun w => mask_any k hk w)
theorem last_any (a b c d k : Nat) (ha : a < 256) (hb : b < 256) (hc : c < 256) (hd : d < 256) (hk : k ≤ 32) (h : W4 a b c d % 2 ^ (32 - k) = 0) (w : World) :
    Calls Try.prog 39 #[.agg #[.int .u8 a, .int .u8 b, .int .u8 c, .int .u8 d], .int .i64 k] w fun e w' => (∃ a' b' c' d' : Nat, (a' < 256 ∧ b' < 256 ∧ c' < 256 ∧ d' < 256) ∧ e = .returned (.agg #[.int .u8 a', .int .u8 b', .int .u8 c', .int .u8 d']) ∧ W4 a' b' c' d' = W4 a b c d + 2 ^ (32 - k) - 1) ∧ Below w.heap.size w w' := by
  refine (last_of a b c d k ha hb hc hd w (fun w => mask_any k hk w)).mono ?_
  rintro e w' ⟨rfl, x⟩
  exact ⟨⟨_, _, _, _, ⟨or_lt _ _ ha (mk_lt _ _), or_lt _ _ hb (mk_lt _ _), or_lt _ _ hc (mk_lt _ _), or_lt _ _ hd (mk_lt _ _)⟩, rfl, last_eq a b c d k ha hb hc hd hk h⟩, x⟩

theorem isWord_any (n : Int) (w : World) : Calls Try.prog 59 #[.int .i64 n] w fun e w' => e = .returned (.bool (decide (0 ≤ n) && decide (n ≤ 4294967295))) ∧ w' = w := by
  by_cases h1 : 0 ≤ n <;> by_cases h2 : n ≤ 4294967295 <;> simp only [h1, h2, decide_true, decide_false, Bool.and_true, Bool.and_false] <;>
    (first | (exfalso; omega) | (go_enter Try.func59, Try.ntmps59; go_wp2; go_ret; exact ⟨rfl, rfl⟩))

/-- A right prefix. -/
def Pfx (a k : Int) : Prop := 0 ≤ k ∧ k ≤ 32 ∧ 0 ≤ a ∧ a ≤ 4294967295 ∧ a.toNat % 2 ^ (32 - k.toNat) = 0
instance (a k : Int) : Decidable (Pfx a k) := by unfold Pfx; infer_instance
theorem Pfx.nat {a k : Int} (h : Pfx a k) : ∃ n b : Nat, a = n ∧ k = b ∧ b ≤ 32 ∧ n < 4294967296 ∧ n % 2 ^ (32 - b) = 0 := by
  obtain ⟨h1, h2, h3, h4, h5⟩ := h
  exact ⟨a.toNat, k.toNat, by omega, by omega, by omega, by omega, h5⟩

set_option maxRecDepth 100000 in
set_option maxHeartbeats 4000000 in
theorem right_any (a k : Int) (w : World) : Calls Try.prog 37 #[.agg #[.int .i64 a, .int .i64 k]] w fun e w' => e = .returned (.bool (decide (Pfx a k))) ∧ Below w.heap.size w w' := by
  have hB : Below w.heap.size w (w.alloc (.cells #[.int .i64 a, .int .i64 k] 42)) := al (Below.refl _ _) _
  have q0 : (w.alloc (.cells #[.int .i64 a, .int .i64 k] 42)).cell? ⟨w.heap.size, 0, none⟩ = some (.int .i64 a) := by simp
  have q1 : (w.alloc (.cells #[.int .i64 a, .int .i64 k] 42)).cell? ⟨w.heap.size, 1, none⟩ = some (.int .i64 k) := by simp
  have hws : w.heap.size < (w.alloc (.cells #[.int .i64 a, .int .i64 k] 42)).heap.size := by simp
  go_enter Try.func37, Try.ntmps37
  go_wp2
  generalize w.alloc (.cells #[.int .i64 a, .int .i64 k] 42) = W at *
  have HB := hide hB
  have HD : Hid (Below W.heap.size W W.drew) := (Below.refl _ _).drew
  clear hB
  have fin : ∀ (b : Bool) (w2 : World), decide (Pfx a k) = b → Below W.heap.size W w2 → Ending.returned (.bool b) = .returned (.bool (decide (Pfx a k))) ∧ Below w.heap.size w w2 := fun b w2 e x => ⟨by rw [e], bt HB.out x (Nat.le_refl _)⟩
  by_cases h1 : 0 ≤ k
  · have d1 : decide (0 ≤ k) = true := decide_eq_true h1
    by_cases h2 : k ≤ 32
    · have d2 : decide (k ≤ 32) = true := decide_eq_true h2
      by_cases h3 : 0 ≤ a ∧ a ≤ 4294967295
      · have e3 : (decide (0 ≤ a) && decide (a ≤ 4294967295)) = true := by simp [h3.1, h3.2]
        obtain ⟨n, rfl⟩ : ∃ n : Nat, a = n := ⟨a.toNat, by omega⟩
        obtain ⟨b, rfl⟩ : ∃ b : Nat, k = b := ⟨k.toNat, by omega⟩
        have hl := fun w => leads_any (n / 16777216 % 256) (n / 65536 % 256) (n / 256 % 256) (n % 256) b (by omega) (by omega) (by omega) (by omega) (by omega) w
        rw [W4_of n (by omega)] at hl
        have hp : decide (Pfx (n : Int) (b : Int)) = decide (n % 2 ^ (32 - b) = 0) := decide_eq_decide.2 ⟨fun h => h.2.2.2.2, fun h => ⟨h1, h2, h3.1, h3.2, h⟩⟩
        have hF := fun w2 => fin _ w2 hp
        generalize decide (n % 2 ^ (32 - b) = 0) = z at *
        clear fin h3
        refine wp_region_quiet (C := fun w' => Below W.heap.size W w') (by kernel_rfl) (by kernel_rfl) HD.out ?_
        refine QW.out (l := _ :: _) ?_
        iterate 11 (refine QW.take (by rfl) ?_; apply Exists.intro; refine ⟨fun w' hw' => ?_, ?_⟩; (· (have g0 := (hw'.cell (p := ⟨w.heap.size, 0, none⟩) hws).trans q0; have g1 := (hw'.cell (p := ⟨w.heap.size, 1, none⟩) hws).trans q1; go_simp; first | done | ((try simp only [d1, d2]); first | done | rfl))); try simp only [Act.put, List.setIfInBounds_toArray, List.set_cons_zero, List.set_cons_succ])
        iterate 1 (refine QW.take (by rfl) ?_; apply Exists.intro; refine ⟨fun w' hw' => ?_, ?_⟩; (· (have g0 := (hw'.cell (p := ⟨w.heap.size, 0, none⟩) hws).trans q0; have g1 := (hw'.cell (p := ⟨w.heap.size, 1, none⟩) hws).trans q1; go_simp; (first | (refine (isWord_any _ _).mono ?_; rintro e w2 ⟨rfl, rfl⟩; rw [e3]; exact ⟨rfl, hw'⟩) | (refine (quadOf_any n _).mono ?_; rintro e w2 ⟨rfl, x2⟩; exact ⟨rfl, hw'.trans (x2.mono hw'.size)⟩) | (refine (hl _).mono ?_; rintro e w2 ⟨rfl, x2⟩; exact ⟨rfl, hw'.trans (x2.mono hw'.size)⟩)))); try simp only [Act.put, List.setIfInBounds_toArray, List.set_cons_zero, List.set_cons_succ])
        iterate 4 (refine QW.take (by rfl) ?_; apply Exists.intro; refine ⟨fun w' hw' => ?_, ?_⟩; (· (have g0 := (hw'.cell (p := ⟨w.heap.size, 0, none⟩) hws).trans q0; have g1 := (hw'.cell (p := ⟨w.heap.size, 1, none⟩) hws).trans q1; go_simp; first | done | ((try simp only [d1, d2]); first | done | rfl))); try simp only [Act.put, List.setIfInBounds_toArray, List.set_cons_zero, List.set_cons_succ])
        iterate 1 (refine QW.take (by rfl) ?_; apply Exists.intro; refine ⟨fun w' hw' => ?_, ?_⟩; (· (have g0 := (hw'.cell (p := ⟨w.heap.size, 0, none⟩) hws).trans q0; have g1 := (hw'.cell (p := ⟨w.heap.size, 1, none⟩) hws).trans q1; go_simp; (first | (refine (isWord_any _ _).mono ?_; rintro e w2 ⟨rfl, rfl⟩; rw [e3]; exact ⟨rfl, hw'⟩) | (refine (quadOf_any n _).mono ?_; rintro e w2 ⟨rfl, x2⟩; exact ⟨rfl, hw'.trans (x2.mono hw'.size)⟩) | (refine (hl _).mono ?_; rintro e w2 ⟨rfl, x2⟩; exact ⟨rfl, hw'.trans (x2.mono hw'.size)⟩)))); try simp only [Act.put, List.setIfInBounds_toArray, List.set_cons_zero, List.set_cons_succ])
        iterate 2 (refine QW.take (by rfl) ?_; apply Exists.intro; refine ⟨fun w' hw' => ?_, ?_⟩; (· (have g0 := (hw'.cell (p := ⟨w.heap.size, 0, none⟩) hws).trans q0; have g1 := (hw'.cell (p := ⟨w.heap.size, 1, none⟩) hws).trans q1; go_simp; first | done | ((try simp only [d1, d2]); first | done | rfl))); try simp only [Act.put, List.setIfInBounds_toArray, List.set_cons_zero, List.set_cons_succ])
        iterate 1 (refine QW.take (by rfl) ?_; apply Exists.intro; refine ⟨fun w' hw' => ?_, ?_⟩; (· (have g0 := (hw'.cell (p := ⟨w.heap.size, 0, none⟩) hws).trans q0; have g1 := (hw'.cell (p := ⟨w.heap.size, 1, none⟩) hws).trans q1; go_simp; (first | (refine (isWord_any _ _).mono ?_; rintro e w2 ⟨rfl, rfl⟩; rw [e3]; exact ⟨rfl, hw'⟩) | (refine (quadOf_any n _).mono ?_; rintro e w2 ⟨rfl, x2⟩; exact ⟨rfl, hw'.trans (x2.mono hw'.size)⟩) | (refine (hl _).mono ?_; rintro e w2 ⟨rfl, x2⟩; exact ⟨rfl, hw'.trans (x2.mono hw'.size)⟩)))); try simp only [Act.put, List.setIfInBounds_toArray, List.set_cons_zero, List.set_cons_succ])
        iterate 2 (refine QW.take (by rfl) ?_; apply Exists.intro; refine ⟨fun w' hw' => ?_, ?_⟩; (· (have g0 := (hw'.cell (p := ⟨w.heap.size, 0, none⟩) hws).trans q0; have g1 := (hw'.cell (p := ⟨w.heap.size, 1, none⟩) hws).trans q1; go_simp; first | done | ((try simp only [d1, d2]); first | done | rfl))); try simp only [Act.put, List.setIfInBounds_toArray, List.set_cons_zero, List.set_cons_succ])
        refine QW.nil ?_
        intro w2 x2
        have X2 := hide x2
        clear x2 q0 q1
        go_wp2
        go_ret
        exact hF w2 X2.out
      · have e3 : (decide (0 ≤ a) && decide (a ≤ 4294967295)) = false := by simp; omega
        have hp : decide (Pfx a k) = false := decide_eq_false (fun h => h3 ⟨h.2.2.1, h.2.2.2.1⟩)
        have hF := fun w2 => fin _ w2 hp
        clear fin hp
        refine wp_region_quiet (C := fun w' => Below W.heap.size W w') (by kernel_rfl) (by kernel_rfl) HD.out ?_
        refine QW.out (l := _ :: _) ?_
        iterate 11 (refine QW.take (by rfl) ?_; apply Exists.intro; refine ⟨fun w' hw' => ?_, ?_⟩; (· (have g0 := (hw'.cell (p := ⟨w.heap.size, 0, none⟩) hws).trans q0; have g1 := (hw'.cell (p := ⟨w.heap.size, 1, none⟩) hws).trans q1; go_simp; first | done | ((try simp only [d1, d2]); first | done | rfl))); try simp only [Act.put, List.setIfInBounds_toArray, List.set_cons_zero, List.set_cons_succ])
        iterate 1 (refine QW.take (by rfl) ?_; apply Exists.intro; refine ⟨fun w' hw' => ?_, ?_⟩; (· (have g0 := (hw'.cell (p := ⟨w.heap.size, 0, none⟩) hws).trans q0; have g1 := (hw'.cell (p := ⟨w.heap.size, 1, none⟩) hws).trans q1; go_simp; ((refine (isWord_any _ _).mono ?_; rintro e w2 ⟨rfl, rfl⟩; rw [e3]; exact ⟨rfl, hw'⟩)))); try simp only [Act.put, List.setIfInBounds_toArray, List.set_cons_zero, List.set_cons_succ])
        iterate 2 (refine QW.take (by rfl) ?_; apply Exists.intro; refine ⟨fun w' hw' => ?_, ?_⟩; (· (have g0 := (hw'.cell (p := ⟨w.heap.size, 0, none⟩) hws).trans q0; have g1 := (hw'.cell (p := ⟨w.heap.size, 1, none⟩) hws).trans q1; go_simp; first | done | ((try simp only [d1, d2]); first | done | rfl))); try simp only [Act.put, List.setIfInBounds_toArray, List.set_cons_zero, List.set_cons_succ])
        iterate 6 (refine QW.skip (by rfl) ?_; try simp only [Act.put, List.setIfInBounds_toArray, List.set_cons_zero, List.set_cons_succ])
        iterate 2 (refine QW.take (by rfl) ?_; apply Exists.intro; refine ⟨fun w' hw' => ?_, ?_⟩; (· (have g0 := (hw'.cell (p := ⟨w.heap.size, 0, none⟩) hws).trans q0; have g1 := (hw'.cell (p := ⟨w.heap.size, 1, none⟩) hws).trans q1; go_simp; first | done | ((try simp only [d1, d2]); first | done | rfl))); try simp only [Act.put, List.setIfInBounds_toArray, List.set_cons_zero, List.set_cons_succ])
        refine QW.nil ?_
        intro w2 x2
        have X2 := hide x2
        clear x2 q0 q1
        go_wp2
        go_ret
        exact hF w2 X2.out
    · have d2 : decide (k ≤ 32) = false := decide_eq_false h2
      have hp : decide (Pfx a k) = false := decide_eq_false (fun h => h2 h.2.1)
      have hF := fun w2 => fin _ w2 hp
      clear fin hp
      refine wp_region_quiet (C := fun w' => Below W.heap.size W w') (by kernel_rfl) (by kernel_rfl) HD.out ?_
      refine QW.out (l := _ :: _) ?_
      iterate 9 (refine QW.take (by rfl) ?_; apply Exists.intro; refine ⟨fun w' hw' => ?_, ?_⟩; (· (have g0 := (hw'.cell (p := ⟨w.heap.size, 0, none⟩) hws).trans q0; have g1 := (hw'.cell (p := ⟨w.heap.size, 1, none⟩) hws).trans q1; go_simp; first | done | ((try simp only [d1, d2]); first | done | rfl))); try simp only [Act.put, List.setIfInBounds_toArray, List.set_cons_zero, List.set_cons_succ])
      iterate 3 (refine QW.skip (by rfl) ?_; try simp only [Act.put, List.setIfInBounds_toArray, List.set_cons_zero, List.set_cons_succ])
      iterate 2 (refine QW.take (by rfl) ?_; apply Exists.intro; refine ⟨fun w' hw' => ?_, ?_⟩; (· (have g0 := (hw'.cell (p := ⟨w.heap.size, 0, none⟩) hws).trans q0; have g1 := (hw'.cell (p := ⟨w.heap.size, 1, none⟩) hws).trans q1; go_simp; first | done | ((try simp only [d1, d2]); first | done | rfl))); try simp only [Act.put, List.setIfInBounds_toArray, List.set_cons_zero, List.set_cons_succ])
      iterate 6 (refine QW.skip (by rfl) ?_; try simp only [Act.put, List.setIfInBounds_toArray, List.set_cons_zero, List.set_cons_succ])
      iterate 2 (refine QW.take (by rfl) ?_; apply Exists.intro; refine ⟨fun w' hw' => ?_, ?_⟩; (· (have g0 := (hw'.cell (p := ⟨w.heap.size, 0, none⟩) hws).trans q0; have g1 := (hw'.cell (p := ⟨w.heap.size, 1, none⟩) hws).trans q1; go_simp; first | done | ((try simp only [d1, d2]); first | done | rfl))); try simp only [Act.put, List.setIfInBounds_toArray, List.set_cons_zero, List.set_cons_succ])
      refine QW.nil ?_
      intro w2 x2
      have X2 := hide x2
      clear x2 q0 q1
      go_wp2
      go_ret
      exact hF w2 X2.out
  · have d1 : decide (0 ≤ k) = false := decide_eq_false h1
    have hp : decide (Pfx a k) = false := decide_eq_false (fun h => h1 h.1)
    have hF := fun w2 => fin _ w2 hp
    clear fin hp
    refine wp_region_quiet (C := fun w' => Below W.heap.size W w') (by kernel_rfl) (by kernel_rfl) HD.out ?_
    refine QW.out (l := _ :: _) ?_
    iterate 4 (refine QW.take (by rfl) ?_; apply Exists.intro; refine ⟨fun w' hw' => ?_, ?_⟩; (· (have g0 := (hw'.cell (p := ⟨w.heap.size, 0, none⟩) hws).trans q0; have g1 := (hw'.cell (p := ⟨w.heap.size, 1, none⟩) hws).trans q1; go_simp; first | done | ((try simp only [d1]); first | done | rfl))); try simp only [Act.put, List.setIfInBounds_toArray, List.set_cons_zero, List.set_cons_succ])
    iterate 3 (refine QW.skip (by rfl) ?_; try simp only [Act.put, List.setIfInBounds_toArray, List.set_cons_zero, List.set_cons_succ])
    iterate 2 (refine QW.take (by rfl) ?_; apply Exists.intro; refine ⟨fun w' hw' => ?_, ?_⟩; (· (have g0 := (hw'.cell (p := ⟨w.heap.size, 0, none⟩) hws).trans q0; have g1 := (hw'.cell (p := ⟨w.heap.size, 1, none⟩) hws).trans q1; go_simp; first | done | ((try simp only [d1]); first | done | rfl))); try simp only [Act.put, List.setIfInBounds_toArray, List.set_cons_zero, List.set_cons_succ])
    iterate 3 (refine QW.skip (by rfl) ?_; try simp only [Act.put, List.setIfInBounds_toArray, List.set_cons_zero, List.set_cons_succ])
    iterate 2 (refine QW.take (by rfl) ?_; apply Exists.intro; refine ⟨fun w' hw' => ?_, ?_⟩; (· (have g0 := (hw'.cell (p := ⟨w.heap.size, 0, none⟩) hws).trans q0; have g1 := (hw'.cell (p := ⟨w.heap.size, 1, none⟩) hws).trans q1; go_simp; first | done | ((try simp only [d1]); first | done | rfl))); try simp only [Act.put, List.setIfInBounds_toArray, List.set_cons_zero, List.set_cons_succ])
    iterate 6 (refine QW.skip (by rfl) ?_; try simp only [Act.put, List.setIfInBounds_toArray, List.set_cons_zero, List.set_cons_succ])
    iterate 2 (refine QW.take (by rfl) ?_; apply Exists.intro; refine ⟨fun w' hw' => ?_, ?_⟩; (· (have g0 := (hw'.cell (p := ⟨w.heap.size, 0, none⟩) hws).trans q0; have g1 := (hw'.cell (p := ⟨w.heap.size, 1, none⟩) hws).trans q1; go_simp; first | done | ((try simp only [d1]); first | done | rfl))); try simp only [Act.put, List.setIfInBounds_toArray, List.set_cons_zero, List.set_cons_succ])
    refine QW.nil ?_
    intro w2 x2
    have X2 := hide x2
    clear x2 q0 q1
    go_wp2
    go_ret
    exact hF w2 X2.out
end Go.Proofs.Ytnfdjbaafiifnaa
