/-
  The document's digits and Size by their contracts. No condition.
-/
import Derived.Test.YtfjifedfenpbbaaDoorQuad
import Derived.Test.YtfjifedfenpbbaaDoorLst
namespace Go.Proofs.YtfjifedfenpbbaaDoor
open Go.RowKit Go.Lib

theorem dec_len (u : Nat) : (decDigits u).length ≤ u + 1 := by
  induction u using Nat.strongRecOn with
  | ind u ih =>
    by_cases h : u < 10
    · rw [decDigits_one h]; simp
    · rw [dec_step u h]
      have := ih (u / 10) (by omega)
      simp
      omega
theorem dig_cut : ∀ k : Nat, k < 10 → (⟨#[48, 49, 50, 51, 52, 53, 54, 55, 56, 57]⟩ : ByteArray).extract k (k + 1) = ⟨#[UInt8.ofNat (48 + k)]⟩ := by decide
set_option maxRecDepth 100000 in
set_option maxHeartbeats 600000 in
theorem digits_any (u : Nat) (hu : u ≤ 4294967296) (w : World) : Calls Tryd.prog 36 #[.int .i64 u] w fun e w' => e = .returned (.string ⟨(decDigits u).toArray⟩) ∧ Below w.heap.size w w' := by
  induction u using Nat.strongRecOn generalizing w with
  | ind u ih =>
    by_cases h : u < 10
    · rw [decDigits_one h]
      have hc := dig_cut u h
      have h2 : (u : Int) < 10 := by omega
      have h3 : (u : Int) + 1 ≤ 10 := by omega
      have h4 : (0 : Int) ≤ u := by omega
      have h5 : (u : Int) ≤ u + 1 := by omega
      go_enter Tryd.func36, Tryd.ntmps36
      go_wp2
      go_ret
      exact ⟨by simp, Below.refl _ _⟩
    · have h2 : ¬ (u : Int) < 10 := by omega
      have i1 := fun w2 => ih (u / 10) (by omega) (by omega) w2
      rw [dec_step u h]
      have hc := dig_cut (u % 10) (by omega)
      have hq : (u : Int) / 10 = ((u / 10 : Nat) : Int) := by omega
      have hr : (u : Int).tmod 10 = ((u % 10 : Nat) : Int) := by rw [Int.tmod_eq_emod_of_nonneg (by omega)]; omega
      have h0 : (0 : Int) ≤ ((u % 10 : Nat) : Int) := by omega
      have h1 : ((u % 10 : Nat) : Int) ≤ ((u % 10 : Nat) : Int) + 1 := by omega
      have fr : IntKind.i64.wrap (((u % 10 : Nat) : Int) + 1) = ((u % 10 : Nat) : Int) + 1 := by simp [IntKind.wrap, IntKind.bits, IntKind.signed]; omega
      have hr2 : ((u % 10 : Nat) : Int) + 1 ≤ 10 := by omega
      have HD : Hid (Below w.heap.size w w.drew) := (Below.refl _ _).drew
      have fq : IntKind.i64.wrap ((u / 10 : Nat) : Int) = ((u / 10 : Nat) : Int) := by simp [IntKind.wrap, IntKind.bits, IntKind.signed]; omega
      clear ih h
      have hq2 : u / 10 ≤ 4294967296 := by omega
      generalize u / 10 = q at *
      generalize u % 10 = r at *
      have hD : ¬ 9223372036854775807 < (decDigits q).length + 1 := by have := dec_len q; omega
      generalize decDigits q = D at *
      go_enter Tryd.func36, Tryd.ntmps36
      go_wp2
      refine wp_region_quiet (C := fun w' => Below w.heap.size w w') (by kernel_rfl) (by kernel_rfl) HD.out ?_
      refine QW.out (l := _ :: _) ?_
      iterate 2 (refine QW.take (by rfl) ?_; apply Exists.intro; refine ⟨fun w' hw' => ?_, ?_⟩; (· (skip; go_simp; first | done | ((try simp only [hq, hr, hc, fr]); first | done | rfl))); try simp only [Act.put, List.setIfInBounds_toArray, List.set_cons_zero, List.set_cons_succ])
      iterate 1 (refine QW.take (by rfl) ?_; apply Exists.intro; refine ⟨fun w' hw' => ?_, ?_⟩; (· (skip; go_simp; (refine (i1 _).mono ?_; rintro e w2 ⟨rfl, x2⟩; exact ⟨rfl, hw'.trans (x2.mono hw'.size)⟩))); try simp only [Act.put, List.setIfInBounds_toArray, List.set_cons_zero, List.set_cons_succ])
      iterate 8 (refine QW.take (by rfl) ?_; apply Exists.intro; refine ⟨fun w' hw' => ?_, ?_⟩; (· (skip; go_simp; first | done | ((try simp only [hq, hr, hc, fr]); first | done | rfl))); try simp only [Act.put, List.setIfInBounds_toArray, List.set_cons_zero, List.set_cons_succ])
      refine QW.nil ?_
      intro w2 x2
      have X2 := hide x2
      clear x2
      go_wp2
      go_ret
      exact ⟨by simp; exact ByteArray.ext (by simp), X2.out⟩
theorem size_any (k : Nat) (hk : k ≤ 32) (w : World) : Calls Tryd.prog 40 #[.int .i64 k] w fun e w' => e = .returned (.int .i64 (2 ^ (32 - k) : Nat)) ∧ w' = w := by
  rcases k with _ | _ | _ | _ | _ | _ | _ | _ | _ | _ | _ | _ | _ | _ | _ | _ | _ | _ | _ | _ | _ | _ | _ | _ | _ | _ | _ | _ | _ | _ | _ | _ | _ | k
  all_goals first | (exfalso; omega) | skip
  all_goals
    clear hk
    try simp only [Nat.zero_add, Nat.reduceAdd]
    go_enter Tryd.func40, Tryd.ntmps40
    go_wp2
    go_ret
    exact ⟨rfl, rfl⟩
end Go.Proofs.YtfjifedfenpbbaaDoor
