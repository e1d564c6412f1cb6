/-
  The document's Right, in, Has and Size by their contracts: they say what the program's say. Condition: a list is no longer than a process can hold.
-/
import Derived.Test.YthgikaklcglpiaaGreatDoorP03
namespace Go.Proofs.YthgikaklcglpiaaGreatDoor.L5
open Go.RowKit Go.Lib

set_option maxRecDepth 100000 in
set_option maxHeartbeats 4000000 in
theorem refRight_any (ao : Option Addr) (cap : Nat) (L : List Spn) (w : World) (hl : L.length ≤ 140737488351232) (hat : SpAt w ao L) :
    Calls Tryz.prog 47 #[.slice ao L.length cap] w fun e w' => e = .returned (.bool (decide (IsSet L))) ∧ Below w.heap.size w w' := by
  go_enter Tryz.func47, Tryz.ntmps47
  go_wp2
  go_loopw [3] (fun i wr => ∃ k : Nat, k ≤ L.length ∧ i = .int .i64 k ∧ Hid (∀ j, j < k → okAt L j) ∧ Below w.heap.size w wr) (fun i _ => L.length - (intOf i).toNat)
  case atStart => exact ⟨0, Nat.zero_le _, rfl, fun j hj => absurd hj (by omega), Below.refl _ _⟩
  case round =>
    obtain ⟨k, hk, rfl, hok, hq⟩ := hrel
    have HQ := hide hq
    clear hq
    by_cases hlt : k < L.length
    · obtain ⟨b, off, rfl, hb, hc⟩ := hat.get hlt
      obtain ⟨c1, c2⟩ := (hc k hlt).below HQ.out hb
      have hbr : b < wr.heap.size := Nat.lt_of_lt_of_le hb HQ.out.size
      have hc' := fun (h0 : 0 < k) => ((hc (k - 1) (by omega)).below HQ.out hb).2
      obtain ⟨s, hs⟩ : ∃ s, s = L.getD k (0, 0) := ⟨_, rfl⟩
      rw [← hs] at c1 c2
      have HS := hide hs
      have HC' := hide hc'
      have HD : Hid (Below wr.heap.size wr wr.drew) := (Below.refl _ _).drew
      have hki : (k : Int) < (L.length : Int) := by omega
      clear hs hc hc' hat
      by_cases z1 : s.1 < 0
      · have d1 : decide (s.1 < 0) = true := decide_eq_true z1
        have hno : ¬ Bnd s := fun h => by unfold Bnd at h; omega
        go_wp2
        refine wp_region_quiet (C := fun w' => Below wr.heap.size wr w') (by kernel_rfl) (by kernel_rfl) HD.out ?_
        refine QW.out (l := _ :: _) ?_
        iterate 7 (refine QW.take (by rfl) ?_; apply Exists.intro; refine ⟨fun w' hw' => ?_, ?_⟩; (· (have g1 := (hw'.cell (p := ⟨b, off + k * 2, none⟩) hbr).trans c1; have g2 := (hw'.cell (p := ⟨b, off + k * 2 + 1, none⟩) hbr).trans c2; go_simp; first | done | ((try simp only [d1]); first | done | rfl))); try simp only [Act.put, List.setIfInBounds_toArray, List.set_cons_zero, List.set_cons_succ])
        iterate 11 (refine QW.skip (by rfl) ?_; try simp only [Act.put, List.setIfInBounds_toArray, List.set_cons_zero, List.set_cons_succ])
        iterate 2 (refine QW.take (by rfl) ?_; apply Exists.intro; refine ⟨fun w' hw' => ?_, ?_⟩; (· (have g1 := (hw'.cell (p := ⟨b, off + k * 2, none⟩) hbr).trans c1; have g2 := (hw'.cell (p := ⟨b, off + k * 2 + 1, none⟩) hbr).trans c2; go_simp; first | done | ((try simp only [d1]); first | done | rfl))); try simp only [Act.put, List.setIfInBounds_toArray, List.set_cons_zero, List.set_cons_succ])
        iterate 6 (refine QW.skip (by rfl) ?_; try simp only [Act.put, List.setIfInBounds_toArray, List.set_cons_zero, List.set_cons_succ])
        iterate 2 (refine QW.take (by rfl) ?_; apply Exists.intro; refine ⟨fun w' hw' => ?_, ?_⟩; (· (have g1 := (hw'.cell (p := ⟨b, off + k * 2, none⟩) hbr).trans c1; have g2 := (hw'.cell (p := ⟨b, off + k * 2 + 1, none⟩) hbr).trans c2; go_simp; first | done | ((try simp only [d1]); first | done | rfl))); try simp only [Act.put, List.setIfInBounds_toArray, List.set_cons_zero, List.set_cons_succ])
        iterate 17 (refine QW.skip (by rfl) ?_; try simp only [Act.put, List.setIfInBounds_toArray, List.set_cons_zero, List.set_cons_succ])
        iterate 1 (refine QW.take (by rfl) ?_; apply Exists.intro; refine ⟨fun w' hw' => ?_, ?_⟩; (· (have g1 := (hw'.cell (p := ⟨b, off + k * 2, none⟩) hbr).trans c1; have g2 := (hw'.cell (p := ⟨b, off + k * 2 + 1, none⟩) hbr).trans c2; go_simp; first | done | ((try simp only [d1]); first | done | rfl))); try simp only [Act.put, List.setIfInBounds_toArray, List.set_cons_zero, List.set_cons_succ])
        refine QW.nil ?_
        intro w2 x2
        have X2 := hide x2
        clear x2
        go_wp2
        go_ret
        refine ⟨?_, bt HQ.out X2.out (Nat.le_refl _)⟩
        rw [decide_eq_false (fun h => hno (by rw [HS.out]; exact (ok_of_isSet h hlt).1))]
        rfl
      have d1 : decide (s.1 < 0) = false := decide_eq_false z1
      by_cases z2 : s.2 < s.1
      · have d2 : decide (s.2 < s.1) = true := decide_eq_true z2
        have hno : ¬ Bnd s := fun h => by unfold Bnd at h; omega
        go_wp2
        refine wp_region_quiet (C := fun w' => Below wr.heap.size wr w') (by kernel_rfl) (by kernel_rfl) HD.out ?_
        refine QW.out (l := _ :: _) ?_
        iterate 20 (refine QW.take (by rfl) ?_; apply Exists.intro; refine ⟨fun w' hw' => ?_, ?_⟩; (· (have g1 := (hw'.cell (p := ⟨b, off + k * 2, none⟩) hbr).trans c1; have g2 := (hw'.cell (p := ⟨b, off + k * 2 + 1, none⟩) hbr).trans c2; go_simp; first | done | ((try simp only [d1, d2]); first | done | rfl))); try simp only [Act.put, List.setIfInBounds_toArray, List.set_cons_zero, List.set_cons_succ])
        iterate 6 (refine QW.skip (by rfl) ?_; try simp only [Act.put, List.setIfInBounds_toArray, List.set_cons_zero, List.set_cons_succ])
        iterate 2 (refine QW.take (by rfl) ?_; apply Exists.intro; refine ⟨fun w' hw' => ?_, ?_⟩; (· (have g1 := (hw'.cell (p := ⟨b, off + k * 2, none⟩) hbr).trans c1; have g2 := (hw'.cell (p := ⟨b, off + k * 2 + 1, none⟩) hbr).trans c2; go_simp; first | done | ((try simp only [d1, d2]); first | done | rfl))); try simp only [Act.put, List.setIfInBounds_toArray, List.set_cons_zero, List.set_cons_succ])
        iterate 17 (refine QW.skip (by rfl) ?_; try simp only [Act.put, List.setIfInBounds_toArray, List.set_cons_zero, List.set_cons_succ])
        iterate 1 (refine QW.take (by rfl) ?_; apply Exists.intro; refine ⟨fun w' hw' => ?_, ?_⟩; (· (have g1 := (hw'.cell (p := ⟨b, off + k * 2, none⟩) hbr).trans c1; have g2 := (hw'.cell (p := ⟨b, off + k * 2 + 1, none⟩) hbr).trans c2; go_simp; first | done | ((try simp only [d1, d2]); first | done | rfl))); try simp only [Act.put, List.setIfInBounds_toArray, List.set_cons_zero, List.set_cons_succ])
        refine QW.nil ?_
        intro w2 x2
        have X2 := hide x2
        clear x2
        go_wp2
        go_ret
        refine ⟨?_, bt HQ.out X2.out (Nat.le_refl _)⟩
        rw [decide_eq_false (fun h => hno (by rw [HS.out]; exact (ok_of_isSet h hlt).1))]
        rfl
      have d2 : decide (s.2 < s.1) = false := decide_eq_false z2
      by_cases z3 : 4294967295 < s.2
      · have d3 : decide (4294967295 < s.2) = true := decide_eq_true z3
        have hno : ¬ Bnd s := fun h => by unfold Bnd at h; omega
        go_wp2
        refine wp_region_quiet (C := fun w' => Below wr.heap.size wr w') (by kernel_rfl) (by kernel_rfl) HD.out ?_
        refine QW.out (l := _ :: _) ?_
        iterate 28 (refine QW.take (by rfl) ?_; apply Exists.intro; refine ⟨fun w' hw' => ?_, ?_⟩; (· (have g1 := (hw'.cell (p := ⟨b, off + k * 2, none⟩) hbr).trans c1; have g2 := (hw'.cell (p := ⟨b, off + k * 2 + 1, none⟩) hbr).trans c2; go_simp; first | done | ((try simp only [d1, d2, d3]); first | done | rfl))); try simp only [Act.put, List.setIfInBounds_toArray, List.set_cons_zero, List.set_cons_succ])
        iterate 17 (refine QW.skip (by rfl) ?_; try simp only [Act.put, List.setIfInBounds_toArray, List.set_cons_zero, List.set_cons_succ])
        iterate 1 (refine QW.take (by rfl) ?_; apply Exists.intro; refine ⟨fun w' hw' => ?_, ?_⟩; (· (have g1 := (hw'.cell (p := ⟨b, off + k * 2, none⟩) hbr).trans c1; have g2 := (hw'.cell (p := ⟨b, off + k * 2 + 1, none⟩) hbr).trans c2; go_simp; first | done | ((try simp only [d1, d2, d3]); first | done | rfl))); try simp only [Act.put, List.setIfInBounds_toArray, List.set_cons_zero, List.set_cons_succ])
        refine QW.nil ?_
        intro w2 x2
        have X2 := hide x2
        clear x2
        go_wp2
        go_ret
        refine ⟨?_, bt HQ.out X2.out (Nat.le_refl _)⟩
        rw [decide_eq_false (fun h => hno (by rw [HS.out]; exact (ok_of_isSet h hlt).1))]
        rfl
      have d3 : decide (4294967295 < s.2) = false := decide_eq_false z3
      have hbd : Bnd s := ⟨by omega, by omega, by omega⟩
      by_cases h0 : 0 < k
      · have hp := HC'.out h0
        have hpo := (hok.out (k - 1) (by omega)).1
        obtain ⟨z, hz⟩ : ∃ z, z = L.getD (k - 1) (0, 0) := ⟨_, rfl⟩
        rw [← hz] at hp hpo
        have HZ := hide hz
        clear hz
        have hkz : ((k : Int) - 1) = ((k - 1 : Nat) : Int) := by omega
        have fit : IntKind.i64.wrap ((k - 1 : Nat) : Int) = ((k - 1 : Nat) : Int) := by simp [IntKind.wrap, IntKind.bits, IntKind.signed]; omega
        have fz : IntKind.i64.wrap (s.1 - 2) = s.1 - 2 := by simp [IntKind.wrap, IntKind.bits, IntKind.signed]; omega
        have hi2 : ((k - 1 : Nat) : Int) < (L.length : Int) := by omega
        have hkg : decide ((0 : Int) < (k : Int)) = true := decide_eq_true (by omega)
        by_cases hgap : z.2 + 2 ≤ s.1
        · have hgd : decide (s.1 - 2 < z.2) = false := decide_eq_false (by omega)
          go_wp2
          refine wp_region_quiet (C := fun w' => Below wr.heap.size wr w') (by kernel_rfl) (by kernel_rfl) HD.out ?_
          refine QW.out (l := _ :: _) ?_
          iterate 46 (refine QW.take (by rfl) ?_; apply Exists.intro; refine ⟨fun w' hw' => ?_, ?_⟩; (· (have g1 := (hw'.cell (p := ⟨b, off + k * 2, none⟩) hbr).trans c1; have g2 := (hw'.cell (p := ⟨b, off + k * 2 + 1, none⟩) hbr).trans c2; have g3 := (hw'.cell (p := ⟨b, off + (k - 1) * 2 + 1, none⟩) hbr).trans hp; go_simp; first | done | ((try simp only [d1, d2, d3, fit, fz, hkg, hgd]); first | done | rfl))); try simp only [Act.put, List.setIfInBounds_toArray, List.set_cons_zero, List.set_cons_succ])
          refine QW.nil ?_
          intro w2 x2
          have X2 := hide x2
          clear x2
          go_wp2
          go_roundw
          case rel => exact ⟨k + 1, by omega, by go_num, fun j hj => by
            rcases Nat.lt_or_ge j k with h | h
            · exact hok.out j h
            · rw [show j = k by omega]; exact ⟨by rw [← HS.out]; exact hbd, fun _ => by rw [← HZ.out, ← HS.out]; exact hgap⟩, bt HQ.out X2.out (Nat.le_refl _)⟩
          case measure => simp [intOf]; omega
        · have hgd : decide (s.1 - 2 < z.2) = true := decide_eq_true (by omega)
          go_wp2
          refine wp_region_quiet (C := fun w' => Below wr.heap.size wr w') (by kernel_rfl) (by kernel_rfl) HD.out ?_
          refine QW.out (l := _ :: _) ?_
          iterate 46 (refine QW.take (by rfl) ?_; apply Exists.intro; refine ⟨fun w' hw' => ?_, ?_⟩; (· (have g1 := (hw'.cell (p := ⟨b, off + k * 2, none⟩) hbr).trans c1; have g2 := (hw'.cell (p := ⟨b, off + k * 2 + 1, none⟩) hbr).trans c2; have g3 := (hw'.cell (p := ⟨b, off + (k - 1) * 2 + 1, none⟩) hbr).trans hp; go_simp; first | done | ((try simp only [d1, d2, d3, fit, fz, hkg, hgd]); first | done | rfl))); try simp only [Act.put, List.setIfInBounds_toArray, List.set_cons_zero, List.set_cons_succ])
          refine QW.nil ?_
          intro w2 x2
          have X2 := hide x2
          clear x2
          go_wp2
          go_ret
          refine ⟨?_, bt HQ.out X2.out (Nat.le_refl _)⟩
          rw [decide_eq_false (fun h => by have := (ok_of_isSet h hlt).2 h0; rw [← HZ.out, ← HS.out] at this; omega)]
          rfl
      · have hk0 : ¬ (0 : Int) < (k : Int) := by omega
        have hkg : decide ((0 : Int) < (k : Int)) = false := decide_eq_false hk0
        go_wp2
        refine wp_region_quiet (C := fun w' => Below wr.heap.size wr w') (by kernel_rfl) (by kernel_rfl) HD.out ?_
        refine QW.out (l := _ :: _) ?_
        iterate 31 (refine QW.take (by rfl) ?_; apply Exists.intro; refine ⟨fun w' hw' => ?_, ?_⟩; (· (have g1 := (hw'.cell (p := ⟨b, off + k * 2, none⟩) hbr).trans c1; have g2 := (hw'.cell (p := ⟨b, off + k * 2 + 1, none⟩) hbr).trans c2; go_simp; first | done | ((try simp only [d1, d2, d3, hkg]); first | done | rfl))); try simp only [Act.put, List.setIfInBounds_toArray, List.set_cons_zero, List.set_cons_succ])
        iterate 13 (refine QW.skip (by rfl) ?_; try simp only [Act.put, List.setIfInBounds_toArray, List.set_cons_zero, List.set_cons_succ])
        iterate 2 (refine QW.take (by rfl) ?_; apply Exists.intro; refine ⟨fun w' hw' => ?_, ?_⟩; (· (have g1 := (hw'.cell (p := ⟨b, off + k * 2, none⟩) hbr).trans c1; have g2 := (hw'.cell (p := ⟨b, off + k * 2 + 1, none⟩) hbr).trans c2; go_simp; first | done | ((try simp only [d1, d2, d3, hkg]); first | done | rfl))); try simp only [Act.put, List.setIfInBounds_toArray, List.set_cons_zero, List.set_cons_succ])
        refine QW.nil ?_
        intro w2 x2
        have X2 := hide x2
        clear x2
        go_wp2
        go_roundw
        case rel => exact ⟨k + 1, by omega, by go_num, fun j hj => by rw [show j = k by omega]; exact ⟨by rw [← HS.out]; exact hbd, fun h => absurd h (by omega)⟩, bt HQ.out X2.out (Nat.le_refl _)⟩
        case measure => simp [intOf]; omega
    · have h8 : k = L.length := by omega
      subst h8
      go_wp2
      go_ret
      exact ⟨by rw [decide_eq_true (isSet_of_ok hok.out)]; rfl, HQ.out⟩
end Go.Proofs.YthgikaklcglpiaaGreatDoor.L5
