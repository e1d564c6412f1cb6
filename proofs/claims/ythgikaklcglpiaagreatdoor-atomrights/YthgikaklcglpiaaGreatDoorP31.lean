/-
  The document's names by its contract. Condition: texts and lists no longer than a process can hold.
-/
import Derived.Test.YthgikaklcglpiaaGreatDoorP30
namespace Go.Proofs.YthgikaklcglpiaaGreatDoor.L5
open Go.RowKit Go.Lib

theorem less_tri : ∀ x y : By, (Op.bytesLess x y || x == y) = !Op.bytesLess y x
  | [], [] => by simp [Op.bytesLess]
  | [], _ :: _ => by simp [Op.bytesLess]
  | _ :: _, [] => by simp [Op.bytesLess]
  | a :: x, b :: y => by
    have ih := less_tri x y
    simp only [Op.bytesLess]
    by_cases h1 : a < b
    · have h2 : ¬ b < a := fun h => absurd (UInt8.lt_trans h1 h) (UInt8.lt_irrefl _)
      have h4 : ¬ b = a := fun h => by rw [h] at h1; exact UInt8.lt_irrefl _ h1
      simp [h1, h2, h4]
    · by_cases h2 : b < a
      · have h3 : ¬ a = b := fun h => by rw [h] at h2; exact UInt8.lt_irrefl _ h2
        simp [h1, h2, h3]
      · have h3 : a = b := UInt8.le_antisymm (UInt8.not_lt.1 h2) (UInt8.not_lt.1 h1)
        subst h3
        simp only [h1] at *
        simpa [h1] using ih
set_option maxRecDepth 100000 in
set_option maxHeartbeats 4000000 in
theorem namesD_any (ao : Option Addr) (ac : Nat) (A : List By) (w : World) (hl : A.length ≤ 140737488351232) (hs : ∀ s ∈ A, s.length ≤ 140737488351232) (ha : StAt w ao A) :
    Calls Tryz.prog 48 #[.slice ao A.length ac] w fun e w' => YesNo (AM A) e ∧ Below w.heap.size w w' := by
  have HA := hide ha
  have HS := hide hs
  clear ha hs
  go_enter Tryz.func48, Tryz.ntmps48
  go_wp2
  go_loopg [3, 4] (A.length + 1) (fun g x x4 wr => ∃ k : Nat, x = .int .i64 (k : Nat) ∧ k ≤ A.length ∧ Hid (∀ j, j < k → amAt A j) ∧ Hid (Below w.heap.size w wr) ∧ A.length - k < g)
  case atStart => exact ⟨0, rfl, by omega, hide fun j hj => by omega, hide (Below.refl _ _), by omega⟩
  case round =>
    obtain ⟨k, rfl, hk1, HE, X, hg⟩ := hrel
    have HG := hide hg
    clear hg
    by_cases hk : k < A.length
    · have hk' : (k : Int) < (A.length : Int) := by omega
      obtain ⟨pa, oa, rfl, lp, ca⟩ := (HA.out.below X.out).get hk
      have a0 := ca k hk
      have HK := hide hk
      have HM := hide (methodD_any (A.getD k []) wr (HS.out _ (by rw [List.getD_eq_getElem?_getD, List.getElem?_eq_getElem hk]; exact List.getElem_mem hk)))
      have HAT : Hid (amAt A k ↔ mdB (A.getD k []) grL 16 = true ∧ (0 < k → Op.bytesLess (A.getD (k - 1) []) (A.getD k []) = true)) := Iff.rfl
      have HC := hide (fun (V : World) (y : Below wr.heap.size wr V) => ((HA.out.below (bt X.out y (Nat.le_refl _))).get hk))
      have fw : wrap64 ((k : Int) + 1) = ((k + 1 : Nat) : Int) := by unfold wrap64; omega
      generalize mdB (A.getD k []) grL 16 = q at *
      obtain ⟨x, hx⟩ : ∃ x, x = A.getD k [] := ⟨_, rfl⟩
      rw [← hx] at a0 HM HAT
      have HX := hide hx
      clear ca hk hk1 hx lp
      have HCK : Hid (∀ V, Below wr.heap.size wr V → V.cell? ⟨pa, oa + k, none⟩ = some (.string ⟨x.toArray⟩)) := fun V z => by
        obtain ⟨b, o, e1, _, c⟩ := HC.out V z
        injection e1 with e1
        injection e1 with e1 e2
        subst e1; subst e2
        rw [HX.out]
        exact c k HK.out
      go_upto_region 5 with (go_at_call 87; refine HM.out.mono ?_; rintro e w1 ⟨rfl, x1⟩; have X1 := hide (bt X.out x1 (Nat.le_refl _)); have Y1 := hide x1; clear x1)
      have HD : Hid (Below w1.heap.size w1 w1.drew) := (Below.refl _ _).drew
      clear a0 HM
      cases q with
      | false =>
        refine wp_region_quiet (C := fun w' => Below w1.heap.size w1 w') (by kernel_rfl) (by kernel_rfl) HD.out ?_
        refine QW.out (l := _ :: _) ?_
        iterate 3 (refine QW.take (by rfl) ?_; apply Exists.intro; refine ⟨fun w' hw' => ?_, ?_⟩; (· (skip; go_simp; first | done | (first | done | rfl))); try simp only [Act.put, List.setIfInBounds_toArray, List.set_cons_zero, List.set_cons_succ])
        iterate 14 (refine QW.skip (by rfl) ?_; try simp only [Act.put, List.setIfInBounds_toArray, List.set_cons_zero, List.set_cons_succ])
        iterate 1 (refine QW.take (by rfl) ?_; apply Exists.intro; refine ⟨fun w' hw' => ?_, ?_⟩; (· (skip; go_simp; first | done | (first | done | rfl))); try simp only [Act.put, List.setIfInBounds_toArray, List.set_cons_zero, List.set_cons_succ])
        refine QW.nil ?_
        intro w2 x2
        have X2 := hide (bt X1.out x2 (Nat.le_refl _))
        clear x2
        go_wp2
        go_ret
        exact ⟨.inr ⟨fun h => (by cases (HAT.out.1 (h.2.2 k HK.out)).1), rfl⟩, X2.out⟩
      | true =>
        by_cases h0 : k = 0
        · have hng : ¬ (0 : Int) < (k : Int) := by omega
          have hng' : ¬ 0 < k := by omega
          have HAT2 : Hid (amAt A k) := HAT.out.2 ⟨by first | rfl | trivial, fun h => absurd h hng'⟩
          have hngd : decide ((0 : Int) < (k : Int)) = false := decide_eq_false hng
          have HK0 := hide h0
          clear h0
          refine wp_region_quiet (C := fun w' => Below w1.heap.size w1 w') (by kernel_rfl) (by kernel_rfl) HD.out ?_
          refine QW.out (l := _ :: _) ?_
          iterate 6 (refine QW.take (by rfl) ?_; apply Exists.intro; refine ⟨fun w' hw' => ?_, ?_⟩; (· (skip; go_simp; first | done | (first | done | rfl))); try simp only [Act.put, List.setIfInBounds_toArray, List.set_cons_zero, List.set_cons_succ])
          iterate 10 (refine QW.skip (by rfl) ?_; try simp only [Act.put, List.setIfInBounds_toArray, List.set_cons_zero, List.set_cons_succ])
          iterate 2 (refine QW.take (by rfl) ?_; apply Exists.intro; refine ⟨fun w' hw' => ?_, ?_⟩; (· (skip; go_simp; first | done | (first | done | rfl))); try simp only [Act.put, List.setIfInBounds_toArray, List.set_cons_zero, List.set_cons_succ])
          refine QW.nil ?_
          intro w2 x2
          have X2 := hide (bt X1.out x2 (Nat.le_refl _))
          clear x2
          go_wp2
          go_roundg (A.length - (k + 1) + 1)
          case measure => have := HG.out; have := HK.out; omega
          case rel => exact ⟨k + 1, by first | rfl | (rw [fw]) | go_num | (congr 1; omega), by have := HK.out; omega, hide fun i hi => by
            by_cases e : i = k
            · rw [e]; exact HAT2.out
            · exact HE.out i (by omega), X2, by omega⟩
        · have hgt : (0 : Int) < (k : Int) := by omega
          have hgt' : 0 < k := by omega
          obtain ⟨j, hj⟩ : ∃ j, j + 1 = k := ⟨k - 1, by omega⟩
          have hw1 : (k : Int) - 1 = (j : Int) := by omega
          have hjl : (j : Int) < (A.length : Int) := by have := HK.out; omega
          have hwj : wrap64 (j : Int) = (j : Int) := by have := HK.out; unfold wrap64; omega
          have hwj2 : IntKind.i64.wrap (j : Int) = (j : Int) := by have := HK.out; simp [IntKind.wrap, IntKind.bits, IntKind.signed]; omega
          have hj0 : (0 : Int) ≤ (j : Int) := by omega
          have hjn : ((j : Int)).toNat = j := by simp
          obtain ⟨y, hy⟩ : ∃ y, y = A.getD j [] := ⟨_, rfl⟩
          have HCJ : Hid (∀ V, Below wr.heap.size wr V → V.cell? ⟨pa, oa + j, none⟩ = some (.string ⟨y.toArray⟩)) := fun V z => by
            obtain ⟨b, o, e1, _, c⟩ := HC.out V z
            injection e1 with e1
            injection e1 with e1 e2
            subst e1; subst e2
            rw [hy]
            exact c j (by have := HK.out; omega)
          have HAT2 : Hid (amAt A k ↔ Op.bytesLess y x = true) := by
            have := HAT.out
            rw [show k - 1 = j by omega, ← hy] at this
            exact this.trans ⟨fun h => h.2 hgt', fun h => ⟨by first | rfl | trivial, fun _ => h⟩⟩
          have HJ := hide hj
          have htri := less_tri x y
          clear hy hj HC HAT
          cases hbl : Op.bytesLess y x with
          | true =>
            rw [hbl] at HAT2 htri
            have htri2 : (Op.bytesLess x y || x == y) = false := htri
            clear htri hbl
            refine wp_region_quiet (C := fun w' => Below w1.heap.size w1 w') (by kernel_rfl) (by kernel_rfl) HD.out ?_
            refine QW.out (l := _ :: _) ?_
            iterate 18 (refine QW.take (by rfl) ?_; apply Exists.intro; refine ⟨fun w' hw' => ?_, ?_⟩; (· (have ck := HCK.out w' (bt Y1.out hw' (Nat.le_refl _)); have cj := HCJ.out w' (bt Y1.out hw' (Nat.le_refl _)); go_simp; first | done | ((try simp only [htri2]); first | done | rfl))); try simp only [Act.put, List.setIfInBounds_toArray, List.set_cons_zero, List.set_cons_succ])
            refine QW.nil ?_
            intro w2 x2
            have X2 := hide (bt X1.out x2 (Nat.le_refl _))
            clear x2
            go_wp2
            go_roundg (A.length - (k + 1) + 1)
            case measure => have := HG.out; have := HK.out; omega
            case rel => exact ⟨k + 1, by first | rfl | (rw [fw]) | go_num | (congr 1; omega), by have := HK.out; omega, hide fun i hi => by
              by_cases e : i = k
              · rw [e]; exact HAT2.out.2 (by first | rfl | trivial)
              · exact HE.out i (by omega), X2, by omega⟩
          | false =>
            rw [hbl] at HAT2 htri
            have htri2 : (Op.bytesLess x y || x == y) = true := htri
            clear htri hbl
            refine wp_region_quiet (C := fun w' => Below w1.heap.size w1 w') (by kernel_rfl) (by kernel_rfl) HD.out ?_
            refine QW.out (l := _ :: _) ?_
            iterate 18 (refine QW.take (by rfl) ?_; apply Exists.intro; refine ⟨fun w' hw' => ?_, ?_⟩; (· (have ck := HCK.out w' (bt Y1.out hw' (Nat.le_refl _)); have cj := HCJ.out w' (bt Y1.out hw' (Nat.le_refl _)); go_simp; first | done | ((try simp only [htri2]); first | done | rfl))); try simp only [Act.put, List.setIfInBounds_toArray, List.set_cons_zero, List.set_cons_succ])
            refine QW.nil ?_
            intro w2 x2
            have X2 := hide (bt X1.out x2 (Nat.le_refl _))
            clear x2
            go_wp2
            go_ret
            exact ⟨.inr ⟨fun h => (by cases HAT2.out.1 (h.2.2 k HK.out)), rfl⟩, X2.out⟩
    · have hk' : ¬ (k : Int) < (A.length : Int) := by omega
      have HAL : Hid (∀ j, j < A.length → amAt A j) := fun j hj => HE.out j (by omega)
      by_cases h1 : 1 ≤ A.length
      · have h1' : (1 : Int) ≤ (A.length : Int) := by omega
        by_cases h2 : A.length ≤ 32
        · have h2' : (A.length : Int) ≤ 32 := by omega
          go_wp2
          go_ret
          exact ⟨.inl ⟨⟨h1, h2, HAL.out⟩, by first | rfl | simp [h2']⟩, X.out⟩
        · have h2' : ¬ (A.length : Int) ≤ 32 := by omega
          have h2d : decide ((A.length : Int) ≤ 32) = false := decide_eq_false h2'
          go_wp2
          go_ret
          exact ⟨.inr ⟨fun h => h2 h.2.1, by first | rfl | simp [h2d] | (simp; omega)⟩, X.out⟩
      · have h1' : ¬ (1 : Int) ≤ (A.length : Int) := by omega
        go_wp2
        go_ret
        exact ⟨.inr ⟨fun h => h1 h.1, by first | rfl | simp⟩, X.out⟩
end Go.Proofs.YthgikaklcglpiaaGreatDoor.L5
