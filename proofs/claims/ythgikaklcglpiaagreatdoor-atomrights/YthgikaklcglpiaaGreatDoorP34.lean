/-
  The document's star, one and Takes by their contracts. Condition: a list is no longer than a process can hold.
-/
import Derived.Test.YthgikaklcglpiaaGreatDoorP21
import Derived.Test.YthgikaklcglpiaaGreatDoorP33
namespace Go.Proofs.YthgikaklcglpiaaGreatDoor.L5
open Go.RowKit Go.Lib

set_option maxRecDepth 100000 in
theorem star_any (k b : Int) (no : Bool) (so : Option Addr) (n c : Nat) (w : World) : Calls Tryz.prog 89 #[.agg #[.int .i64 k, .int .i64 b, .bool no, .slice so n c]] w fun e w' => e = .returned (.bool (manyK k)) ∧ Below w.heap.size w w' := by
  by_cases h4 : k = 4
  · have HE : Hid (manyK k = true) := by simp [Hid, manyK, h4]
    go_enter Tryz.func89, Tryz.ntmps89
    go_wp2
    go_ret
    exact ⟨by rw [HE.out]; rfl, al (Below.refl _ _) _⟩
  · by_cases h5 : k = 5
    · have HE : Hid (manyK k = true) := by simp [Hid, manyK, h5]
      go_enter Tryz.func89, Tryz.ntmps89
      go_wp2
      go_ret
      refine ⟨?_, al (Below.refl _ _) _⟩
      rw [HE.out]
      try simp [h5]
    · have HE : Hid (manyK k = false) := by simp [Hid, manyK, h4, h5]
      go_enter Tryz.func89, Tryz.ntmps89
      go_wp2
      go_ret
      refine ⟨?_, al (Below.refl _ _) _⟩
      rw [HE.out]
      try simp [h4, h5]

set_option maxRecDepth 100000 in
set_option maxHeartbeats 4000000 in
theorem one_any (kd kb : Int) (kn : Bool) (ks : Option Addr) (kc : Nat) (S : List Spn) (w : World) (hl : S.length ≤ 140737488351232) (hat : SpAt w ks S) :
    Calls Tryz.prog 88 #[.agg #[.int .i64 kd, .int .i64 kb, .bool kn, .slice ks S.length kc]] w fun e w' => YesNo (Rp ⟨kd, kb, kn, S⟩) e ∧ Below w.heap.size w w' := by
  by_cases h1 : kd = 1
  · subst h1
    clear hat
    cases kn with
    | true =>
      have HN : Hid (¬ Rp ⟨1, kb, true, S⟩) := fun h => by have := (Rp_one.1 h).2.2.1; cases this
      go_enter Tryz.func88, Tryz.ntmps88
      go_wp2
      go_ret
      exact ⟨.no HN.out (by first | rfl | simp_all [beq_eq_false_iff_ne]), al (Below.refl _ _) _⟩
    | false =>
      by_cases a4 : S = []
      · by_cases a1 : (32 : Int) ≤ kb
        · by_cases a2 : kb ≤ 126
          · have HY : Hid (Rp ⟨1, kb, false, S⟩) := Rp_one.2 ⟨a1, a2, rfl, a4⟩
            subst a4
            simp only [List.length_nil]
            go_enter Tryz.func88, Tryz.ntmps88
            go_wp2
            go_ret
            exact ⟨.yes HY.out (by first | rfl | simp_all), al (Below.refl _ _) _⟩
          · have HN : Hid (¬ Rp ⟨1, kb, false, S⟩) := fun h => a2 (Rp_one.1 h).2.1
            subst a4
            simp only [List.length_nil]
            go_enter Tryz.func88, Tryz.ntmps88
            go_wp2
            go_ret
            exact ⟨.no HN.out (by first | rfl | simp_all [beq_eq_false_iff_ne]), al (Below.refl _ _) _⟩
        · have HN : Hid (¬ Rp ⟨1, kb, false, S⟩) := fun h => a1 (Rp_one.1 h).1
          subst a4
          simp only [List.length_nil]
          go_enter Tryz.func88, Tryz.ntmps88
          go_wp2
          go_ret
          exact ⟨.no HN.out (by first | rfl | simp_all [beq_eq_false_iff_ne]), al (Below.refl _ _) _⟩
      · have HN : Hid (¬ Rp ⟨1, kb, false, S⟩) := fun h => a4 (Rp_one.1 h).2.2.2
        have a5 : ¬ ((S.length : Nat) : Int) = 0 := fun h => a4 (List.eq_nil_of_length_eq_zero (by omega))
        go_enter Tryz.func88, Tryz.ntmps88
        go_wp2
        go_ret
        exact ⟨.no HN.out (by first | rfl | simp_all [beq_eq_false_iff_ne]), al (Below.refl _ _) _⟩
  · by_cases h2 : kd = 2
    · subst h2
      clear hat
      by_cases a1 : kb = 0
      · subst a1
        cases kn with
        | true =>
          have HN : Hid (¬ Rp ⟨2, 0, true, S⟩) := fun h => by have := ((Rp_plain (by decide)).1 h).2.1; cases this
          go_enter Tryz.func88, Tryz.ntmps88
          go_wp2
          go_ret
          exact ⟨.no HN.out (by first | rfl | simp_all [beq_eq_false_iff_ne]), al (Below.refl _ _) _⟩
        | false =>
          by_cases a4 : S = []
          · have HY : Hid (Rp ⟨2, 0, false, S⟩) := (Rp_plain (by decide)).2 ⟨rfl, rfl, a4⟩
            subst a4
            simp only [List.length_nil]
            go_enter Tryz.func88, Tryz.ntmps88
            go_wp2
            go_ret
            exact ⟨.yes HY.out (by first | rfl | simp_all), al (Below.refl _ _) _⟩
          · have HN : Hid (¬ Rp ⟨2, 0, false, S⟩) := fun h => a4 ((Rp_plain (by decide)).1 h).2.2
            have a5 : ¬ ((S.length : Nat) : Int) = 0 := fun h => a4 (List.eq_nil_of_length_eq_zero (by omega))
            go_enter Tryz.func88, Tryz.ntmps88
            go_wp2
            go_ret
            exact ⟨.no HN.out (by first | rfl | simp_all [beq_eq_false_iff_ne]), al (Below.refl _ _) _⟩
      · have HN : Hid (¬ Rp ⟨2, kb, kn, S⟩) := fun h => a1 ((Rp_plain (by decide)).1 h).1
        go_enter Tryz.func88, Tryz.ntmps88
        go_wp2
        go_ret
        exact ⟨.no HN.out (by first | rfl | simp_all [beq_eq_false_iff_ne]), al (Below.refl _ _) _⟩
    · by_cases h4 : kd = 4
      · subst h4
        clear hat
        by_cases a1 : kb = 0
        · subst a1
          cases kn with
          | true =>
            have HN : Hid (¬ Rp ⟨4, 0, true, S⟩) := fun h => by have := ((Rp_plain (by decide)).1 h).2.1; cases this
            go_enter Tryz.func88, Tryz.ntmps88
            go_wp2
            go_ret
            exact ⟨.no HN.out (by first | rfl | simp_all [beq_eq_false_iff_ne]), al (Below.refl _ _) _⟩
          | false =>
            by_cases a4 : S = []
            · have HY : Hid (Rp ⟨4, 0, false, S⟩) := (Rp_plain (by decide)).2 ⟨rfl, rfl, a4⟩
              subst a4
              simp only [List.length_nil]
              go_enter Tryz.func88, Tryz.ntmps88
              go_wp2
              go_ret
              exact ⟨.yes HY.out (by first | rfl | simp_all), al (Below.refl _ _) _⟩
            · have HN : Hid (¬ Rp ⟨4, 0, false, S⟩) := fun h => a4 ((Rp_plain (by decide)).1 h).2.2
              have a5 : ¬ ((S.length : Nat) : Int) = 0 := fun h => a4 (List.eq_nil_of_length_eq_zero (by omega))
              go_enter Tryz.func88, Tryz.ntmps88
              go_wp2
              go_ret
              exact ⟨.no HN.out (by first | rfl | simp_all [beq_eq_false_iff_ne]), al (Below.refl _ _) _⟩
        · have HN : Hid (¬ Rp ⟨4, kb, kn, S⟩) := fun h => a1 ((Rp_plain (by decide)).1 h).1
          go_enter Tryz.func88, Tryz.ntmps88
          go_wp2
          go_ret
          exact ⟨.no HN.out (by first | rfl | simp_all [beq_eq_false_iff_ne]), al (Below.refl _ _) _⟩
      · by_cases h5 : kd = 5
        · subst h5
          clear hat
          by_cases a1 : kb = 0
          · subst a1
            cases kn with
            | true =>
              have HN : Hid (¬ Rp ⟨5, 0, true, S⟩) := fun h => by have := ((Rp_plain (by decide)).1 h).2.1; cases this
              go_enter Tryz.func88, Tryz.ntmps88
              go_wp2
              go_ret
              exact ⟨.no HN.out (by first | rfl | simp_all [beq_eq_false_iff_ne]), al (Below.refl _ _) _⟩
            | false =>
              by_cases a4 : S = []
              · have HY : Hid (Rp ⟨5, 0, false, S⟩) := (Rp_plain (by decide)).2 ⟨rfl, rfl, a4⟩
                subst a4
                simp only [List.length_nil]
                go_enter Tryz.func88, Tryz.ntmps88
                go_wp2
                go_ret
                exact ⟨.yes HY.out (by first | rfl | simp_all), al (Below.refl _ _) _⟩
              · have HN : Hid (¬ Rp ⟨5, 0, false, S⟩) := fun h => a4 ((Rp_plain (by decide)).1 h).2.2
                have a5 : ¬ ((S.length : Nat) : Int) = 0 := fun h => a4 (List.eq_nil_of_length_eq_zero (by omega))
                go_enter Tryz.func88, Tryz.ntmps88
                go_wp2
                go_ret
                exact ⟨.no HN.out (by first | rfl | simp_all [beq_eq_false_iff_ne]), al (Below.refl _ _) _⟩
          · have HN : Hid (¬ Rp ⟨5, kb, kn, S⟩) := fun h => a1 ((Rp_plain (by decide)).1 h).1
            go_enter Tryz.func88, Tryz.ntmps88
            go_wp2
            go_ret
            exact ⟨.no HN.out (by first | rfl | simp_all [beq_eq_false_iff_ne]), al (Below.refl _ _) _⟩
        · by_cases h3 : kd = 3
          · subst h3
            by_cases a1 : kb = 0
            · subst a1
              have X1 := hide (al (Below.refl w.heap.size w) (.cells #[.int .i64 3, .int .i64 0, .bool kn, .slice ks S.length kc] 83))
              have B1 := hide (heap_alloc_new w (.cells #[.int .i64 3, .int .i64 0, .bool kn, .slice ks S.length kc] 83))
              have HS := hide (refRight_any ks kc S _ hl (hat.below X1.out))
              by_cases hs : IsSet S
              · rw [decide_eq_true hs] at HS
                by_cases h0 : 0 < S.length
                · obtain ⟨b, off, rfl, hb, hc⟩ := hat.get h0
                  have c0 := (hc 0 h0).1
                  have c1 := (hc (S.length - 1) (by omega)).2
                  simp only [Nat.zero_mul, Nat.add_zero] at c0
                  have hRS := RS_iff hs h0
                  have h0' : (0 : Int) < (S.length : Int) := by omega
                  have hw : IntKind.i64.wrap ((S.length : Int) - 1) = ((S.length - 1 : Nat) : Int) := by simp [IntKind.wrap, IntKind.bits, IntKind.signed]; omega
                  have hlt : ((S.length - 1 : Nat) : Int) < (S.length : Int) := by omega
                  obtain ⟨n1, hn1⟩ : ∃ n1, Hid (n1 = S.length - 1) := ⟨_, rfl⟩
                  rw [← hn1.out] at c1 hRS hw hlt
                  have HRS : Hid (Rp ⟨3, 0, kn, S⟩ ↔ _) := Rp_set.trans ((and_iff_right rfl).trans hRS)
                  generalize (S.getD 0 (0, 0)).1 = x at *
                  generalize (S.getD n1 (0, 0)).2 = y at *
                  clear hc hat hRS
                  by_cases h32 : (32 : Int) ≤ x
                  · by_cases h126 : y ≤ 126
                    · have HY := hide (HRS.out.2 ⟨h32, h126⟩)
                      go_enter Tryz.func88, Tryz.ntmps88
                      go_wp2_with (go_at_call 47; refine HS.out.mono ?_; rintro e w2 ⟨rfl, x2⟩; have X2 := hide (bt X1.out x2 (Nat.le_refl _)); have B2 := (x2.block _ (lt_of_block B1.out)).trans B1.out; obtain ⟨e0, e1, e2, e3⟩ := cells4 B2; clear B2; have d0 := (X2.out.cell (p := ⟨b, off, none⟩) hb).trans c0; have d1 := (X2.out.cell (p := ⟨b, off + n1 * 2 + 1, none⟩) hb).trans c1; have hb2 := Nat.lt_of_lt_of_le hb X2.out.size; clear x2)
                      go_ret
                      exact ⟨.yes HY.out (by first | rfl | simp_all), X2.out⟩
                    · have HN : Hid (¬ Rp ⟨3, 0, kn, S⟩) := fun h => h126 (HRS.out.1 h).2
                      go_enter Tryz.func88, Tryz.ntmps88
                      go_wp2_with (go_at_call 47; refine HS.out.mono ?_; rintro e w2 ⟨rfl, x2⟩; have X2 := hide (bt X1.out x2 (Nat.le_refl _)); have B2 := (x2.block _ (lt_of_block B1.out)).trans B1.out; obtain ⟨e0, e1, e2, e3⟩ := cells4 B2; clear B2; have d0 := (X2.out.cell (p := ⟨b, off, none⟩) hb).trans c0; have d1 := (X2.out.cell (p := ⟨b, off + n1 * 2 + 1, none⟩) hb).trans c1; have hb2 := Nat.lt_of_lt_of_le hb X2.out.size; clear x2)
                      go_ret
                      exact ⟨.no HN.out (by first | rfl | (simp_all; done) | (simp; omega)), X2.out⟩
                  · have HN : Hid (¬ Rp ⟨3, 0, kn, S⟩) := fun h => h32 (HRS.out.1 h).1
                    go_enter Tryz.func88, Tryz.ntmps88
                    go_wp2_with (go_at_call 47; refine HS.out.mono ?_; rintro e w2 ⟨rfl, x2⟩; have X2 := hide (bt X1.out x2 (Nat.le_refl _)); have B2 := (x2.block _ (lt_of_block B1.out)).trans B1.out; obtain ⟨e0, e1, e2, e3⟩ := cells4 B2; clear B2; have d0 := (X2.out.cell (p := ⟨b, off, none⟩) hb).trans c0; have d1 := (X2.out.cell (p := ⟨b, off + n1 * 2 + 1, none⟩) hb).trans c1; have hb2 := Nat.lt_of_lt_of_le hb X2.out.size; clear x2)
                    go_ret
                    exact ⟨.no HN.out (by first | rfl | (simp_all; done) | (simp; omega)), X2.out⟩
                · have hn : ¬ (0 : Int) < (S.length : Int) := by omega
                  have HN : Hid (¬ Rp ⟨3, 0, kn, S⟩) := fun h => (Rp_set.1 h).2.2.1 (List.eq_nil_of_length_eq_zero (by omega))
                  clear hat
                  go_enter Tryz.func88, Tryz.ntmps88
                  go_wp2_with (go_at_call 47; refine HS.out.mono ?_; rintro e w2 ⟨rfl, x2⟩; have X2 := hide (bt X1.out x2 (Nat.le_refl _)); have B2 := (x2.block _ (lt_of_block B1.out)).trans B1.out; obtain ⟨e0, e1, e2, e3⟩ := cells4 B2; clear B2; clear x2)
                  go_ret
                  exact ⟨.no HN.out (by first | rfl | (simp_all; done) | (simp; omega)), X2.out⟩
              · rw [decide_eq_false hs] at HS
                have HN : Hid (¬ Rp ⟨3, 0, kn, S⟩) := fun h => hs (Rp_set.1 h).2.1
                clear hat
                go_enter Tryz.func88, Tryz.ntmps88
                go_wp2_with (go_at_call 47; refine HS.out.mono ?_; rintro e w2 ⟨rfl, x2⟩; have X2 := hide (bt X1.out x2 (Nat.le_refl _)); have B2 := (x2.block _ (lt_of_block B1.out)).trans B1.out; obtain ⟨e0, e1, e2, e3⟩ := cells4 B2; clear B2; clear x2)
                go_ret
                exact ⟨.no HN.out (by first | rfl | (simp_all; done) | (simp; omega)), X2.out⟩
            · have HN : Hid (¬ Rp ⟨3, kb, kn, S⟩) := fun h => a1 (Rp_set.1 h).1
              clear hat
              go_enter Tryz.func88, Tryz.ntmps88
              go_wp2
              go_ret
              exact ⟨.no HN.out (by first | rfl | (simp_all; done)), al (Below.refl _ _) _⟩
          · have HN : Hid (¬ Rp ⟨kd, kb, kn, S⟩) := Rp_other h1 h2 h3 h4 h5
            clear hat
            by_cases a1 : kb = 0
            · cases kn with
              | true =>
                go_enter Tryz.func88, Tryz.ntmps88
                go_wp2
                go_ret
                exact ⟨.no HN.out (by first | rfl | simp_all [beq_eq_false_iff_ne]), al (Below.refl _ _) _⟩
              | false =>
                by_cases a4 : S = []
                · subst a4
                  simp only [List.length_nil]
                  go_enter Tryz.func88, Tryz.ntmps88
                  go_wp2
                  go_ret
                  exact ⟨.no HN.out (by first | rfl | simp_all [beq_eq_false_iff_ne]), al (Below.refl _ _) _⟩
                · have a5 : ¬ ((S.length : Nat) : Int) = 0 := fun h => a4 (List.eq_nil_of_length_eq_zero (by omega))
                  go_enter Tryz.func88, Tryz.ntmps88
                  go_wp2
                  all_goals (go_ret; exact ⟨.no HN.out (by first | rfl | simp_all), al (Below.refl _ _) _⟩)
            · skip
              go_enter Tryz.func88, Tryz.ntmps88
              go_wp2
              go_ret
              exact ⟨.no HN.out (by first | rfl | simp_all [beq_eq_false_iff_ne]), al (Below.refl _ _) _⟩
end Go.Proofs.YthgikaklcglpiaaGreatDoor.L5
/-
  The document's Right of pieces by its contract. Condition: lists are no longer than a process can hold.
-/
namespace Go.Proofs.YthgikaklcglpiaaGreatDoor.L5
open Go.RowKit Go.Lib

/-- What the document has found right. -/
structure RtQ (D : List PD) (k : Nat) : Prop where
  rp : ∀ j (h : j < D.length), j < k → Rp D[j].p
  adj : ∀ i (h : i + 1 < D.length), i < k → ¬ (D[i].p.kind = 4 ∧ manyK D[i + 1].p.kind = true)
theorem RtQ.zero (D : List PD) : RtQ D 0 := ⟨fun _ _ h => absurd h (Nat.not_lt_zero _), fun _ _ h => absurd h (Nat.not_lt_zero _)⟩
theorem RtQ.next {D : List PD} {k : Nat} (h : RtQ D k) (hk : k < D.length) (hp : Rp D[k].p) (ha : ∀ (hj : k + 1 < D.length), ¬ (D[k].p.kind = 4 ∧ manyK D[k + 1].p.kind = true)) : RtQ D (k + 1) := by
  refine ⟨fun j hj hlt => ?_, fun i hi hlt => ?_⟩
  · rcases Nat.lt_or_ge j k with h1 | h1
    · exact h.rp j hj h1
    · obtain rfl : j = k := by omega
      exact hp
  · rcases Nat.lt_or_ge i k with h1 | h1
    · exact h.adj i hi h1
    · obtain rfl : i = k := by omega
      exact ha hi
set_option maxRecDepth 100000 in
set_option maxHeartbeats 4000000 in
theorem refRightP_any (ao : Option Addr) (cap : Nat) (D : List PD) (w : World) (hLen : ∀ d ∈ D, d.p.set.length ≤ 140737488351232) (hat : PcAt w ao D) :
    Calls Tryz.prog 49 #[.slice ao D.length cap] w fun e w' => YesNo (Rt (D.map PD.p)) e ∧ Below w.heap.size w w' := by
  have HAT := hide hat
  have HLEN := hide hLen
  clear hat hLen
  by_cases hl : D.length ≤ 64
  · have hl' : ¬ (64 : Int) < (D.length : Int) := by omega
    go_enter Tryz.func49, Tryz.ntmps49
    go_wp2
    go_loopw [3] (fun x wr => ∃ k : Nat, k ≤ D.length ∧ x = .int .i64 k ∧ Hid (RtQ D k) ∧ Hid (Below w.heap.size w wr)) (fun x _ => D.length - (RowKit.intOf x).toNat)
    case atStart => exact ⟨0, Nat.zero_le _, rfl, RtQ.zero D, Below.refl _ _⟩
    case round =>
      obtain ⟨k, hk, rfl, S, X⟩ := hrel
      rename World => wr
      by_cases hlt : k < D.length
      · have hlt' : (k : Int) < (D.length : Int) := by omega
        rcases HAT.out with h | ⟨pb, off, rfl, hb, hc⟩
        · rw [h] at hlt; simp at hlt
        obtain ⟨p0, p1, p2, p3, p4⟩ := hc k hlt
        have hbw : pb < wr.heap.size := Nat.lt_of_lt_of_le hb X.out.size
        have r0 := (X.out.cell (p := ⟨pb, off + k * 4, none⟩) hb).trans p0
        have r1 := (X.out.cell (p := ⟨pb, off + k * 4 + 1, none⟩) hb).trans p1
        have r2 := (X.out.cell (p := ⟨pb, off + k * 4 + 2, none⟩) hb).trans p2
        have r3 := (X.out.cell (p := ⟨pb, off + k * 4 + 3, none⟩) hb).trans p3
        have P4 := hide (p4.below X.out)
        have HPL := hide (HLEN.out _ (List.getElem_mem hlt))
        have HNX := hide (fun hp ha => S.out.next hlt hp ha)
        have HNR : Hid (¬ Rp D[k].p → ¬ Rt (D.map PD.p)) := fun h1 h2 => h1 (Rt_rp h2 k hlt)
        have HNA : Hid (∀ (hj : k + 1 < D.length), D[k].p.kind = 4 → manyK D[k + 1].p.kind = true → ¬ Rt (D.map PD.p)) := fun hj h1 h2 h3 => Rt_adj h3 k hj ⟨h1, h2⟩
        have HCJ := hide (fun (hj : k + 1 < D.length) => hc (k + 1) hj)
        have HRP := hide (fun W (x : Below wr.heap.size wr W) => one_any D[k].p.kind D[k].p.b D[k].p.no D[k].so D[k].sc D[k].p.set W HPL.out (P4.out.below x))
        have HEP : Hid ((⟨D[k].p.kind, D[k].p.b, D[k].p.no, D[k].p.set⟩ : Pc) = D[k].p) := rfl
        generalize D[k].p = q at *
        generalize D[k].so = ks at *
        generalize D[k].sc = kc at *
        clear hc p0 p1 p2 p3 p4
        go_wp2_with (fail)
        refine (HRP.out _ (Below.refl _ _)).mono ?_
        rintro e w5 ⟨h5, x5⟩
        have X5 := hide x5
        have d0 := (x5.cell (p := ⟨pb, off + k * 4, none⟩) hbw).trans r0
        have XW := hide (bt X.out X5.out (Nat.le_refl _))
        clear x5 r0 r1 r2 r3
        rcases h5 with ⟨hp, rfl⟩ | ⟨hp, rfl⟩
        · have HP := hide hp
          clear hp
          by_cases h4 : q.kind = 4
          · by_cases hj : k + 1 < D.length
            · have hj' : (k : Int) + 1 < (D.length : Int) := by omega
              obtain ⟨p0, p1, p2, p3, p4⟩ := HCJ.out hj
              have hb5 : pb < w5.heap.size := Nat.lt_of_lt_of_le hb XW.out.size
              have s0 := (XW.out.cell (p := ⟨pb, off + (k + 1) * 4, none⟩) hb).trans p0
              have s1 := (XW.out.cell (p := ⟨pb, off + (k + 1) * 4 + 1, none⟩) hb).trans p1
              have s2 := (XW.out.cell (p := ⟨pb, off + (k + 1) * 4 + 2, none⟩) hb).trans p2
              have s3 := (XW.out.cell (p := ⟨pb, off + (k + 1) * 4 + 3, none⟩) hb).trans p3
              have HN1 := hide (HNA.out hj h4)
              have HN2 : Hid (¬ manyK D[k + 1].p.kind = true → RtQ D (k + 1)) := fun h => HNX.out HP.out (fun _ h2 => h h2.2)
              have HMN := hide (fun w => star_any D[k + 1].p.kind D[k + 1].p.b D[k + 1].p.no D[k + 1].so D[k + 1].p.set.length D[k + 1].sc w)
              generalize D[k + 1].p = q1 at *
              generalize D[k + 1].so = ks1 at *
              generalize D[k + 1].sc = kc1 at *
              rw [h4] at d0
              clear HNX HCJ HNA p0 p1 p2 p3 p4 h4
              cases hm : manyK q1.kind with
              | true =>
                have HF := hide (HN1.out hm)
                rw [hm] at HMN
                go_wp2_with (go_at_call 89; refine (HMN.out _).mono ?_; rintro e w6 ⟨rfl, x6⟩; have X6 := hide (bt XW.out x6 (Nat.le_refl _)); clear x6)
                go_ret
                exact ⟨.no HF.out rfl, X6.out⟩
              | false =>
                have S6 := hide (HN2.out (by rw [hm]; decide))
                rw [hm] at HMN
                go_wp2_with (go_at_call 89; refine (HMN.out _).mono ?_; rintro e w6 ⟨rfl, x6⟩; have X6 := hide (bt XW.out x6 (Nat.le_refl _)); clear x6)
                go_roundw
                case rel => exact ⟨k + 1, by omega, by go_num, S6, X6⟩
                case measure => simp [RowKit.intOf]; omega
            · have hj' : ¬ (k : Int) + 1 < (D.length : Int) := by omega
              have S6 := hide (HNX.out HP.out (fun h => absurd h hj))
              rw [h4] at d0
              clear HNX HCJ HNA h4
              go_wp2
              go_roundw
              case rel => exact ⟨k + 1, by omega, by go_num, S6, XW⟩
              case measure => simp [RowKit.intOf]; omega
          · have S6 := hide (HNX.out HP.out (fun _ h => h4 h.1))
            clear HNX HCJ HNA
            go_wp2
            go_roundw
            case rel => exact ⟨k + 1, by omega, by go_num, S6, XW⟩
            case measure => simp [RowKit.intOf]; omega
        · have HF := hide (HNR.out hp)
          clear hp
          go_wp2
          go_ret
          exact ⟨.no HF.out rfl, XW.out⟩
      · have hnl : ¬ (k : Int) < (D.length : Int) := by omega
        have HY : Hid (Rt (D.map PD.p)) := Rt_of hl (fun j hj => S.out.rp j hj (by omega)) (fun i hi => S.out.adj i hi (by omega))
        go_wp2
        go_ret
        exact ⟨.yes HY.out rfl, X.out⟩
  · have hl' : (64 : Int) < (D.length : Int) := by omega
    have HN : Hid (¬ Rt (D.map PD.p)) := fun h => hl (by simpa using h.1)
    go_enter Tryz.func49, Tryz.ntmps49
    go_wp2
    go_ret
    exact ⟨.no HN.out rfl, Below.refl _ _⟩
end Go.Proofs.YthgikaklcglpiaaGreatDoor.L5
