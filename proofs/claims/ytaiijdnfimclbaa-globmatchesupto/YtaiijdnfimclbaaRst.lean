/-
  The document's star, one and Takes by their contracts. Condition: a list is no longer than a process can hold.
-/
import Derived.Test.YtaiijdnfimclbaaRit
import Derived.Test.YtaiijdnfimclbaaAft
import Derived.Test.YtaiijdnfimclbaaRef2
namespace Go.Proofs.Ytaiijdnfimclbaa
open Go.RowKit Go.Lib

set_option maxRecDepth 100000 in
theorem star_any (k b : Int) (no : Bool) (so : Option Addr) (n c : Nat) (w : World) : Calls Try.prog 55 #[.agg #[.int .i64 k, .int .i64 b, .bool no, .slice so n c]] w fun e w' => e = .returned (.bool (manyK k)) ∧ Below w.heap.size w w' := by
  by_cases h4 : k = 4
  · have HE : Hid (manyK k = true) := by simp [Hid, manyK, h4]
    go_enter Try.func55, Try.ntmps55
    go_wp2
    go_ret
    exact ⟨by rw [HE.out]; rfl, al (Below.refl _ _) _⟩
  · by_cases h5 : k = 5
    · have HE : Hid (manyK k = true) := by simp [Hid, manyK, h5]
      go_enter Try.func55, Try.ntmps55
      go_wp2
      go_ret
      refine ⟨?_, al (Below.refl _ _) _⟩
      rw [HE.out]
      try simp [h5]
    · have HE : Hid (manyK k = false) := by simp [Hid, manyK, h4, h5]
      go_enter Try.func55, Try.ntmps55
      go_wp2
      go_ret
      refine ⟨?_, al (Below.refl _ _) _⟩
      rw [HE.out]
      try simp [h4, h5]

set_option maxRecDepth 100000 in
set_option maxHeartbeats 4000000 in
theorem one_any (kd kb : Int) (kn : Bool) (ks : Option Addr) (kc : Nat) (S : List Spn) (w : World) (hl : S.length ≤ 140737488351232) (hat : SpAt w ks S) :
    Calls Try.prog 54 #[.agg #[.int .i64 kd, .int .i64 kb, .bool kn, .slice ks S.length kc]] w fun e w' => YesNo (Rp ⟨kd, kb, kn, S⟩) e ∧ Below w.heap.size w w' := by
  by_cases h1 : kd = 1
  · subst h1
    clear hat
    cases kn with
    | true =>
      have HN : Hid (¬ Rp ⟨1, kb, true, S⟩) := fun h => by have := (Rp_one.1 h).2.2.1; cases this
      go_enter Try.func54, Try.ntmps54
      go_wp2
      go_ret
      exact ⟨.no HN.out (by first | rfl | simp_all [beq_eq_false_iff_ne]), al (Below.refl _ _) _⟩
    | false =>
      by_cases a4 : S = []
      · by_cases a1 : (32 : Int) ≤ kb
        · by_cases a2 : kb ≤ 126
          · have HY : Hid (Rp ⟨1, kb, false, S⟩) := Rp_one.2 ⟨a1, a2, rfl, a4⟩
            subst a4
            simp only [List.length_nil]
            go_enter Try.func54, Try.ntmps54
            go_wp2
            go_ret
            exact ⟨.yes HY.out (by first | rfl | simp_all), al (Below.refl _ _) _⟩
          · have HN : Hid (¬ Rp ⟨1, kb, false, S⟩) := fun h => a2 (Rp_one.1 h).2.1
            subst a4
            simp only [List.length_nil]
            go_enter Try.func54, Try.ntmps54
            go_wp2
            go_ret
            exact ⟨.no HN.out (by first | rfl | simp_all [beq_eq_false_iff_ne]), al (Below.refl _ _) _⟩
        · have HN : Hid (¬ Rp ⟨1, kb, false, S⟩) := fun h => a1 (Rp_one.1 h).1
          subst a4
          simp only [List.length_nil]
          go_enter Try.func54, Try.ntmps54
          go_wp2
          go_ret
          exact ⟨.no HN.out (by first | rfl | simp_all [beq_eq_false_iff_ne]), al (Below.refl _ _) _⟩
      · have HN : Hid (¬ Rp ⟨1, kb, false, S⟩) := fun h => a4 (Rp_one.1 h).2.2.2
        have a5 : ¬ ((S.length : Nat) : Int) = 0 := fun h => a4 (List.eq_nil_of_length_eq_zero (by omega))
        go_enter Try.func54, Try.ntmps54
        go_wp2
        go_ret
        exact ⟨.no HN.out (by first | rfl | simp_all [beq_eq_false_iff_ne]), al (Below.refl _ _) _⟩
  · by_cases h2 : kd = 2
    · subst h2
      clear hat
      by_cases a1 : kb = 0
      · subst a1
        cases kn with
        | true =>
          have HN : Hid (¬ Rp ⟨2, 0, true, S⟩) := fun h => by have := ((Rp_plain (by decide)).1 h).2.1; cases this
          go_enter Try.func54, Try.ntmps54
          go_wp2
          go_ret
          exact ⟨.no HN.out (by first | rfl | simp_all [beq_eq_false_iff_ne]), al (Below.refl _ _) _⟩
        | false =>
          by_cases a4 : S = []
          · have HY : Hid (Rp ⟨2, 0, false, S⟩) := (Rp_plain (by decide)).2 ⟨rfl, rfl, a4⟩
            subst a4
            simp only [List.length_nil]
            go_enter Try.func54, Try.ntmps54
            go_wp2
            go_ret
            exact ⟨.yes HY.out (by first | rfl | simp_all), al (Below.refl _ _) _⟩
          · have HN : Hid (¬ Rp ⟨2, 0, false, S⟩) := fun h => a4 ((Rp_plain (by decide)).1 h).2.2
            have a5 : ¬ ((S.length : Nat) : Int) = 0 := fun h => a4 (List.eq_nil_of_length_eq_zero (by omega))
            go_enter Try.func54, Try.ntmps54
            go_wp2
            go_ret
            exact ⟨.no HN.out (by first | rfl | simp_all [beq_eq_false_iff_ne]), al (Below.refl _ _) _⟩
      · have HN : Hid (¬ Rp ⟨2, kb, kn, S⟩) := fun h => a1 ((Rp_plain (by decide)).1 h).1
        go_enter Try.func54, Try.ntmps54
        go_wp2
        go_ret
        exact ⟨.no HN.out (by first | rfl | simp_all [beq_eq_false_iff_ne]), al (Below.refl _ _) _⟩
    · by_cases h4 : kd = 4
      · subst h4
        clear hat
        by_cases a1 : kb = 0
        · subst a1
          cases kn with
          | true =>
            have HN : Hid (¬ Rp ⟨4, 0, true, S⟩) := fun h => by have := ((Rp_plain (by decide)).1 h).2.1; cases this
            go_enter Try.func54, Try.ntmps54
            go_wp2
            go_ret
            exact ⟨.no HN.out (by first | rfl | simp_all [beq_eq_false_iff_ne]), al (Below.refl _ _) _⟩
          | false =>
            by_cases a4 : S = []
            · have HY : Hid (Rp ⟨4, 0, false, S⟩) := (Rp_plain (by decide)).2 ⟨rfl, rfl, a4⟩
              subst a4
              simp only [List.length_nil]
              go_enter Try.func54, Try.ntmps54
              go_wp2
              go_ret
              exact ⟨.yes HY.out (by first | rfl | simp_all), al (Below.refl _ _) _⟩
            · have HN : Hid (¬ Rp ⟨4, 0, false, S⟩) := fun h => a4 ((Rp_plain (by decide)).1 h).2.2
              have a5 : ¬ ((S.length : Nat) : Int) = 0 := fun h => a4 (List.eq_nil_of_length_eq_zero (by omega))
              go_enter Try.func54, Try.ntmps54
              go_wp2
              go_ret
              exact ⟨.no HN.out (by first | rfl | simp_all [beq_eq_false_iff_ne]), al (Below.refl _ _) _⟩
        · have HN : Hid (¬ Rp ⟨4, kb, kn, S⟩) := fun h => a1 ((Rp_plain (by decide)).1 h).1
          go_enter Try.func54, Try.ntmps54
          go_wp2
          go_ret
          exact ⟨.no HN.out (by first | rfl | simp_all [beq_eq_false_iff_ne]), al (Below.refl _ _) _⟩
      · by_cases h5 : kd = 5
        · subst h5
          clear hat
          by_cases a1 : kb = 0
          · subst a1
            cases kn with
            | true =>
              have HN : Hid (¬ Rp ⟨5, 0, true, S⟩) := fun h => by have := ((Rp_plain (by decide)).1 h).2.1; cases this
              go_enter Try.func54, Try.ntmps54
              go_wp2
              go_ret
              exact ⟨.no HN.out (by first | rfl | simp_all [beq_eq_false_iff_ne]), al (Below.refl _ _) _⟩
            | false =>
              by_cases a4 : S = []
              · have HY : Hid (Rp ⟨5, 0, false, S⟩) := (Rp_plain (by decide)).2 ⟨rfl, rfl, a4⟩
                subst a4
                simp only [List.length_nil]
                go_enter Try.func54, Try.ntmps54
                go_wp2
                go_ret
                exact ⟨.yes HY.out (by first | rfl | simp_all), al (Below.refl _ _) _⟩
              · have HN : Hid (¬ Rp ⟨5, 0, false, S⟩) := fun h => a4 ((Rp_plain (by decide)).1 h).2.2
                have a5 : ¬ ((S.length : Nat) : Int) = 0 := fun h => a4 (List.eq_nil_of_length_eq_zero (by omega))
                go_enter Try.func54, Try.ntmps54
                go_wp2
                go_ret
                exact ⟨.no HN.out (by first | rfl | simp_all [beq_eq_false_iff_ne]), al (Below.refl _ _) _⟩
          · have HN : Hid (¬ Rp ⟨5, kb, kn, S⟩) := fun h => a1 ((Rp_plain (by decide)).1 h).1
            go_enter Try.func54, Try.ntmps54
            go_wp2
            go_ret
            exact ⟨.no HN.out (by first | rfl | simp_all [beq_eq_false_iff_ne]), al (Below.refl _ _) _⟩
        · by_cases h3 : kd = 3
          · subst h3
            by_cases a1 : kb = 0
            · subst a1
              have X1 := hide (al (Below.refl w.heap.size w) (.cells #[.int .i64 3, .int .i64 0, .bool kn, .slice ks S.length kc] 44))
              have B1 := hide (heap_alloc_new w (.cells #[.int .i64 3, .int .i64 0, .bool kn, .slice ks S.length kc] 44))
              have HS := hide (refRight_any ks kc S _ hl (hat.below X1.out))
              by_cases hs : IsSet S
              · rw [decide_eq_true hs] at HS
                by_cases h0 : 0 < S.length
                · obtain ⟨b, off, rfl, hb, hc⟩ := hat.get h0
                  have c0 := (hc 0 h0).1
                  have c1 := (hc (S.length - 1) (by omega)).2
                  simp only [Nat.zero_mul, Nat.add_zero] at c0
                  have hRS := RS_iff hs h0
                  have h0' : (0 : Int) < (S.length : Int) := by omega
                  have hw : IntKind.i64.wrap ((S.length : Int) - 1) = ((S.length - 1 : Nat) : Int) := by simp [IntKind.wrap, IntKind.bits, IntKind.signed]; omega
                  have hlt : ((S.length - 1 : Nat) : Int) < (S.length : Int) := by omega
                  obtain ⟨n1, hn1⟩ : ∃ n1, Hid (n1 = S.length - 1) := ⟨_, rfl⟩
                  rw [← hn1.out] at c1 hRS hw hlt
                  have HRS : Hid (Rp ⟨3, 0, kn, S⟩ ↔ _) := Rp_set.trans ((and_iff_right rfl).trans hRS)
                  generalize (S.getD 0 (0, 0)).1 = x at *
                  generalize (S.getD n1 (0, 0)).2 = y at *
                  clear hc hat hRS
                  by_cases h32 : (32 : Int) ≤ x
                  · by_cases h126 : y ≤ 126
                    · have HY := hide (HRS.out.2 ⟨h32, h126⟩)
                      go_enter Try.func54, Try.ntmps54
                      go_wp2_with (go_at_call 72; refine HS.out.mono ?_; rintro e w2 ⟨rfl, x2⟩; have X2 := hide (bt X1.out x2 (Nat.le_refl _)); have B2 := (x2.block _ (lt_of_block B1.out)).trans B1.out; obtain ⟨e0, e1, e2, e3⟩ := cells4 B2; clear B2; have d0 := (X2.out.cell (p := ⟨b, off, none⟩) hb).trans c0; have d1 := (X2.out.cell (p := ⟨b, off + n1 * 2 + 1, none⟩) hb).trans c1; have hb2 := Nat.lt_of_lt_of_le hb X2.out.size; clear x2)
                      go_ret
                      exact ⟨.yes HY.out (by first | rfl | simp_all), X2.out⟩
                    · have HN : Hid (¬ Rp ⟨3, 0, kn, S⟩) := fun h => h126 (HRS.out.1 h).2
                      go_enter Try.func54, Try.ntmps54
                      go_wp2_with (go_at_call 72; refine HS.out.mono ?_; rintro e w2 ⟨rfl, x2⟩; have X2 := hide (bt X1.out x2 (Nat.le_refl _)); have B2 := (x2.block _ (lt_of_block B1.out)).trans B1.out; obtain ⟨e0, e1, e2, e3⟩ := cells4 B2; clear B2; have d0 := (X2.out.cell (p := ⟨b, off, none⟩) hb).trans c0; have d1 := (X2.out.cell (p := ⟨b, off + n1 * 2 + 1, none⟩) hb).trans c1; have hb2 := Nat.lt_of_lt_of_le hb X2.out.size; clear x2)
                      go_ret
                      exact ⟨.no HN.out (by first | rfl | (simp_all; done) | (simp; omega)), X2.out⟩
                  · have HN : Hid (¬ Rp ⟨3, 0, kn, S⟩) := fun h => h32 (HRS.out.1 h).1
                    go_enter Try.func54, Try.ntmps54
                    go_wp2_with (go_at_call 72; refine HS.out.mono ?_; rintro e w2 ⟨rfl, x2⟩; have X2 := hide (bt X1.out x2 (Nat.le_refl _)); have B2 := (x2.block _ (lt_of_block B1.out)).trans B1.out; obtain ⟨e0, e1, e2, e3⟩ := cells4 B2; clear B2; have d0 := (X2.out.cell (p := ⟨b, off, none⟩) hb).trans c0; have d1 := (X2.out.cell (p := ⟨b, off + n1 * 2 + 1, none⟩) hb).trans c1; have hb2 := Nat.lt_of_lt_of_le hb X2.out.size; clear x2)
                    go_ret
                    exact ⟨.no HN.out (by first | rfl | (simp_all; done) | (simp; omega)), X2.out⟩
                · have hn : ¬ (0 : Int) < (S.length : Int) := by omega
                  have HN : Hid (¬ Rp ⟨3, 0, kn, S⟩) := fun h => (Rp_set.1 h).2.2.1 (List.eq_nil_of_length_eq_zero (by omega))
                  clear hat
                  go_enter Try.func54, Try.ntmps54
                  go_wp2_with (go_at_call 72; refine HS.out.mono ?_; rintro e w2 ⟨rfl, x2⟩; have X2 := hide (bt X1.out x2 (Nat.le_refl _)); have B2 := (x2.block _ (lt_of_block B1.out)).trans B1.out; obtain ⟨e0, e1, e2, e3⟩ := cells4 B2; clear B2; clear x2)
                  go_ret
                  exact ⟨.no HN.out (by first | rfl | (simp_all; done) | (simp; omega)), X2.out⟩
              · rw [decide_eq_false hs] at HS
                have HN : Hid (¬ Rp ⟨3, 0, kn, S⟩) := fun h => hs (Rp_set.1 h).2.1
                clear hat
                go_enter Try.func54, Try.ntmps54
                go_wp2_with (go_at_call 72; refine HS.out.mono ?_; rintro e w2 ⟨rfl, x2⟩; have X2 := hide (bt X1.out x2 (Nat.le_refl _)); have B2 := (x2.block _ (lt_of_block B1.out)).trans B1.out; obtain ⟨e0, e1, e2, e3⟩ := cells4 B2; clear B2; clear x2)
                go_ret
                exact ⟨.no HN.out (by first | rfl | (simp_all; done) | (simp; omega)), X2.out⟩
            · have HN : Hid (¬ Rp ⟨3, kb, kn, S⟩) := fun h => a1 (Rp_set.1 h).1
              clear hat
              go_enter Try.func54, Try.ntmps54
              go_wp2
              go_ret
              exact ⟨.no HN.out (by first | rfl | (simp_all; done)), al (Below.refl _ _) _⟩
          · have HN : Hid (¬ Rp ⟨kd, kb, kn, S⟩) := Rp_other h1 h2 h3 h4 h5
            clear hat
            by_cases a1 : kb = 0
            · cases kn with
              | true =>
                go_enter Try.func54, Try.ntmps54
                go_wp2
                go_ret
                exact ⟨.no HN.out (by first | rfl | simp_all [beq_eq_false_iff_ne]), al (Below.refl _ _) _⟩
              | false =>
                by_cases a4 : S = []
                · subst a4
                  simp only [List.length_nil]
                  go_enter Try.func54, Try.ntmps54
                  go_wp2
                  go_ret
                  exact ⟨.no HN.out (by first | rfl | simp_all [beq_eq_false_iff_ne]), al (Below.refl _ _) _⟩
                · have a5 : ¬ ((S.length : Nat) : Int) = 0 := fun h => a4 (List.eq_nil_of_length_eq_zero (by omega))
                  go_enter Try.func54, Try.ntmps54
                  go_wp2
                  all_goals (go_ret; exact ⟨.no HN.out (by first | rfl | simp_all), al (Below.refl _ _) _⟩)
            · skip
              go_enter Try.func54, Try.ntmps54
              go_wp2
              go_ret
              exact ⟨.no HN.out (by first | rfl | simp_all [beq_eq_false_iff_ne]), al (Below.refl _ _) _⟩
end Go.Proofs.Ytaiijdnfimclbaa
