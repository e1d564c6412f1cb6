/-
  GlobOnes, walked: whatever it is given, it answers true; nothing that was there has turned. Condition: the pattern has at most 2^32 bytes, the number is of the machine's kind.
-/
import Derived.Test.YtaiijdnfimclbaaTkw
namespace Go.Proofs.Ytaiijdnfimclbaa
open Go.RowKit Go.Lib

theorem Rt_one {p : Pc} (h : Rp p) : Rt [p] := ⟨by simp, fun q hq => by rw [List.mem_singleton.1 hq]; exact h, fun i hi => absurd hi (by simp)⟩
set_option maxRecDepth 100000 in
set_option maxHeartbeats 8000000 in
theorem globOnes_any (a : By) (at' : Int) (s : By) (w : World) (ha : a.length ≤ 4294967296) (hat' : Fit at') (hs : s.length ≤ 140737488351232) :
    Calls Try.prog 8 #[.string ⟨a.toArray⟩, .int .i64 at', .string ⟨s.toArray⟩] w fun e w' => e = .returned (.bool true) ∧ Below w.heap.size w w' := by
  go_enter Try.func8, Try.ntmps8
  go_wp2_with (fail)
  refine (known_any w).mono ?_
  rintro e w1 ⟨rfl, x1⟩
  have X1 := hide x1
  clear x1
  go_wp2_with (fail)
  refine (parse_any a w1 ha).mono ?_
  rintro e w2 ⟨h2, x2⟩
  have X2 := hide (bt X1.out x2 (Nat.le_refl _))
  cases hp1 : parL a with
  | error t1 =>
    obtain ⟨rfl, _⟩ := h2.err hp1
    clear h2 x2 hp1
    go_wp2
    go_ret
    exact ⟨rfl, X2.out⟩
  | ok L1 =>
    obtain ⟨v1, D, rfl, o1, hD1⟩ := h2.ok hp1
    obtain ⟨a1, c1, rfl, _, at1⟩ := o1.at
    have R1 := hide (parL_right hp1)
    subst hD1
    clear h2 hp1 o1 x2
    by_cases h0 : D.length = 0
    · obtain rfl := List.eq_nil_of_length_eq_zero h0
      simp only [List.length_nil]
      go_wp2
      go_ret
      exact ⟨rfl, X2.out⟩
    · have h0' : ¬ ((D.length : Nat) : Int) = 0 := by omega
      have hne : ¬ D = [] := fun h => h0 (by rw [h]; rfl)
      have hl : D.length ≤ 64 := by simpa using R1.out.1
      have HPK := hide (fun W => pick_any at' D.length hat' (by omega) (by omega) W)
      have hj : pkZ at' D.length < D.length := pkZ_lt _ (by omega)
      obtain ⟨j, hje⟩ : ∃ j, Hid (j = pkZ at' D.length) := ⟨_, rfl⟩
      rw [← hje.out] at HPK hj
      have hj' : (j : Int) < (D.length : Int) := by omega
      rcases at1 with h | ⟨pb, off, rfl, hb, hc⟩
      · exact absurd h hne
      obtain ⟨r0, r1, r2, r3, r4⟩ := hc j hj
      have RP := hide (Rt_rp R1.out j hj)
      have PL := hide (right_set_len R1.out D[j].p (List.mem_map.2 ⟨_, List.getElem_mem hj, rfl⟩))
      generalize D[j] = d at *
      obtain ⟨⟨kd, kb, kn, kS⟩, ks, kc⟩ := d
      simp only at r0 r1 r2 r3 r4 RP PL
      have P4 := hide r4
      have Xa := hide (al (Below.refl w2.heap.size w2) (.cells #[.int .i64 kd, .int .i64 kb, .bool kn, .slice ks kS.length kc] 44))
      have Xb := hide (al Xa.out (.cells #[.int .i64 kd, .int .i64 kb, .bool kn, .slice ks kS.length kc] 44))
      have Ba := hide (heap_alloc_new w2 (.cells #[.int .i64 kd, .int .i64 kb, .bool kn, .slice ks kS.length kc] 44))
      have Ba' : Hid (((w2.alloc (.cells #[.int .i64 kd, .int .i64 kb, .bool kn, .slice ks kS.length kc] 44)).alloc (.cells #[.int .i64 kd, .int .i64 kb, .bool kn, .slice ks kS.length kc] 44)).heap[w2.heap.size]? = some (.cells #[.int .i64 kd, .int .i64 kb, .bool kn, .slice ks kS.length kc] 44 (0, 0))) := ((al (Below.refl _ _) _ : Below (w2.alloc (.cells #[.int .i64 kd, .int .i64 kb, .bool kn, .slice ks kS.length kc] 44)).heap.size (w2.alloc (.cells #[.int .i64 kd, .int .i64 kb, .bool kn, .slice ks kS.length kc] 44)) _).block _ (lt_of_block Ba.out)).trans Ba.out
      have Bb := heap_alloc_new (w2.alloc (.cells #[.int .i64 kd, .int .i64 kb, .bool kn, .slice ks kS.length kc] 44)) (.cells #[.int .i64 kd, .int .i64 kb, .bool kn, .slice ks kS.length kc] 44)
      rw [show (w2.alloc (.cells #[.int .i64 kd, .int .i64 kb, .bool kn, .slice ks kS.length kc] 44)).heap.size = w2.heap.size + 1 by simp] at Bb
      have AT : Hid (PcAt ((w2.alloc (.cells #[.int .i64 kd, .int .i64 kb, .bool kn, .slice ks kS.length kc] 44)).alloc (.cells #[.int .i64 kd, .int .i64 kb, .bool kn, .slice ks kS.length kc] 44)) (some ⟨w2.heap.size + 1, 0, none⟩) [⟨⟨kd, kb, kn, kS⟩, ks, kc⟩]) := by
        obtain ⟨e0, e1, e2, e3⟩ := cells4 Bb
        refine .inr ⟨w2.heap.size + 1, 0, rfl, lt_of_block Bb, fun i hi => ?_⟩
        have : i = 0 := by simpa using hi
        subst this
        exact ⟨e0, e1, e2, e3, P4.out.below Xb.out⟩
      have HM := hide (matchOk_any (some ⟨w2.heap.size + 1, 0, none⟩) 1 [⟨⟨kd, kb, kn, kS⟩, ks, kc⟩] s _ hs (Rt_one RP.out) AT.out)
      rw [List.map_cons, List.map_nil, match_one RP.out, List.length_cons, List.length_nil] at HM
      have HM0 := hide (fun W => matchOk_any none 0 [] s W hs Rt.nil (.inl rfl))
      simp only [List.map_nil, List.length_nil, match_none] at HM0
      have HTK := hide (fun W (x : Below w2.heap.size w2 W) => takes_any kd kb kn ks kc kS s W hs PL.out RP.out (P4.out.below x))
      generalize takesB ⟨kd, kb, kn, kS⟩ s = tb at *
      clear hc r4 Bb
      go_wp2_with (first
        | (go_at_call 22; refine (HPK.out _).mono ?_; rintro e w2' ⟨rfl, hw⟩; have hw := hw.symm; subst hw))
      refine HM.out.mono ?_
      rintro e w3 ⟨rfl, x3⟩
      have X3 := hide (bt Xb.out x3 (Nat.le_refl _))
      have B3 := hide ((x3.block _ (lt_of_block Ba'.out)).trans Ba'.out)
      clear x3 HM r0 r1 r2 r3
      go_wp2_with (fail)
      refine (HM0.out _).mono ?_
      rintro e w4 ⟨rfl, x4⟩
      have X4 := hide (bt X3.out x4 (Nat.le_refl _))
      have B4 := hide ((x4.block _ (lt_of_block B3.out)).trans B3.out)
      obtain ⟨e0, e1, e2, e3⟩ := cells4 B4.out
      clear x4
      go_wp2_with (fail)
      refine (HTK.out _ X4.out).mono ?_
      rintro e w5 ⟨rfl, x5⟩
      have X5 := hide (bt X2.out (bt X4.out x5 (Nat.le_refl _)) (Nat.le_refl _))
      clear x5 e0 e1 e2 e3
      go_wp2
      go_ret
      refine ⟨?_, X5.out⟩
      cases tb <;> cases s <;> simp
end Go.Proofs.Ytaiijdnfimclbaa
