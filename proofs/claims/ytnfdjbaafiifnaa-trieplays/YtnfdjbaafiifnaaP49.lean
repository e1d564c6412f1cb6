/-
  scriptWeighs by its contract: a script that it lets pass has few steps, and short lists. No condition.
-/
import Derived.Test.YtnfdjbaafiifnaaP48
namespace Go.Proofs.Ytnfdjbaafiifnaa
open Go.RowKit Go.Lib

def adu (n m : Nat) : Nat := if 2147483647 < n ∨ 2147483647 < m then 2147483648 else n + m
set_option maxRecDepth 100000 in
theorem addsUp_any (n m : Nat) (w : World) : Calls Try.prog 24 #[.int .i64 (n : Int), .int .i64 (m : Int)] w fun e w' => e = .returned (.int .i64 ((adu n m : Nat) : Int)) ∧ w' = w := by
  by_cases h1 : 2147483647 < n
  · have h1' : (2147483647 : Int) < n := by omega
    rw [show adu n m = 2147483648 from if_pos (.inl h1)]
    go_enter Try.func24, Try.ntmps24
    go_wp2
    go_ret
    exact ⟨rfl, rfl⟩
  · have h1' : ¬ (2147483647 : Int) < n := by omega
    by_cases h2 : 2147483647 < m
    · have h2' : (2147483647 : Int) < m := by omega
      rw [show adu n m = 2147483648 from if_pos (.inr h2)]
      go_enter Try.func24, Try.ntmps24
      go_wp2
      go_ret
      exact ⟨rfl, rfl⟩
    · have h2' : ¬ (2147483647 : Int) < m := by omega
      rw [show adu n m = n + m from if_neg (by omega)]
      have fw : IntKind.i64.wrap ((n : Int) + (m : Int)) = ((n + m : Nat) : Int) := by rw [← Int.natCast_add]; simp [IntKind.wrap, IntKind.bits, IntKind.signed]; omega
      generalize n + m = q at *
      go_enter Try.func24, Try.ntmps24
      go_wp2
      go_ret
      exact ⟨rfl, rfl⟩
/-- What a weight says of the steps so far. -/
def Wei (S : List OpZ) (i n : Nat) : Prop := n ≤ 4294967294 ∧ (n ≤ 2147483647 → S.length + i ≤ n ∧ ∀ j (h : j < S.length), j < i → S[j].L.length ≤ 2147483647 ∧ S[j].R.length ≤ 2147483647)
theorem adu_le (n m : Nat) : adu n m ≤ 4294967294 := by
  unfold adu
  split <;> omega
theorem adu_in {n m : Nat} (h : adu n m ≤ 2147483647) : n ≤ 2147483647 ∧ m ≤ 2147483647 ∧ adu n m = n + m := by
  unfold adu at h ⊢
  split at h
  · omega
  · rename_i h1
    rw [if_neg h1]
    omega
theorem Wei.start (S : List OpZ) : Wei S 0 (adu 0 S.length) := ⟨adu_le _ _, fun h => by obtain ⟨_, _, h3⟩ := adu_in h; exact ⟨by omega, fun j _ h => by omega⟩⟩
theorem Wei.step {S : List OpZ} {i n : Nat} (h : Wei S i n) (hi : i < S.length) : Wei S (i + 1) (adu n (adu 70000 (adu S[i].L.length S[i].R.length))) := ⟨adu_le _ _, fun g => by
  obtain ⟨g1, g2, g3⟩ := adu_in g
  obtain ⟨g4, g5, g6⟩ := adu_in g2
  obtain ⟨g7, g8, g9⟩ := adu_in g5
  obtain ⟨h1, h3⟩ := h.2 g1
  refine ⟨by omega, fun j hj hlt => ?_⟩
  rcases Nat.lt_or_ge j i with hj2 | hj2
  · exact h3 j hj hj2
  · obtain rfl : j = i := by omega
    exact ⟨g7, g8⟩⟩
set_option maxRecDepth 100000 in
set_option maxHeartbeats 1000000 in
theorem weighs_any (so : Option Addr) (cap : Nat) (S : List OpZ) (w : World) (hl : S.length ≤ 140737488351232) (hat : OpAt w so S) :
    Calls Try.prog 7 #[.slice so S.length cap] w fun e w' => (∃ n, e = .returned (.int .i64 ((n : Nat) : Int)) ∧ n ≤ 4294967294 ∧ (n ≤ 2147483647 → S.length ≤ 1073741823 ∧ ∀ j (h : j < S.length), S[j].L.length ≤ 2147483647 ∧ S[j].R.length ≤ 2147483647)) ∧ Below w.heap.size w w' := by
  have HAT := hide hat
  have HW0 := hide (Wei.start S)
  have HA0 := hide (addsUp_any 0 S.length)
  clear hat
  generalize adu 0 S.length = n0 at *
  go_enter Try.func7, Try.ntmps7
  go_wp2_with (go_at_call 24; refine (HA0.out _).mono ?_; rintro e wz ⟨rfl, hwz⟩; have hwz := hwz.symm; subst hwz)
  clear HA0
  go_loopw [3, 4] (fun y x wr => ∃ i n : Nat, i ≤ S.length ∧ x = .int .i64 i ∧ y = .int .i64 n ∧ Hid (Wei S i n) ∧ Hid (Below w.heap.size w wr)) (fun _ x _ => S.length - (RowKit.intOf x).toNat)
  case atStart => exact ⟨0, n0, Nat.zero_le _, rfl, rfl, HW0, Below.refl _ _⟩
  case round =>
    obtain ⟨i, n, hi, rfl, rfl, HW, HX⟩ := hrel
    by_cases hlt : i < S.length
    · have hlt' : (i : Int) < S.length := by omega
      by_cases hn : n ≤ 2147483647
      · have hn' : (n : Int) ≤ 2147483647 := by omega
        rcases HAT.out.below HX.out with h0 | ⟨b, off, rfl, hb, hc⟩
        · rw [h0] at hlt; simp at hlt
        obtain ⟨⟨_, _, _, _, _, c5, c6⟩, _⟩ := hc i hlt
        have HW2 := hide (HW.out.step hlt)
        clear hc HW0
        generalize S[i].la = la at *
        generalize S[i].ra = ra at *
        generalize S[i].lc = lc at *
        generalize S[i].rc = rc at *
        generalize S[i].L.length = ll at *
        generalize S[i].R.length = rl at *
        have HC1 := hide (addsUp_any ll rl)
        generalize adu ll rl = q1 at *
        have HC2 := hide (addsUp_any 70000 q1)
        generalize adu 70000 q1 = q2 at *
        have HC3 := hide (addsUp_any n q2)
        generalize adu n q2 = q3 at *
        have HDr : Hid (Below wr.heap.size wr wr.drew) := (Below.refl _ _).drew
        go_upto_region 5 with fail
        refine wp_region_quiet (C := fun w' => Below wr.heap.size wr w') (by kernel_rfl) (by kernel_rfl) HDr.out ?_
        refine QW.out (l := _ :: _) ?_
        iterate 13 (refine QW.take (by rfl) ?_; apply Exists.intro; refine ⟨fun w' hw' => ?_, ?_⟩; (· (have g1 := (hw'.cell (p := ⟨b, off + i * 7 + 5, none⟩) hb).trans c5; have g2 := (hw'.cell (p := ⟨b, off + i * 7 + 6, none⟩) hb).trans c6; go_simp; first | done | rfl)); try simp only [Act.put, List.setIfInBounds_toArray, List.set_cons_zero, List.set_cons_succ])
        refine QW.take (by rfl) ?_
        apply Exists.intro
        refine ⟨fun w' hw' => ?_, ?_⟩
        · go_simp
          refine (HC1.out w').mono ?_
          rintro e w2 ⟨rfl, rfl⟩
          exact ⟨rfl, hw'⟩
        try simp only [Act.put, List.setIfInBounds_toArray, List.set_cons_zero, List.set_cons_succ]
        refine QW.take (by rfl) ?_
        apply Exists.intro
        refine ⟨fun w' hw' => ?_, ?_⟩
        · go_simp
          refine (HC2.out w').mono ?_
          rintro e w2 ⟨rfl, rfl⟩
          exact ⟨rfl, hw'⟩
        try simp only [Act.put, List.setIfInBounds_toArray, List.set_cons_zero, List.set_cons_succ]
        refine QW.take (by rfl) ?_
        apply Exists.intro
        refine ⟨fun w' hw' => ?_, ?_⟩
        · go_simp
          refine (HC3.out w').mono ?_
          rintro e w2 ⟨rfl, rfl⟩
          exact ⟨rfl, hw'⟩
        try simp only [Act.put, List.setIfInBounds_toArray, List.set_cons_zero, List.set_cons_succ]
        iterate 1 (refine QW.take (by rfl) ?_; apply Exists.intro; refine ⟨fun w' hw' => ?_, ?_⟩; (· (go_simp; first | done | rfl)); try simp only [Act.put, List.setIfInBounds_toArray, List.set_cons_zero, List.set_cons_succ])
        refine QW.nil ?_
        intro w7 x7
        have X7 := hide (HX.out.trans (x7.mono HX.out.size))
        clear x7 c5 c6 HC1 HC2 HC3
        go_wp2
        go_roundw
        case rel => exact ⟨i + 1, q3, by omega, by go_num, rfl, HW2, X7⟩
        case measure => simp [RowKit.intOf]; omega
      · have hn' : ¬ (n : Int) ≤ 2147483647 := by omega
        go_wp2
        go_ret
        exact ⟨⟨n, rfl, HW.out.1, fun h => absurd h hn⟩, HX.out⟩
    · have hlt' : ¬ (i : Int) < S.length := by omega
      go_wp2
      go_ret
      refine ⟨⟨n, rfl, HW.out.1, fun h => ?_⟩, HX.out⟩
      obtain ⟨g1, g3⟩ := HW.out.2 h
      exact ⟨by have : i = S.length := by omega
                omega, fun j hj => g3 j hj (by omega)⟩
end Go.Proofs.Ytnfdjbaafiifnaa
