/-
  The statements' weight and beyond by their contracts. Condition: lists are no longer than a process can hold.
-/
import Derived.Test.YtaiijdnfimclbaaPta
namespace Go.Proofs.Ytaiijdnfimclbaa
open Go.RowKit Go.Lib

/-- So much the first k have. -/
def wgL (D : List PD) (k : Nat) : Int := ((D.take k).map fun d => 10 + 20 * (min (d.p.set.length : Int) 2147483647)).sum
theorem wgL_succ (D : List PD) (k : Nat) (h : k < D.length) : wgL D (k + 1) = wgL D k + (10 + 20 * (min (D[k].p.set.length : Int) 2147483647)) := by
  unfold wgL
  rw [List.take_succ_eq_append_getElem h, List.map_append, List.sum_append]
  simp
theorem wgL_nonneg (D : List PD) : ∀ k, 0 ≤ wgL D k
  | 0 => by simp [wgL]
  | k + 1 => by
    by_cases h : k < D.length
    · rw [wgL_succ D k h]; have := wgL_nonneg D k; omega
    · have := wgL_nonneg D k
      unfold wgL at this ⊢
      rw [List.take_of_length_le (by omega)] at this ⊢
      exact this
theorem wgL_set (D : List PD) : ∀ k, k ≤ D.length → wgL D k ≤ 2147483647 → ∀ j (h : j < D.length), j < k → D[j].p.set.length ≤ 2147483647
  | 0, _, _ => fun j h hj => absurd hj (Nat.not_lt_zero _)
  | k + 1, hk, hw => fun j h hj => by
    have hs := wgL_succ D k (by omega)
    have hn := wgL_nonneg D k
    rcases Nat.lt_or_ge j k with h1 | h1
    · exact wgL_set D k (by omega) (by omega) j h h1
    · have : j = k := by omega
      subst this
      omega
/-- What weight tells. -/
def WgIs (D : List PD) (N : Int) : Prop := 0 ≤ N ∧ N ≤ 60000000000 ∧ (N ≤ 2147483647 → ∀ d ∈ D, d.p.set.length ≤ 2147483647)
set_option maxRecDepth 100000 in
set_option maxHeartbeats 4000000 in
theorem weight_any (ao : Option Addr) (cap : Nat) (D : List PD) (w : World) (hl : D.length ≤ 140737488351232) (hat : PcAt w ao D) :
    Calls Try.prog 27 #[.slice ao D.length cap] w fun e w' => (∃ N, e = .returned (.int .i64 N) ∧ WgIs D N) ∧ Below w.heap.size w w' := by
  have HAT := hide hat
  clear hat
  go_enter Try.func27, Try.ntmps27
  go_wp2
  go_loopw [3, 4] (fun nn x wr => ∃ k : Nat, k ≤ D.length ∧ x = .int .i64 k ∧ nn = .int .i64 (wgL D k) ∧ Hid (wgL D k ≤ 60000000000) ∧ Hid (Below w.heap.size w wr)) (fun _ x _ => D.length - (RowKit.intOf x).toNat)
  case atStart => exact ⟨0, Nat.zero_le _, rfl, rfl, by simp [Hid, wgL], Below.refl _ _⟩
  case round =>
    obtain ⟨k, hk, rfl, rfl, HB, X⟩ := hrel
    rename World => wr
    have h0 := wgL_nonneg D k
    by_cases hlt : k < D.length
    · have hlt' : (k : Int) < (D.length : Int) := by omega
      by_cases hw : wgL D k ≤ 2147483647
      · rcases HAT.out with h | ⟨b, o, rfl, hb, hc⟩
        · rw [h] at hlt; simp at hlt
        have r3 := (X.out.cell (p := ⟨b, o + k * 4 + 3, none⟩) hb).trans (hc k hlt).2.2.2.1
        have HS := hide (wgL_succ D k hlt)
        have hN := hide (wgL_nonneg D (k + 1))
        generalize D[k] = d at *
        obtain ⟨m, hm⟩ : ∃ m : Int, m = min (d.p.set.length : Int) 2147483647 := ⟨_, rfl⟩
        have hm0 : 0 ≤ m ∧ m ≤ 2147483647 := by omega
        have HMM := hide hm
        rw [← hm] at HS
        generalize wgL D k = N at *
        have w1 : IntKind.i64.wrap (N + 10) = N + 10 := by simp [IntKind.wrap, IntKind.bits, IntKind.signed]; omega
        have w2 : IntKind.i64.wrap (20 * m) = 20 * m := by simp [IntKind.wrap, IntKind.bits, IntKind.signed]; omega
        have w3 : IntKind.i64.wrap (N + 10 + 20 * m) = N + 10 + 20 * m := by simp [IntKind.wrap, IntKind.bits, IntKind.signed]; omega
        have hmm : min (d.p.set.length : Int) 2147483647 = m := hm.symm
        clear hm hc
        go_wp2
        go_roundw
        case rel => exact ⟨k + 1, by omega, by go_num, by rw [HS.out]; congr 1; omega, by unfold Hid; rw [HS.out]; omega, X⟩
        case measure => simp [RowKit.intOf]; omega
      · have hw' : ¬ wgL D k ≤ 2147483647 := hw
        have HF : Hid (WgIs D (wgL D k)) := ⟨h0, HB.out, fun h => absurd h hw⟩
        generalize wgL D k = N at *
        go_wp2
        go_ret
        exact ⟨⟨_, rfl, HF.out⟩, X.out⟩
    · have hnl : ¬ (k : Int) < (D.length : Int) := by omega
      have hkl : k = D.length := by omega
      subst hkl
      have HF : Hid (WgIs D (wgL D D.length)) := ⟨h0, HB.out, fun h d hd => by
        obtain ⟨j, hj, rfl⟩ := List.getElem_of_mem hd
        exact wgL_set D D.length (Nat.le_refl _) h j hj hj⟩
      generalize wgL D D.length = N at *
      go_wp2
      go_ret
      exact ⟨⟨_, rfl, HF.out⟩, X.out⟩
/-- What beyond tells. -/
def ByIs (D : List PD) (s : By) (e : Ending) : Prop := e = .returned (.bool true) ∨ (e = .returned (.bool false) ∧ (∀ d ∈ D, d.p.set.length ≤ 2147483647) ∧ s.length ≤ 2147483647)
set_option maxRecDepth 100000 in
set_option maxHeartbeats 1000000 in
theorem beyond_any (ao : Option Addr) (cap : Nat) (D : List PD) (s : By) (w : World) (hl : D.length ≤ 140737488351232) (hs : s.length ≤ 140737488351232) (hat : PcAt w ao D) :
    Calls Try.prog 15 #[.slice ao D.length cap, .string ⟨s.toArray⟩] w fun e w' => ByIs D s e ∧ Below w.heap.size w w' := by
  have HW := hide (weight_any ao cap D w hl hat)
  clear hat
  go_enter Try.func15, Try.ntmps15
  go_wp2_with (fail)
  refine HW.out.mono ?_
  rintro e w1 ⟨⟨N, rfl, h0, h1, h2⟩, x1⟩
  have X1 := hide x1
  have H2 := hide h2
  clear x1 h2
  by_cases hN : N ≤ 2147483647
  · have hN' : ¬ (2147483647 : Int) < N := by omega
    have w1' : IntKind.i64.wrap (2147483647 - N) = 2147483647 - N := by simp [IntKind.wrap, IntKind.bits, IntKind.signed]; omega
    by_cases hb : 2147483647 - N < (s.length : Int)
    · go_wp2
      go_ret
      exact ⟨.inl rfl, X1.out⟩
    · have HF : Hid ((∀ d ∈ D, d.p.set.length ≤ 2147483647) ∧ s.length ≤ 2147483647) := ⟨H2.out hN, by omega⟩
      go_wp2
      go_ret
      exact ⟨.inr ⟨show Ending.returned (Value.bool (decide (2147483647 < N) || decide (2147483647 - N < (s.length : Int)))) = _ by rw [decide_eq_false (by omega), decide_eq_false (by omega)]; rfl, HF.out⟩, X1.out⟩
  · have hN' : (2147483647 : Int) < N := by omega
    go_wp2
    go_ret
    exact ⟨.inl rfl, X1.out⟩
end Go.Proofs.Ytaiijdnfimclbaa
