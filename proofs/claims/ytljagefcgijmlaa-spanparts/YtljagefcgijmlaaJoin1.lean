/-
  ints and spansWeigh by their contracts; lists of numbers as they lie in memory. Condition: a list is no longer than a process can hold.
-/
import Derived.Test.YtljagefcgijmlaaAwake2
namespace Go.Proofs.Ytljagefcgijmlaa
open Go.RowKit Go.Lib

/-- A list of numbers that begins at ao. -/
def IAt (w : World) (ao : Option Addr) (I : List Nat) : Prop := I = [] ∨ ∃ b off, ao = some ⟨b, off, none⟩ ∧ b < w.heap.size ∧ ∀ i, i < I.length → w.cell? ⟨b, off + i, none⟩ = some (.int .i64 (I.getD i 0 : Nat))
theorem IAt.below {w w' : World} {ao : Option Addr} {I : List Nat} (h : IAt w ao I) (hb : Below w.heap.size w w') : IAt w' ao I := by
  rcases h with rfl | ⟨b, off, e, hlt, h⟩
  · exact .inl rfl
  · exact .inr ⟨b, off, e, Nat.lt_of_lt_of_le hlt hb.size, fun i hi => (hb.cell (p := ⟨b, _, none⟩) hlt).trans (h i hi)⟩
theorem IAt.get {w : World} {ao : Option Addr} {I : List Nat} (h : IAt w ao I) {i : Nat} (hi : i < I.length) : ∃ b off, ao = some ⟨b, off, none⟩ ∧ b < w.heap.size ∧ ∀ i, i < I.length → w.cell? ⟨b, off + i, none⟩ = some (.int .i64 (I.getD i 0 : Nat)) := by
  rcases h with rfl | h
  · simp at hi
  · exact h
theorem OwnI.at' {w : World} {base : Nat} {v : Value} {I : List Nat} (h : OwnI w base v I) : ∃ ao cap, v = .slice ao I.length cap ∧ IAt w ao I := by
  have hh : w.ownsRow base 3 1 v I.length (intCells I) := h
  rcases hh.2 with ⟨rfl, hn⟩ | ⟨g, cap, cur, rfl, hb, hg, r⟩
  · exact ⟨none, 0, by rw [hn], .inl (List.length_eq_zero_iff.1 hn)⟩
  · refine ⟨_, cap, rfl, .inr ⟨g, 0, rfl, lt_of_block hg, fun i hi => ?_⟩⟩
    rw [Nat.zero_add, World.ownsRow.cellAt hh i (by omega)]
    simp [intCells, List.getD_eq_getElem?_getD, hi]

set_option maxRecDepth 100000 in
set_option maxHeartbeats 1000000 in
theorem ints_any (a1 a2 : Option Addr) (c1 c2 : Nat) (I J : List Nat) (w : World) (hl : I.length ≤ 140737488351232) (h1 : IAt w a1 I) (h2 : IAt w a2 J) :
    Calls Try.prog 35 #[.slice a1 I.length c1, .slice a2 J.length c2] w fun e w' => e = .returned (.bool (decide (I = J))) ∧ Below w.heap.size w w' := by
  by_cases hlen : I.length = J.length
  · go_enter Try.func35, Try.ntmps35
    rw [hlen] at hl ⊢
    go_wp2
    go_loopw [5] (fun i wr => ∃ k : Nat, k ≤ J.length ∧ i = .int .i64 k ∧ Hid (∀ j, j < k → I.getD j 0 = J.getD j 0) ∧ Below w.heap.size w wr) (fun i _ => J.length - (intOf i).toNat)
    case atStart => exact ⟨0, Nat.zero_le _, rfl, fun j hj => absurd hj (by omega), Below.refl _ _⟩
    case round =>
      obtain ⟨k, hk, rfl, hok, hq⟩ := hrel
      have HQ := hide hq
      clear hq
      by_cases hlt : k < J.length
      · obtain ⟨b, off, rfl, hb, hc⟩ := h1.get (i := k) (by omega)
        obtain ⟨b', off', rfl, hb', hc'⟩ := h2.get hlt
        have q1 := (HQ.out.cell (p := ⟨b, off + k, none⟩) hb).trans (hc k (by omega))
        have q3 := (HQ.out.cell (p := ⟨b', off' + k, none⟩) hb').trans (hc' k hlt)
        obtain ⟨s, hs⟩ : ∃ s, s = I.getD k 0 := ⟨_, rfl⟩
        obtain ⟨t, ht⟩ : ∃ t, t = J.getD k 0 := ⟨_, rfl⟩
        rw [← hs] at q1
        rw [← ht] at q3
        have HS := hide hs
        have HT := hide ht
        clear hs ht hc hc' h1 h2
        by_cases e1 : s = t
        · subst e1
          go_wp2
          go_quiet (fail)
          go_wp2
          go_roundw
          case rel =>
            refine ⟨k + 1, by omega, by go_num, fun j hj => ?_, HQ.out.trans (below_drewN _ _ _)⟩
            rcases Nat.lt_or_ge j k with h | h
            · exact hok.out j h
            · rw [show j = k by omega, ← HS.out, ← HT.out]
          case measure => simp [intOf]; omega
        · have HF : Hid (decide (I = J) = false) := decide_eq_false fun e => e1 (by rw [HS.out, HT.out, e])
          have e2 : ¬ ((s : Int) = (t : Int)) := by omega
          go_wp2
          go_quiet (fail)
          go_wp2
          go_ret
          exact ⟨by rw [HF.out]; rfl, HQ.out.trans (below_drewN _ _ _)⟩
      · have h8 : k = J.length := by omega
        subst h8
        go_wp2
        go_ret
        refine ⟨?_, HQ.out⟩
        rw [decide_eq_true (List.ext_getElem hlen fun i i1 i2 => by have := hok.out i i2; simpa [List.getD_eq_getElem?_getD, i1, i2] using this)]
        rfl
  · rw [decide_eq_false (fun e => hlen (by rw [e]))]
    have hne : ¬ ((I.length : Int) = (J.length : Int)) := by omega
    clear h1 h2
    go_enter Try.func35, Try.ntmps35
    go_wp2
    go_ret
    exact ⟨rfl, Below.refl _ _⟩

/-- Lists of spans that came in. -/
def SqAt (w : World) (ao : Option Addr) (S : List (List Spn)) : Prop :=
  S = [] ∨ ∃ b off, ao = some ⟨b, off, none⟩ ∧ b < w.heap.size ∧ ∀ i, i < S.length → ∃ ai ci, w.cell? ⟨b, off + i, none⟩ = some (.slice ai (S.getD i []).length ci) ∧ SpAt w ai (S.getD i [])
theorem SqAt.below {w w' : World} {ao : Option Addr} {S : List (List Spn)} (h : SqAt w ao S) (hb : Below w.heap.size w w') : SqAt w' ao S := by
  rcases h with rfl | ⟨b, off, e, hlt, h⟩
  · exact .inl rfl
  · refine .inr ⟨b, off, e, Nat.lt_of_lt_of_le hlt hb.size, fun i hi => ?_⟩
    obtain ⟨ai, ci, h1, h2⟩ := h i hi
    exact ⟨ai, ci, (hb.cell (p := ⟨b, _, none⟩) hlt).trans h1, h2.below hb⟩

set_option maxRecDepth 100000 in
set_option maxHeartbeats 1000000 in
theorem weigh_any (ao : Option Addr) (cap : Nat) (S : List (List Spn)) (w : World) (hlen : S.length ≤ 140737488351232) (hl : ∀ L ∈ S, L.length ≤ 140737488351232) (hat : SqAt w ao S) :
    Calls Try.prog 29 #[.slice ao S.length cap] w fun e w' => (∃ N : Int, e = .returned (.int .i64 N) ∧ (N ≤ 2147483647 → S.length ≤ 2147483647 ∧ LensOk S)) ∧ Below w.heap.size w w' := by
  have h0 := addsUp_any 0 (S.length : Int) (by omega) (by omega) w
  go_enter Try.func29, Try.ntmps29
  go_wp2_with (go_at_call 8; refine h0.mono ?_; rintro e wz ⟨⟨N0, rfl, n0, n1, n2⟩, hwz⟩; have hwz' := hwz.symm; subst hwz')
  have HN2 := hide n2
  clear h0 n2
  go_loopw [3, 4] (fun t i wr => ∃ (k : Nat) (N : Int), k ≤ S.length ∧ i = .int .i64 k ∧ t = .int .i64 N ∧ 0 ≤ N ∧ N ≤ 4294967294 ∧ Hid (N ≤ 2147483647 → S.length ≤ 2147483647 ∧ ∀ j, j < k → (S.getD j []).length ≤ 2147483647) ∧ Below w.heap.size w wr) (fun _ i _ => S.length - (intOf i).toNat)
  case atStart =>
    refine ⟨0, N0, Nat.zero_le _, rfl, rfl, n0, n1, fun h => ⟨?_, fun j hj => absurd hj (by omega)⟩, Below.refl _ _⟩
    have := HN2.out h
    omega
  case round =>
    obtain ⟨k, N, hk, rfl, rfl, m0, m1, hW, hq⟩ := hrel
    have HQ := hide hq
    clear hq
    by_cases hlt : k < S.length
    · by_cases hN : N ≤ 2147483647
      · rcases hat.below HQ.out with h | ⟨b, off, rfl, hb, hc⟩
        · rw [h] at hlt; simp at hlt
        obtain ⟨ai, ci, q1, _⟩ := hc k hlt
        have hL : (S.getD k []).length ≤ 140737488351232 := by
          have := hl S[k] (List.getElem_mem hlt)
          simpa [List.getD_eq_getElem?_getD, hlt] using this
        obtain ⟨X, hX⟩ : ∃ X, X = S.getD k [] := ⟨_, rfl⟩
        rw [← hX] at q1 hL
        have HX := hide hX
        have hcon := addsUp_any N (X.length : Int) m0 (by omega) wr
        clear hc hX hat
        go_wp2_with (go_at_call 8; refine hcon.mono ?_; rintro e wy ⟨⟨N2, rfl, r0, r1, r2⟩, hwy⟩; have hwy' := hwy.symm; subst hwy')
        go_roundw
        case rel =>
          refine ⟨k + 1, N2, by omega, by go_num, rfl, r0, r1, fun h => ?_, HQ.out⟩
          have e1 := r2 h
          obtain ⟨w1, w2⟩ := hW.out (by omega)
          refine ⟨w1, fun j hj => ?_⟩
          rcases Nat.lt_or_ge j k with h' | h'
          · exact w2 j h'
          · rw [show j = k by omega, ← HX.out]; omega
        case measure => simp [intOf]; omega
      · go_wp2
        go_ret
        exact ⟨⟨N, rfl, fun h => absurd h (by omega)⟩, HQ.out⟩
    · have h8 : k = S.length := by omega
      subst h8
      go_wp2
      go_ret
      refine ⟨⟨N, rfl, fun h => ?_⟩, HQ.out⟩
      obtain ⟨w1, w2⟩ := hW.out h
      refine ⟨w1, fun L hL => ?_⟩
      obtain ⟨i, hi, rfl⟩ := List.getElem_of_mem hL
      have := w2 i hi
      simp [List.getD_eq_getElem?_getD, hi] at this
      omega
end Go.Proofs.Ytljagefcgijmlaa
