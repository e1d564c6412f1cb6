/-
  Lists of lists of spans that came in as an argument lie in memory as the walks ask it. Condition: the form's own reach.
-/
import Derived.Test.YtljagefcgijmlaaArg
import Derived.Test.YtljagefcgijmlaaJoin1
namespace Go.Proofs.Ytljagefcgijmlaa
open Go.RowKit Go.Deep

theorem Try.cells22 : Try.prog.cellsOf 22 = 1 := by kernel_rfl
theorem Try.bytes22 : Try.prog.bytesOf 22 = 24 := by kernel_rfl
theorem choose_lists {p : Nat → List Spn → Prop} : ∀ n, (∀ i, i < n → ∃ s, p i s) → ∃ L : List (List Spn), L.length = n ∧ ∀ i, i < n → p i (L.getD i [])
  | 0, _ => ⟨[], rfl, fun i hi => absurd hi (Nat.not_lt_zero i)⟩
  | n + 1, h => by
    obtain ⟨L, h1, h2⟩ := choose_lists n (fun i hi => h i (by omega))
    obtain ⟨s, hs⟩ := h n (by omega)
    refine ⟨L ++ [s], by simp [h1], fun i hi => ?_⟩
    by_cases hn : i < n
    · have := h2 i hn
      simpa [List.getD_eq_getElem?_getD, List.getElem?_append, h1, hn] using this
    · have : i = n := by omega
      subst this
      subst h1
      simpa [List.getD_eq_getElem?_getD] using hs

/-- Lists that came in. -/
theorem lists_open {H : Type} {enc : TypeId × Value → H} {W : World} {fuel : Nat} {a0 : Option Addr} {len cap : Nat} {d : DataW H} {p : List MemPlace}
    (hf : DataW.trod enc Try.prog W 0 (fun _ => true) true fuel 25 [.slice a0 len cap] = some (d, p)) (hw : ∀ k ∈ d.weights Try.prog 25, k ≤ reachBytes) : ∃ S : List (List Spn), S.length = len ∧ len ≤ cap ∧ len ≤ 140737488351232 ∧ (∀ L ∈ S, L.length ≤ 140737488351232) ∧ SqAt W a0 S := by
  rcases open_slice1 Try.underlying25 Try.cells22 hf with ⟨hcs, _⟩ | ⟨a, l, c, m, n, V, D, Pl, hcs, _, hl, hm, hmm, hx, hat⟩
  · injection hcs with hv
    injection hv with e1 e2 e3
    subst e2 e3
    exact ⟨[], rfl, Nat.le_refl _, by omega, fun L hL => (by cases hL), .inl rfl⟩
  · injection hcs with hv
    injection hv with e1 e2 e3
    subst e1 e2 e3
    simp only [if_true] at hmm
    subst hmm
    simp only [Prod.mk.injEq] at hx
    obtain ⟨hd, hp⟩ := hx
    have hcap : (len + (m - len)) * 24 ≤ reachBytes := by
      refine hw _ ?_
      rw [hd]
      simp [DataW.weights, Try.underlying25, Try.bytes22]
    have hlen : len ≤ 140737488351232 := by simp only [reachBytes] at hcap; omega
    by_cases h0 : len = 0
    · subst h0
      exact ⟨[], rfl, hl, by omega, fun L hL => (by cases hL), .inl rfl⟩
    have each : ∀ i, i < len → ∃ L : List Spn, ∃ ai ci, W.cell? (a.add i) = some (.slice ai L.length ci) ∧ SpAt W ai L ∧ L.length ≤ 140737488351232 := by
      intro i hi
      obtain ⟨g1, g2⟩ := hat i (by omega)
      have hwi : ∀ k ∈ (D i).weights Try.prog 22, k ≤ reachBytes := fun k hk => hw k (by
        rw [hd]
        simp only [DataW.weights, Try.underlying25, List.mem_cons, List.mem_append]
        exact .inr (.inl (weightsAll_mem (List.mem_map.2 ⟨i, List.mem_range.2 hi, rfl⟩) k hk)))
      have sh : ∃ ai li ci, V i = .slice ai li ci := by
        rcases open_slice Try.underlying22 g2 with ⟨hcs, _⟩ | ⟨a', l', c', _, _, _, _, hcs, _⟩
        · injection hcs with hv; exact ⟨none, 0, 0, hv⟩
        · injection hcs with hv; exact ⟨_, l', c', hv⟩
      obtain ⟨ai, li, ci, hV⟩ := sh
      rw [hV] at g1 g2
      obtain ⟨L, e1, _, e3, e4⟩ := spans_open g2 hwi
      subst e1
      exact ⟨L, ai, ci, g1, e4, e3⟩
    obtain ⟨S, hS, hp'⟩ := choose_lists len each
    obtain ⟨b, off, spot⟩ := a
    obtain ⟨_, _, hz, _⟩ := hp' 0 (by omega)
    have hspot : spot = none := by simpa [Addr.add] using World.cell?_spot hz
    subst hspot
    refine ⟨S, hS, hl, hlen, fun L hL => ?_, .inr ⟨b, off, rfl, World.block_lt_of_cell? W _ (by simpa [Addr.add] using hz), fun i hi => ?_⟩⟩
    · obtain ⟨i, hi, rfl⟩ := List.getElem_of_mem hL
      obtain ⟨_, _, _, _, h4⟩ := hp' i (by omega)
      simpa [List.getD_eq_getElem?_getD, hi] using h4
    · obtain ⟨ai, ci, q0, q1, _⟩ := hp' i (by omega)
      rw [addr_add] at q0
      exact ⟨ai, ci, q0, q1⟩
end Go.Proofs.Ytljagefcgijmlaa
