/-
  Parts made of pieces, equal neighbours joined; a part lengthened in place. Of no program but its types: no condition.
-/
import Derived.Test.YtljagefcgijmlaaParted
namespace Go.Proofs.Ytljagefcgijmlaa
open Go.RowKit Go.Lib

theorem Chain.last : ∀ {a : Int} {Q : List (Spn × List Nat)} {b : Int} {q : Spn × List Nat}, Chain a (Q ++ [q]) b → Chain a Q q.1.1 ∧ q.1.1 ≤ q.1.2 ∧ q.1.2 + 1 = b
  | a, [], b, q, h => ⟨h.1.symm, by have h2 := h.2.1; have h1 := h.1; omega, h.2.2⟩
  | a, r :: Q, b, q, h => by
    obtain ⟨h1, h2, h3⟩ := Chain.last (Q := Q) h.2.2
    exact ⟨⟨h.1, h.2.1, h1⟩, h2, h3⟩
theorem PParts.extend {S : List (List Spn)} {lo hi : Int} {ins : List Bool} {Q : List (Spn × List Nat)} {q : Spn × List Nat} (h : PParts S lo (Q ++ [q])) (p : Piece S lo hi ins) (he : q.2 = marksTo ins S.length) : PParts S (hi + 1) (Q ++ [((q.1.1, hi), q.2)]) := by
  obtain ⟨h1, h2, h3⟩ := h.chain.last
  have hle := p.le
  refine ⟨Chain.snoc (q := ((q.1.1, hi), q.2)) h1 rfl (by show q.1.1 ≤ hi; omega), fun r hr => ?_, fun r hr => ?_, fun r hr => ?_⟩
  · rcases List.mem_append.1 hr with h4 | h4
    · exact h.each r (List.mem_append.2 (.inl h4))
    · rw [List.mem_singleton.1 h4]
      intro n n1 n2
      by_cases hn : n ≤ q.1.2
      · exact h.each q (by simp) n n1 hn
      · exact he.trans (marks_inOf p (by omega) n2)
  · rcases List.mem_append.1 hr with h4 | h4
    · exact h.edge r (List.mem_append.2 (.inl h4))
    · rw [List.mem_singleton.1 h4]
      exact h.edge q (by simp)
  · rcases List.mem_append.1 hr with h4 | h4
    · exact h.top r (List.mem_append.2 (.inl h4))
    · rw [List.mem_singleton.1 h4]
      exact p.top
theorem PParts.edge_new {S : List (List Spn)} {lo hi : Int} {ins : List Bool} {Q : List (Spn × List Nat)} {q : Spn × List Nat} (h : PParts S lo (Q ++ [q])) (p : Piece S lo hi ins) (hne : q.2 ≠ marksTo ins S.length) : Edge S lo := by
  obtain ⟨h1, h2, h3⟩ := h.chain.last
  refine .inr (.inr (Classical.byContradiction fun hh => hne ?_))
  rw [marks_inOf p (Int.le_refl _) p.le, h.each q (by simp) (lo - 1) (by omega) (by omega)]
  unfold inOf
  refine List.filter_congr fun k hk => ?_
  rw [List.mem_range] at hk
  exact Classical.byContradiction fun h4 => hh ⟨k, hk, h4⟩
theorem ptCells_append (P R : List PartD) : ptCells (P ++ R) = ptCells P ++ ptCells R := by simp [ptCells]
theorem ptCells_setLast (P : List PartD) (p : PartD) (m : Int) : (ptCells (P ++ [p])).set (P.length * 3 + 1) (.int .i64 m) = ptCells (P ++ [⟨(p.s.1, m), p.v, p.I⟩]) := by
  rw [ptCells_append, ptCells_append, List.set_append_right _ _ (by rw [ptCells_length]; omega), ptCells_length]
  rw [show P.length * 3 + 1 - P.length * 3 = 1 by omega]
  rfl
theorem OwnP.setHi {w : World} {base g cap : Nat} {P : List PartD} {p : PartD} (h : OwnP w base (.slice (some ⟨g, 0, none⟩) (P.length + 1) cap) (P ++ [p])) (m : Int) :
    OwnP (w.setCell ⟨g, P.length * 3 + 1, none⟩ (.int .i64 m)) base (.slice (some ⟨g, 0, none⟩) (P.length + 1) cap) (P ++ [⟨(p.s.1, m), p.v, p.I⟩]) ∧ w.grownBy (w.setCell ⟨g, P.length * 3 + 1, none⟩ (.int .i64 m)) (some g) := by
  have hr : w.ownsRow base 50 3 (.slice (some ⟨g, 0, none⟩) (P.length + 1) cap) (P.length + 1) (ptCells (P ++ [p])) := by have := h.row; simpa using this
  obtain ⟨s1, s2⟩ := hr.stored (P.length * 3 + 1) (.int .i64 m)
  rw [ptCells_setLast] at s1
  have hk : Kept (fun k => (Value.slice (some ⟨g, 0, none⟩) (P.length + 1) cap).ownBlock = some k) w (w.setCell ⟨g, P.length * 3 + 1, none⟩ (.int .i64 m)) := kept_of_grown s2
  have ne : ∀ q : Value × List Nat, OwnI w base q.1 q.2 → ∀ k, q.1.ownBlock = some k → ¬ (Value.slice (some ⟨g, 0, none⟩) (P.length + 1) cap).ownBlock = some k := fun q hq k h3 h4 => by
    obtain ⟨_, _, cs, t3⟩ := hq.tag h3
    obtain ⟨_, _, cs', t4⟩ := h.tag h4
    rw [t3] at t4
    simp at t4
  refine ⟨⟨by rw [List.length_append]; exact s1, fun q hq => ?_, ?_⟩, s2⟩
  · rcases List.mem_append.1 hq with h5 | h5
    · have := h.ints q (List.mem_append.2 (.inl h5))
      exact this.kept hk (ne (q.v, q.I) this)
    · rw [List.mem_singleton.1 h5]
      have := h.ints p (by simp)
      exact this.kept hk (ne (p.v, p.I) this)
  · have h6 := h.apart
    rw [List.pairwise_append] at h6 ⊢
    refine ⟨h6.1, List.pairwise_singleton .., fun x hx y hy => ?_⟩
    rw [List.mem_singleton.1 hy]
    exact h6.2.2 x hx p (by simp)
/-- A piece that is not like the last part begins a new one. -/
theorem PParts.new {S : List (List Spn)} {lo hi : Int} {ins : List Bool} {Q : List (Spn × List Nat)} (h : PParts S lo Q) (p : Piece S lo hi ins) (hne : ∀ Q' q, Q = Q' ++ [q] → q.2 ≠ marksTo ins S.length) : PParts S (hi + 1) (Q ++ [((lo, hi), marksTo ins S.length)]) := by
  refine h.step p ?_
  rcases List.eq_nil_or_concat Q with rfl | ⟨B, z, rfl⟩
  · exact .inl h.chain.symm
  · simp only [List.concat_eq_append] at *
    exact h.edge_new p (hne B z rfl)
end Go.Proofs.Ytljagefcgijmlaa
