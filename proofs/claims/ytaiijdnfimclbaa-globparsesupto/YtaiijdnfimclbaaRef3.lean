/-
  The document's byLo by its contract: the same spans, by rising Lo. Condition: a list has at most 2^32 spans.
-/
import Derived.Test.YtaiijdnfimclbaaRef2
namespace Go.Proofs.Ytaiijdnfimclbaa
open Go.RowKit Go.Lib

theorem SpAt.take {w : World} {b off : Nat} {L : List Spn} (h : SpAt w (some ⟨b, off, none⟩) L) (m : Nat) : SpAt w (some ⟨b, off, none⟩) (L.take m) := by
  rcases h with rfl | ⟨b', off', e, hlt, h⟩
  · exact .inl (by simp)
  · cases e
    refine .inr ⟨b, off, rfl, hlt, fun i hi => ?_⟩
    rw [List.length_take] at hi
    have := h i (by omega)
    rwa [show (L.take m).getD i (0, 0) = L.getD i (0, 0) by simp [List.getD_eq_getElem?_getD, show i < m by omega]]
theorem SpAt.drop {w : World} {b off : Nat} {L : List Spn} (h : SpAt w (some ⟨b, off, none⟩) L) (m : Nat) : SpAt w (some ⟨b, off + m * 2, none⟩) (L.drop m) := by
  rcases h with rfl | ⟨b', off', e, hlt, h⟩
  · exact .inl (by simp)
  · cases e
    refine .inr ⟨b, off + m * 2, rfl, hlt, fun i hi => ?_⟩
    rw [List.length_drop] at hi
    have := h (m + i) (by omega)
    rw [show (L.drop m).getD i (0, 0) = L.getD (m + i) (0, 0) by simp [List.getD_eq_getElem?_getD, List.getElem?_drop]]
    rwa [show off + m * 2 + i * 2 = off + (m + i) * 2 by omega]
/-- What byLo tells. -/
def Sorted1 (L : List Spn) : Prop := L.Pairwise (fun s t => s.1 ≤ t.1)
def ByLo (L : List Spn) (w : World) (e : Ending) (w' : World) : Prop := ∃ (a : Addr) (c : Nat) (M : List Spn), e = .returned (.slice (some a) M.length c) ∧ M.Perm L ∧ Sorted1 M ∧ SpAt w' (some a) M ∧ M.length ≤ c ∧ Below w.heap.size w w'
def lenOf (v : Value) : Nat := match v with
  | .slice _ n _ => n
  | _ => 0
/-- What the merging holds: out, and what is left of both. -/
structure Mg (A B A' B' O : List Spn) : Prop where
  perm : (O ++ (A' ++ B')).Perm (A ++ B)
  so : Sorted1 O
  sa : Sorted1 A'
  sb : Sorted1 B'
  oa : ∀ x ∈ O, ∀ y ∈ A', x.1 ≤ y.1
  ob : ∀ x ∈ O, ∀ y ∈ B', x.1 ≤ y.1
theorem Mg.left {A B A' B' O : List Spn} {x y : Spn} (h : Mg A B (x :: A') (y :: B') O) (hxy : x.1 ≤ y.1) : Mg A B A' (y :: B') (O ++ [x]) := by
  refine ⟨?_, ?_, (List.pairwise_cons.1 h.sa).2, h.sb, ?_, ?_⟩
  · have := h.perm
    simpa using this
  · unfold Sorted1
    rw [List.pairwise_append]
    exact ⟨h.so, List.pairwise_singleton .., fun a ha b hb => by rw [List.mem_singleton.1 hb]; exact h.oa a ha x (by simp)⟩
  · intro a ha b hb
    rcases List.mem_append.1 ha with h1 | h1
    · exact h.oa a h1 b (by simp [hb])
    · rw [List.mem_singleton.1 h1]; exact (List.pairwise_cons.1 h.sa).1 b hb
  · intro a ha b hb
    rcases List.mem_append.1 ha with h1 | h1
    · exact h.ob a h1 b hb
    · rw [List.mem_singleton.1 h1]
      rcases List.mem_cons.1 hb with rfl | h2
      · exact hxy
      · have := (List.pairwise_cons.1 h.sb).1 b h2; omega
theorem Mg.right {A B A' B' O : List Spn} {x y : Spn} (h : Mg A B (x :: A') (y :: B') O) (hxy : ¬ x.1 ≤ y.1) : Mg A B (x :: A') B' (O ++ [y]) := by
  refine ⟨?_, ?_, h.sa, (List.pairwise_cons.1 h.sb).2, ?_, ?_⟩
  · have := h.perm
    refine List.Perm.trans ?_ this
    rw [List.append_assoc]
    refine List.Perm.append_left O ?_
    exact (List.perm_middle (l₁ := x :: A') (l₂ := B') (a := y)).symm
  · unfold Sorted1
    rw [List.pairwise_append]
    exact ⟨h.so, List.pairwise_singleton .., fun a ha b hb => by rw [List.mem_singleton.1 hb]; exact h.ob a ha y (by simp)⟩
  · intro a ha b hb
    rcases List.mem_append.1 ha with h1 | h1
    · exact h.oa a h1 b hb
    · rw [List.mem_singleton.1 h1]
      rcases List.mem_cons.1 hb with rfl | h2
      · omega
      · have := (List.pairwise_cons.1 h.sa).1 b h2; omega
  · intro a ha b hb
    rcases List.mem_append.1 ha with h1 | h1
    · exact h.ob a h1 b (by simp [hb])
    · rw [List.mem_singleton.1 h1]; exact (List.pairwise_cons.1 h.sb).1 b hb
theorem Mg.done {A B A' B' O : List Spn} (h : Mg A B A' B' O) (he : A' = [] ∨ B' = []) : (O ++ A' ++ B').Perm (A ++ B) ∧ Sorted1 (O ++ A' ++ B') := by
  refine ⟨by rw [List.append_assoc]; exact h.perm, ?_⟩
  unfold Sorted1
  rcases he with rfl | rfl
  · rw [List.append_nil, List.pairwise_append]; exact ⟨h.so, h.sb, h.ob⟩
  · rw [List.append_nil, List.pairwise_append]; exact ⟨h.so, h.sa, h.oa⟩
end Go.Proofs.Ytaiijdnfimclbaa
