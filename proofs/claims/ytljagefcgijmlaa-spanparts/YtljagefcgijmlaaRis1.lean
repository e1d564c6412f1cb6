/-
  Lists of numbers as they lie in memory; two rows put together by rising. No condition.
-/
import Derived.Test.YtljagefcgijmlaaApS
namespace Go.Proofs.Ytljagefcgijmlaa
open Go.RowKit Go.Lib

/-- Numbers that begin at ao. -/
def ItAt (w : World) (ao : Option Addr) (I : List Int) : Prop :=
  I = [] ∨ ∃ b off, ao = some ⟨b, off, none⟩ ∧ b < w.heap.size ∧ ∀ i, i < I.length → w.cell? ⟨b, off + i, none⟩ = some (.int .i64 (I.getD i 0))
theorem ItAt.get {w : World} {ao : Option Addr} {I : List Int} (h : ItAt w ao I) {i : Nat} (hi : i < I.length) : ∃ b off, ao = some ⟨b, off, none⟩ ∧ b < w.heap.size ∧ ∀ i, i < I.length → w.cell? ⟨b, off + i, none⟩ = some (.int .i64 (I.getD i 0)) := by
  rcases h with rfl | h
  · simp at hi
  · exact h
theorem ItAt.below {w w' : World} {ao : Option Addr} {I : List Int} (h : ItAt w ao I) (hb : Below w.heap.size w w') : ItAt w' ao I := by
  rcases h with rfl | ⟨b, off, e, hlt, h⟩
  · exact .inl rfl
  · exact .inr ⟨b, off, e, Nat.lt_of_lt_of_le hlt hb.size, fun i hi => (hb.cell (p := ⟨b, _, none⟩) hlt).trans (h i hi)⟩
theorem ItAt.take {w : World} {b off : Nat} {L : List Int} (h : ItAt w (some ⟨b, off, none⟩) L) (m : Nat) : ItAt w (some ⟨b, off, none⟩) (L.take m) := by
  rcases h with rfl | ⟨b', off', e, hlt, h⟩
  · exact .inl (by simp)
  · cases e
    refine .inr ⟨b, off, rfl, hlt, fun i hi => ?_⟩
    rw [List.length_take] at hi
    have := h i (by omega)
    rwa [show (L.take m).getD i 0 = L.getD i 0 by simp [List.getD_eq_getElem?_getD, show i < m by omega]]
theorem ItAt.drop {w : World} {b off : Nat} {L : List Int} (h : ItAt w (some ⟨b, off, none⟩) L) (m : Nat) : ItAt w (some ⟨b, off + m, none⟩) (L.drop m) := by
  rcases h with rfl | ⟨b', off', e, hlt, h⟩
  · exact .inl (by simp)
  · cases e
    refine .inr ⟨b, off + m, rfl, hlt, fun i hi => ?_⟩
    rw [List.length_drop] at hi
    have := h (m + i) (by omega)
    rw [show (L.drop m).getD i 0 = L.getD (m + i) 0 by simp [List.getD_eq_getElem?_getD, List.getElem?_drop]]
    rwa [show off + m + i = off + (m + i) by omega]
def itCells (I : List Int) : List Value := I.map (Value.int .i64)
theorem itCells_append (L M : List Int) : itCells (L ++ M) = itCells L ++ itCells M := by simp [itCells]
theorem itCells_length (L : List Int) : (itCells L).length = L.length * 1 := by simp [itCells]
theorem itCells_one (L : List Int) : ∀ u ∈ itCells L, u.oneCell' = true := by
  intro u hu
  simp only [itCells, List.mem_map] at hu
  obtain ⟨s, _, rfl⟩ := hu
  rfl
theorem ItAt.cells {w : World} {a : Addr} {L : List Int} (h : ItAt w (some a) L) : ∀ j u, (itCells L)[j]? = some u → w.cell? (a.add j) = some u := by
  intro j u hu
  have hj : j < L.length := by
    rcases Nat.lt_or_ge j L.length with h | h
    · exact h
    · rw [List.getElem?_eq_none (by rw [itCells_length]; omega)] at hu; cases hu
  obtain ⟨b, off, e, _, hc⟩ := h.get (i := j) hj
  cases e
  rw [addr_add, hc j hj]
  simp [itCells, hj] at hu
  rw [← hu]
  simp [List.getD_eq_getElem?_getD, hj]
/-- Numbers of the call's own. -/
def OwnZ (w : World) (base : Nat) (v : Value) (L : List Int) : Prop := w.ownsRow base 3 1 v L.length (itCells L)
theorem OwnZ.nil (w : World) (base : Nat) : OwnZ w base (.slice none 0 0) [] := World.ownsRow_nil w base 3 1
theorem OwnZ.below {w w' : World} {base : Nat} {v : Value} {L : List Int} (h : OwnZ w base v L) (hb : Below w.heap.size w w') : OwnZ w' base v L := own_below h hb
theorem OwnZ.lt {w : World} {base : Nat} {v : Value} {L : List Int} (h : OwnZ w base v L) : ∀ k, v.ownBlock = some k → base ≤ k ∧ k < w.heap.size := World.ownsRow.lt h
theorem OwnZ.shape {w : World} {base : Nat} {v : Value} {L : List Int} (h : OwnZ w base v L) : ∃ ao cap, v = .slice ao L.length cap ∧ ItAt w ao L ∧ L.length ≤ cap ∧ (ao = none → cap = 0) := by
  have hh : w.ownsRow base 3 1 v L.length (itCells L) := h
  rcases hh.2 with ⟨rfl, hn⟩ | ⟨g, cap, cur, rfl, hb, hg, hnc, r⟩
  · exact ⟨none, 0, by rw [hn], .inl (List.length_eq_zero_iff.1 hn), by omega, fun _ => rfl⟩
  · refine ⟨_, cap, rfl, ?_, hnc, fun h => by cases h⟩
    refine .inr ⟨g, 0, rfl, lt_of_block hg, fun i hi => ?_⟩
    rw [Nat.zero_add, World.ownsRow.cellAt hh i (by omega)]
    simp [itCells, hi, List.getD_eq_getElem?_getD]
/-- What rising tells. -/
def SortedZ (L : List Int) : Prop := L.Pairwise (fun s t => s ≤ t)
def Rises (L : List Int) (w : World) (e : Ending) (w' : World) : Prop := ∃ (a : Addr) (c : Nat) (M : List Int), e = .returned (.slice (some a) M.length c) ∧ M.Perm L ∧ SortedZ M ∧ ItAt w' (some a) M ∧ M.length ≤ c ∧ Below w.heap.size w w'
/-- What the merging holds: out, and what is left of both. -/
structure MgZ (A B A' B' O : List Int) : Prop where
  perm : (O ++ (A' ++ B')).Perm (A ++ B)
  so : SortedZ O
  sa : SortedZ A'
  sb : SortedZ B'
  oa : ∀ x ∈ O, ∀ y ∈ A', x ≤ y
  ob : ∀ x ∈ O, ∀ y ∈ B', x ≤ y
theorem MgZ.left {A B A' B' O : List Int} {x y : Int} (h : MgZ A B (x :: A') (y :: B') O) (hxy : x ≤ y) : MgZ A B A' (y :: B') (O ++ [x]) := by
  refine ⟨?_, ?_, (List.pairwise_cons.1 h.sa).2, h.sb, ?_, ?_⟩
  · have := h.perm
    simpa using this
  · unfold SortedZ
    rw [List.pairwise_append]
    exact ⟨h.so, List.pairwise_singleton .., fun a ha b hb => by rw [List.mem_singleton.1 hb]; exact h.oa a ha x (by simp)⟩
  · intro a ha b hb
    rcases List.mem_append.1 ha with h1 | h1
    · exact h.oa a h1 b (by simp [hb])
    · rw [List.mem_singleton.1 h1]; exact (List.pairwise_cons.1 h.sa).1 b hb
  · intro a ha b hb
    rcases List.mem_append.1 ha with h1 | h1
    · exact h.ob a h1 b hb
    · rw [List.mem_singleton.1 h1]
      rcases List.mem_cons.1 hb with rfl | h2
      · exact hxy
      · have := (List.pairwise_cons.1 h.sb).1 b h2; omega
theorem MgZ.right {A B A' B' O : List Int} {x y : Int} (h : MgZ A B (x :: A') (y :: B') O) (hxy : ¬ x ≤ y) : MgZ A B (x :: A') B' (O ++ [y]) := by
  refine ⟨?_, ?_, h.sa, (List.pairwise_cons.1 h.sb).2, ?_, ?_⟩
  · have := h.perm
    refine List.Perm.trans ?_ this
    rw [List.append_assoc]
    refine List.Perm.append_left O ?_
    exact (List.perm_middle (l₁ := x :: A') (l₂ := B') (a := y)).symm
  · unfold SortedZ
    rw [List.pairwise_append]
    exact ⟨h.so, List.pairwise_singleton .., fun a ha b hb => by rw [List.mem_singleton.1 hb]; exact h.ob a ha y (by simp)⟩
  · intro a ha b hb
    rcases List.mem_append.1 ha with h1 | h1
    · exact h.oa a h1 b hb
    · rw [List.mem_singleton.1 h1]
      rcases List.mem_cons.1 hb with rfl | h2
      · omega
      · have := (List.pairwise_cons.1 h.sa).1 b h2; omega
  · intro a ha b hb
    rcases List.mem_append.1 ha with h1 | h1
    · exact h.ob a h1 b (by simp [hb])
    · rw [List.mem_singleton.1 h1]; exact (List.pairwise_cons.1 h.sb).1 b hb
theorem MgZ.done {A B A' B' O : List Int} (h : MgZ A B A' B' O) (he : A' = [] ∨ B' = []) : (O ++ A' ++ B').Perm (A ++ B) ∧ SortedZ (O ++ A' ++ B') := by
  refine ⟨by rw [List.append_assoc]; exact h.perm, ?_⟩
  unfold SortedZ
  rcases he with rfl | rfl
  · rw [List.append_nil, List.pairwise_append]; exact ⟨h.so, h.sb, h.ob⟩
  · rw [List.append_nil, List.pairwise_append]; exact ⟨h.so, h.sa, h.oa⟩
end Go.Proofs.Ytljagefcgijmlaa
