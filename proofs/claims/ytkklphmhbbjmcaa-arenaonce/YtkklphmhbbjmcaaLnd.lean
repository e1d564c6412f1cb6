/-
  A list of numbers that is lent: a copy of it, and two behind it. Of the program its types alone: no condition.
-/
import Derived.Test.YtkklphmhbbjmcaaCp
namespace Go.Proofs.Ytkklphmhbbjmcaa
open Go.RowKit Go.Lib

theorem Try.size3 : (Try.prog.info? 3).map (·.size) = some 1 := by
  obtain ⟨i0, hi, hz0, hz1, hz2⟩ := info_parts Try.info3
  rw [hi]; simp [hz1]
theorem madeI_zero (n : Nat) : (madeCells (Value.int .i64 0).cells (n * 1)).toList = zC (List.replicate n 0) := by
  have e : (Value.int .i64 0).cells = #[.int .i64 0] := by simp [Value.cells]
  rw [e, Nat.mul_one]
  apply List.ext_getElem?
  intro j
  by_cases hj : j < n
  · have h1 : (madeCells #[Value.int .i64 0] n).toList[j]? = some (.int .i64 0) := by simp [madeCells, hj, Nat.mod_one]
    rw [h1]
    simp [zC, hj]
  · rw [List.getElem?_eq_none (by simp [size_madeCells]; omega), List.getElem?_eq_none (by rw [zC_length, List.length_replicate]; omega)]
theorem len2_copied {w w1 : World} {ao : Option Addr} {L : List Int} (hat : ZAt w ao L) (h1 : w1.ownsRow w.heap.size 3 1 (.slice (some ⟨w.heap.size, 0, none⟩) (L.length + 2) (L.length + 2)) (L.length + 2) (madeCells (Value.int .i64 0).cells ((L.length + 2) * 1)).toList) (h2 : w.grownBy w1 none) :
    ∃ cur : Array Value, w1.heap[w.heap.size]? = some (.cells cur 3 (0, 0)) ∧ (∀ ad, ao = some ad → ∀ j v, (zC L)[j]? = some v → w1.cell? (ad.add j) = some v) ∧ (ao = none → L.length = 0) ∧ (zC L).length ≤ cur.size ∧
      (w1.setRow w.heap.size (zC L ++ cur.toList.drop (zC L).length).toArray).ownsRow w.heap.size 3 1 (.slice (some ⟨w.heap.size, 0, none⟩) (L.length + 2) (L.length + 2)) (L.length + 2) (zC (L ++ [0, 0])) ∧ Below w.heap.size w (w1.setRow w.heap.size (zC L ++ cur.toList.drop (zC L).length).toArray) := by
  obtain ⟨cur, hg, hc, hb, hm⟩ : ∃ cur, w1.heap[w.heap.size]? = some (.cells cur 3 (0, 0)) ∧ cur.toList = (madeCells (Value.int .i64 0).cells ((L.length + 2) * 1)).toList ∧ w.heap.size ≤ w.heap.size ∧ L.length + 2 ≤ maxLen := by
    rcases h1.2 with ⟨h', _⟩ | ⟨g', cap', cur, h', hb, hg, hnc, hcm, hcs, htake⟩
    · simp at h'
    · simp only [Value.slice.injEq, Option.some.injEq, Addr.mk.injEq, and_true, true_and] at h'
      obtain ⟨h5, h6⟩ := h'
      subst h6
      rw [← h5] at hg
      exact ⟨cur, hg, by rw [← htake, List.take_of_length_le (by simp; omega)], Nat.le_refl _, hcm⟩
  rw [madeI_zero] at hc
  have hbl : Below w.heap.size w w1 := (Below.refl _ _).grown h2 (Nat.le_refl _) (fun k hk => by cases hk)
  have e : zC L ++ cur.toList.drop (zC L).length = zC (L ++ [0, 0]) := by
    rw [hc, zC_length]
    simp [zC]
  have hl2 : (L ++ [0, 0]).length = L.length + 2 := by simp
  refine ⟨cur, hg, fun ad h => by subst h; exact (hat.below hbl).cells, fun h => ?_, ?_, ?_, below_setRow hbl (Nat.le_refl _) _⟩
  · subst h
    rcases hat with h | ⟨b, off, e, _⟩
    · rw [h]; rfl
    · cases e
  · have := congrArg List.length hc
    rw [zC_length, List.length_replicate, Array.length_toList] at this
    rw [zC_length]; omega
  · rw [e]
    exact ⟨by rw [zC_length, hl2, Nat.mul_one], .inr ⟨w.heap.size, L.length + 2, (zC (L ++ [0, 0])).toArray, rfl, Nat.le_refl _, setRow_heap w1 w.heap.size cur _ 3 _ hg, Nat.le_refl _, hm, by simp [zC_length], by rw [List.take_of_length_le (by simp [zC_length])]⟩⟩
theorem zC_set (L : List Int) (i : Nat) (x : Int) : (zC L).set i (.int .i64 x) = zC (L.set i x) := by simp [zC, List.map_set]
theorem ZAt.kept {F : Nat → Prop} {w w' : World} {ao : Option Addr} {L : List Int} (h : ZAt w ao L) (hk : Kept F w w') (hF : ∀ b off, ao = some ⟨b, off, none⟩ → L ≠ [] → ¬ F b) : ZAt w' ao L := by
  by_cases h0 : L = []
  · exact .inl h0
  rcases h with h | ⟨b, off, e, h1, h2⟩
  · exact .inl h
  · exact .inr ⟨b, off, e, Nat.lt_of_lt_of_le h1 hk.size, fun i hi => (hk.cell (p := ⟨b, off + i, none⟩) h1 (hF b off e h0)).trans (h2 i hi)⟩
/-- The first ones of a row of one's own. -/
theorem own_at {w : World} {base n cap g : Nat} {L T : List Int} (h : w.ownsRow base 3 1 (.slice (some ⟨g, 0, none⟩) n cap) n (zC (L ++ T))) : ZAt w (some ⟨g, 0, none⟩) L := by
  have hl := h.1
  rw [zC_length, List.length_append, Nat.mul_one] at hl
  refine .inr ⟨g, 0, rfl, (World.ownsRow.lt h g rfl).2, fun i hi => ?_⟩
  rw [Nat.zero_add, World.ownsRow.cellAt h i (by omega), zC_get _ (by rw [List.length_append]; omega)]
  simp only [List.getD_eq_getElem?_getD]
  rw [List.getElem?_append_left hi]
end Go.Proofs.Ytkklphmhbbjmcaa
