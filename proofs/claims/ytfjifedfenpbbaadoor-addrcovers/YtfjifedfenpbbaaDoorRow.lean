/-
  A row of pairs that a call owns. No condition.
-/
import Derived.Test.YtfjifedfenpbbaaDoorMem
import Derived.Laws.OwnMore
import Derived.OwnWalk
import Derived.Maps.AppendAt
namespace Go.Proofs.YtfjifedfenpbbaaDoor
open Go.RowKit Go.Lib
/-- The numbers of the first k spans. -/
theorem sizeL_append (L M : List Spn) : sizeL (L ++ M) = sizeL L + sizeL M := by
  induction L with
  | nil => simp [sizeL]
  | cons s L ih => simp only [List.cons_append, sizeL, ih]; omega
theorem sizeL_take (L : List Spn) (k : Nat) (hk : k < L.length) : sizeL (L.take (k + 1)) = sizeL (L.take k) + ((L.getD k (0, 0)).2 - (L.getD k (0, 0)).1 + 1) := by
  rw [List.take_succ_eq_append_getElem hk, sizeL_append]
  simp [sizeL, List.getD_eq_getElem?_getD, hk]
theorem sizeL_bound (L : List Spn) (h : ∀ s ∈ L, Bnd s) : 0 ≤ sizeL L ∧ sizeL L ≤ 4294967296 * L.length := by
  induction L with
  | nil => simp [sizeL]
  | cons s L ih =>
    have := ih (fun t ht => h t (by simp [ht]))
    have hs := h s (by simp)
    unfold Bnd at hs
    simp only [sizeL, List.length_cons]
    omega
/-- Above all ends that a set has lies nothing: it has at most 2^32 numbers. -/
theorem sizeL_set : ∀ (L : List Spn) (m : Int), IsSet L → (∀ s ∈ L, m ≤ s.1) → 0 ≤ sizeL L ∧ (L ≠ [] → sizeL L ≤ 4294967296 - m)
  | [], _, _, _ => ⟨Int.le_refl _, fun h => absurd rfl h⟩
  | s :: L, m, h, hm => by
    have hs := h.head
    unfold Bnd at hs
    have h1 := hm s (by simp)
    obtain ⟨i1, i2⟩ := sizeL_set L (s.2 + 2) h.tail (List.pairwise_cons.1 h.2).1
    simp only [sizeL]
    refine ⟨by omega, fun _ => ?_⟩
    by_cases hL : L = []
    · subst hL; simp only [sizeL]; omega
    · have := i2 hL; omega
theorem IsSet.take {L : List Spn} (h : IsSet L) (k : Nat) : IsSet (L.take k) := ⟨fun s hs => h.1 s (List.mem_of_mem_take hs), h.2.sublist (List.take_sublist k L)⟩
theorem sizeL_le {L : List Spn} (h : IsSet L) : 0 ≤ sizeL L ∧ sizeL L ≤ 4294967296 := by
  obtain ⟨a, b⟩ := sizeL_set L 0 h (fun s hs => (h.1 s hs).1)
  refine ⟨a, ?_⟩
  by_cases hL : L = []
  · subst hL; decide
  · have := b hL; omega
/-- A list's cells. -/
def spCells (L : List Spn) : List Value := L.flatMap fun s => [.int .i64 s.1, .int .i64 s.2]
theorem spCells_nil : spCells [] = [] := rfl
theorem spCells_cons (s : Spn) (L : List Spn) : spCells (s :: L) = .int .i64 s.1 :: .int .i64 s.2 :: spCells L := rfl
theorem spCells_append (L M : List Spn) : spCells (L ++ M) = spCells L ++ spCells M := by simp [spCells]
theorem spCells_length (L : List Spn) : (spCells L).length = L.length * 2 := by
  induction L with
  | nil => rfl
  | cons s L ih => simp only [spCells_cons, List.length_cons, ih]; omega
theorem spCells_get (L : List Spn) : ∀ i, i < L.length → (spCells L)[i * 2]? = some (.int .i64 (L.getD i (0, 0)).1) ∧ (spCells L)[i * 2 + 1]? = some (.int .i64 (L.getD i (0, 0)).2) := by
  induction L with
  | nil => intro i hi; simp at hi
  | cons s L ih =>
    intro i hi
    cases i with
    | zero => simp [spCells_cons]
    | succ i =>
      have := ih i (by simpa using hi)
      rw [show (i + 1) * 2 = i * 2 + 1 + 1 by omega]
      simp only [spCells_cons, List.getElem?_cons_succ, List.getD_cons_succ]
      exact this
theorem spCells_one (L : List Spn) : ∀ u ∈ spCells L, u.oneCell' = true := by
  intro u hu
  simp only [spCells, List.mem_flatMap, List.mem_cons, List.not_mem_nil, or_false] at hu
  obtain ⟨s, _, rfl | rfl⟩ := hu <;> rfl
/-- A list of the call's own. -/
def OwnT (T : TypeId) (w : World) (base : Nat) (v : Value) (L : List Spn) : Prop := w.ownsRow base T 2 v L.length (spCells L)
theorem OwnT.nil (T : TypeId) (w : World) (base : Nat) : OwnT T w base (.slice none 0 0) [] := World.ownsRow_nil w base T 2
theorem OwnT.shape {T : TypeId} {w : World} {base : Nat} {v : Value} {L : List Spn} (h : OwnT T w base v L) : ∃ ao cap, v = .slice ao L.length cap ∧ SpAt w ao L ∧ (∀ a, ao = some a → base ≤ a.block ∧ a.block < w.heap.size) := by
  have hh : w.ownsRow base T 2 v L.length (spCells L) := h
  rcases hh.2 with ⟨rfl, hn⟩ | ⟨g, cap, cur, rfl, hb, hg, r⟩
  · exact ⟨none, 0, by rw [hn], .inl (List.length_eq_zero_iff.1 hn), fun a ha => by cases ha⟩
  · refine ⟨_, cap, rfl, ?_, fun a ha => by cases ha; exact ⟨hb, lt_of_block hg⟩⟩
    refine .inr ⟨g, 0, rfl, lt_of_block hg, fun i hi => ?_⟩
    have := spCells_get L i hi
    rw [Nat.zero_add]
    exact ⟨(World.ownsRow.cellAt hh (i * 2) (by omega)).trans this.1, (World.ownsRow.cellAt hh (i * 2 + 1) (by omega)).trans this.2⟩
theorem OwnT.kept {T : TypeId} {F : Nat → Prop} {w w' : World} {base : Nat} {v : Value} {L : List Spn} (h : OwnT T w base v L) (hk : Kept F w w') (hF : ∀ k, v.ownBlock = some k → ¬ F k) : OwnT T w' base v L := by
  refine ⟨h.1, ?_⟩
  rcases h.2 with hn | ⟨g, cap, cur, rfl, hb, hg, r⟩
  · exact .inl hn
  · exact .inr ⟨g, cap, cur, rfl, hb, (hk.block g (lt_of_block hg) (hF g rfl)).trans hg, r⟩
theorem OwnT.below {T : TypeId} {w w' : World} {base : Nat} {v : Value} {L : List Spn} (h : OwnT T w base v L) (hb : Below w.heap.size w w') : OwnT T w' base v L :=
  h.kept (F := fun _ => False) (Kept.of_below hb) (fun _ _ h => h)
theorem OwnT.mono {T : TypeId} {w : World} {base base' : Nat} {v : Value} {L : List Spn} (h : OwnT T w base v L) (hb : base' ≤ base) : OwnT T w base' v L := by
  refine ⟨h.1, ?_⟩
  rcases h.2 with hn | ⟨g, cap, cur, rfl, hb', r⟩
  · exact .inl hn
  · exact .inr ⟨g, cap, cur, rfl, Nat.le_trans hb hb', r⟩
theorem OwnT.lt {T : TypeId} {w : World} {base : Nat} {v : Value} {L : List Spn} (h : OwnT T w base v L) : ∀ k, v.ownBlock = some k → base ≤ k ∧ k < w.heap.size := World.ownsRow.lt h


theorem Tryd.info28 : (Tryd.prog.info? 28).map (fun i => (i.zero, i.size, i.bytes)) = some (some (.agg #[.int .i64 0, .int .i64 0]), 2, 16) := by kernel_rfl
theorem Tryd.info36 : (Tryd.prog.info? 36).map (fun i => (i.zero, i.size, i.bytes)) = some (some (.agg #[.int .i64 0, .int .i64 0]), 2, 16) := by kernel_rfl
theorem new_cells (T : TypeId) (w0 : World) (s : Spn) (b : Nat) (hb : b = w0.heap.size) : ∀ j u, ([.int .i64 s.1, .int .i64 s.2] : List Value)[j]? = some u → (w0.alloc (.cells #[.int .i64 s.1, .int .i64 s.2] T)).cell? ((⟨b, 0, none⟩ : Addr).add j) = some u := by
  subst hb
  intro j u hu
  match j, hu with
  | 0, hu => simp at hu; subst hu; simp [Addr.add]
  | 1, hu => simp at hu; subst hu; simp [Addr.add]
theorem spCells_snoc (A : List Spn) (s : Spn) : spCells (A ++ [s]) = spCells A ++ [.int .i64 s.1, .int .i64 s.2] := by rw [spCells_append]; rfl
theorem OwnT.snoc {T : TypeId} {w : World} {base : Nat} {v : Value} {A : List Spn} {s : Spn} (h : w.ownsRow base T 2 v (A.length + 1) (spCells A ++ [.int .i64 s.1, .int .i64 s.2])) : OwnT T w base v (A ++ [s]) := by
  unfold OwnT
  rw [spCells_snoc, List.length_append]
  simpa using h
end Go.Proofs.YtfjifedfenpbbaaDoor
