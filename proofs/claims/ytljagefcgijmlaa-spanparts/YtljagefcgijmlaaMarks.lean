/-
  Marks of the statement's apart, laid one by one. No condition.
-/
import Derived.Test.YtljagefcgijmlaaGrow
namespace Go.Proofs.Ytljagefcgijmlaa
open Go.RowKit Go.Lib

def mcS (i : Nat) : List Value := [.int .i64 (-1 - (i : Int)), .int .i64 (i : Int)]
theorem mcS_len (i : Nat) : (mcS i).length = 2 := rfl
theorem Try.info22 : (Try.prog.info? 22).map (fun i => (i.zero, i.size, i.bytes)) = some (some (.slice none 0 0), 1, 24) := by kernel_rfl
theorem below_base {base : Nat} {w a b : World} (h : Below base w a) (k : Kept (fun k => base ≤ k) a b) (hb : base ≤ w.heap.size) : Below base w b :=
  h.trans (k.below (Nat.le_trans hb h.size) (fun _ h => h))

/-- The marks laid so far. -/
structure Mkd (w0 : World) (base : Nat) (l : Value) (D : List LD) (i k : Nat) (X : Nat → List Value) (w : World) : Prop where
  ls : LsAt 22 46 2 w base l D X
  done : ∀ i' (h : i' < D.length), i' < i → X i' = rep mcS i' (D[i']).n
  part : ∀ j, j < k * 2 → (X i)[j]? = (mcS i)[j % 2]?
  below : Below base w0 w

theorem Mkd.step {w0 w : World} {base : Nat} {l : Value} {D : List LD} {i k : Nat} {X : Nat → List Value} (h : Mkd w0 base l D i k X w) (hi : i < D.length) (hk : k < (D[i]).n) {g cap : Nat} (hv : (D[i]).v = .slice (some ⟨g, 0, none⟩) (D[i]).n cap) :
    (∃ u, w.cell? ⟨g, k * 2, none⟩ = some u) ∧ w.frozen? ⟨g, k * 2, none⟩ = false ∧ (∃ u, (w.setCell ⟨g, k * 2, none⟩ (.int .i64 (-1 - (i : Int)))).cell? ⟨g, k * 2 + 1, none⟩ = some u) ∧ (w.setCell ⟨g, k * 2, none⟩ (.int .i64 (-1 - (i : Int)))).frozen? ⟨g, k * 2 + 1, none⟩ = false ∧
    ∃ X', Mkd w0 base l D i (k + 1) X' ((w.setCell ⟨g, k * 2, none⟩ (.int .i64 (-1 - (i : Int)))).setCell ⟨g, k * 2 + 1, none⟩ (.int .i64 (i : Int))) := by
  have hh := h.ls.each i hi
  rw [hv] at hh
  have hl := hh.1
  obtain ⟨h3, h4⟩ := hh.stored (k * 2) (.int .i64 (-1 - (i : Int)))
  obtain ⟨h5, h6⟩ := h3.stored (k * 2 + 1) (.int .i64 (i : Int))
  refine ⟨⟨(X i)[k * 2]'(by omega), ?_⟩, hh.frozenAt _, ⟨((X i).set (k * 2) (.int .i64 (-1 - (i : Int))))[k * 2 + 1]'(by rw [List.length_set]; omega), ?_⟩, h3.frozenAt _, fun j => if j = i then ((X i).set (k * 2) (.int .i64 (-1 - (i : Int)))).set (k * 2 + 1) (.int .i64 (i : Int)) else X j, ?_, ?_, ?_, ?_⟩
  · rw [hh.cellAt (k * 2) (by omega)]; exact List.getElem?_eq_getElem _
  · rw [h3.cellAt (k * 2 + 1) (by omega)]; exact List.getElem?_eq_getElem _
  · refine h.ls.turned (by decide) hi (by rw [hv]; exact h5) ?_
    rw [hv]
    exact (kept_of_grown h4).trans (kept_of_grown h6)
  · intro i' hi' hlt
    simp only [show ¬ i' = i by omega, if_false]
    exact h.done i' hi' hlt
  · intro j hj
    simp only [if_true]
    by_cases h1 : j = k * 2 + 1
    · subst h1
      rw [List.getElem?_set_self (by rw [List.length_set]; omega), show (k * 2 + 1) % 2 = 1 by omega]
      rfl
    · rw [List.getElem?_set_ne (by omega)]
      by_cases h2 : j = k * 2
      · subst h2
        rw [List.getElem?_set_self (by omega), show (k * 2) % 2 = 0 by omega]
        rfl
      · rw [List.getElem?_set_ne (by omega)]
        exact h.part j (by omega)
  · have hbg : base ≤ g := (World.ownsRow.lt hh g rfl).1
    exact (h.below.setCell hbg _).setCell hbg _
theorem Mkd.next {w0 w : World} {base : Nat} {l : Value} {D : List LD} {i : Nat} {X : Nat → List Value} (hi : i < D.length) (h : Mkd w0 base l D i (D[i]).n X w) : Mkd w0 base l D (i + 1) 0 X w := by
  refine ⟨h.ls, fun i' h1 h2 => ?_, fun j hj => by omega, h.below⟩
  rcases Nat.lt_or_ge i' i with h3 | h3
  · exact h.done i' h1 h3
  · obtain rfl : i' = i := by omega
    have hl := (h.ls.each i' hi).1
    apply List.ext_getElem?
    intro j
    by_cases hj : j < (D[i']).n * 2
    · rw [h.part j hj, rep_get mcS_len i' _ j hj]
    · rw [List.getElem?_eq_none (by omega), List.getElem?_eq_none (by rw [rep_length mcS_len]; omega)]
theorem Mkd.out {w0 w : World} {base : Nat} {l : Value} {D : List LD} {X : Nat → List Value} (h : Mkd w0 base l D D.length 0 X w) : GrO 22 46 2 mcS w base l (.slice none 0 0) D [] 0 := by
  refine GrO.start ⟨h.ls.row, fun i hi => ?_, h.ls.apart⟩
  have := h.ls.each i hi
  rw [h.done i hi hi] at this
  simpa [hi] using this
end Go.Proofs.Ytljagefcgijmlaa
