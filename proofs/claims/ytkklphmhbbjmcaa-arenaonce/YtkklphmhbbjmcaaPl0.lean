/-
  A script in memory; what a loop over the lent list finds. Of the program its types alone: no condition.
-/
import Derived.Test.YtkklphmhbbjmcaaPls
namespace Go.Proofs.Ytkklphmhbbjmcaa
open Go.RowKit Go.Lib Go.Maps

/-- A script in memory. -/
def OpAt (w : World) (so : Option Addr) (T : List OpZ) : Prop := T = [] ∨ ∃ b off, so = some ⟨b, off, none⟩ ∧ b < w.heap.size ∧ ∀ i (h : i < T.length), (w.cell? ⟨b, off + i * 5, none⟩ = some (.bool T[i].other) ∧ w.cell? ⟨b, off + i * 5 + 1, none⟩ = some (.bool T[i].near) ∧ w.cell? ⟨b, off + i * 5 + 2, none⟩ = some (.int .i64 T[i].what) ∧ w.cell? ⟨b, off + i * 5 + 3, none⟩ = some (.int .i64 T[i].n) ∧ w.cell? ⟨b, off + i * 5 + 4, none⟩ = some (.slice T[i].ka T[i].K.length T[i].kc)) ∧ OpOk w T[i]
theorem OpOk.base {w : World} {o : OpZ} (h : OpOk w o) : ∀ b off, o.ka = some ⟨b, off, none⟩ → o.K ≠ [] → b < w.heap.size := fun b off e hne => by
  rcases h.at_ with h1 | ⟨b', off', e', h1, _⟩
  · exact absurd h1 hne
  · rw [e] at e'
    injection e' with e'; injection e' with e1 e2
    subst e1
    exact h1
theorem opOk_nil (w : World) (what n : Int) (hn : Fit n) : OpOk w ⟨false, false, what, n, none, [], 0⟩ := ⟨hn, fun k hk => by simp at hk, .inl rfl, Nat.zero_le _⟩
theorem OpAt.get {w : World} {so : Option Addr} {T : List OpZ} (h : OpAt w so T) {i : Nat} (hi : i < T.length) : ∃ b off, so = some ⟨b, off, none⟩ ∧ b < w.heap.size ∧ (w.cell? ⟨b, off + i * 5, none⟩ = some (.bool T[i].other) ∧ w.cell? ⟨b, off + i * 5 + 1, none⟩ = some (.bool T[i].near) ∧ w.cell? ⟨b, off + i * 5 + 2, none⟩ = some (.int .i64 T[i].what) ∧ w.cell? ⟨b, off + i * 5 + 3, none⟩ = some (.int .i64 T[i].n) ∧ w.cell? ⟨b, off + i * 5 + 4, none⟩ = some (.slice T[i].ka T[i].K.length T[i].kc)) ∧ OpOk w T[i] := by
  rcases h with h | ⟨b, off, e, hb, h⟩
  · rw [h] at hi; simp at hi
  · exact ⟨b, off, e, hb, (h i hi).1, (h i hi).2⟩
end Go.Proofs.Ytkklphmhbbjmcaa
