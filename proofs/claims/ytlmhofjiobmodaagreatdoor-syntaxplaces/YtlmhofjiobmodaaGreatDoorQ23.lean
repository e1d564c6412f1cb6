/-
  The reader's item by its contract. No condition.
-/
import Derived.Test.YtlmhofjiobmodaaGreatDoorQ22
namespace Go.Proofs.YtlmhofjiobmodaaGreatDoor
open Go.RowKit Go.Lib

theorem st11 {W : World} {P : Nat} {t : TypeId} {x0 x1 x2 x3 x4 x5 x6 x7 x8 x9 x10 : Value} (h : W.heap[P]? = some (.cells #[x0, x1, x2, x3, x4, x5, x6, x7, x8, x9, x10] t (0, 0))) (y0 y1 y2 y3 y4 y5 y6 y7 y8 y9 y10 : Value) :
    (∃ u, W.cell? ⟨P, 0, none⟩ = some u) ∧ W.frozen? ⟨P, 0, none⟩ = false ∧ (∃ u, (W.setCell ⟨P, 0, none⟩ y0).cell? ⟨P, 1, none⟩ = some u) ∧ (W.setCell ⟨P, 0, none⟩ y0).frozen? ⟨P, 1, none⟩ = false ∧ (∃ u, ((W.setCell ⟨P, 0, none⟩ y0).setCell ⟨P, 1, none⟩ y1).cell? ⟨P, 2, none⟩ = some u) ∧ ((W.setCell ⟨P, 0, none⟩ y0).setCell ⟨P, 1, none⟩ y1).frozen? ⟨P, 2, none⟩ = false ∧ (∃ u, (((W.setCell ⟨P, 0, none⟩ y0).setCell ⟨P, 1, none⟩ y1).setCell ⟨P, 2, none⟩ y2).cell? ⟨P, 3, none⟩ = some u) ∧ (((W.setCell ⟨P, 0, none⟩ y0).setCell ⟨P, 1, none⟩ y1).setCell ⟨P, 2, none⟩ y2).frozen? ⟨P, 3, none⟩ = false ∧ (∃ u, ((((W.setCell ⟨P, 0, none⟩ y0).setCell ⟨P, 1, none⟩ y1).setCell ⟨P, 2, none⟩ y2).setCell ⟨P, 3, none⟩ y3).cell? ⟨P, 4, none⟩ = some u) ∧ ((((W.setCell ⟨P, 0, none⟩ y0).setCell ⟨P, 1, none⟩ y1).setCell ⟨P, 2, none⟩ y2).setCell ⟨P, 3, none⟩ y3).frozen? ⟨P, 4, none⟩ = false ∧ (∃ u, (((((W.setCell ⟨P, 0, none⟩ y0).setCell ⟨P, 1, none⟩ y1).setCell ⟨P, 2, none⟩ y2).setCell ⟨P, 3, none⟩ y3).setCell ⟨P, 4, none⟩ y4).cell? ⟨P, 5, none⟩ = some u) ∧ (((((W.setCell ⟨P, 0, none⟩ y0).setCell ⟨P, 1, none⟩ y1).setCell ⟨P, 2, none⟩ y2).setCell ⟨P, 3, none⟩ y3).setCell ⟨P, 4, none⟩ y4).frozen? ⟨P, 5, none⟩ = false ∧ (∃ u, ((((((W.setCell ⟨P, 0, none⟩ y0).setCell ⟨P, 1, none⟩ y1).setCell ⟨P, 2, none⟩ y2).setCell ⟨P, 3, none⟩ y3).setCell ⟨P, 4, none⟩ y4).setCell ⟨P, 5, none⟩ y5).cell? ⟨P, 6, none⟩ = some u) ∧ ((((((W.setCell ⟨P, 0, none⟩ y0).setCell ⟨P, 1, none⟩ y1).setCell ⟨P, 2, none⟩ y2).setCell ⟨P, 3, none⟩ y3).setCell ⟨P, 4, none⟩ y4).setCell ⟨P, 5, none⟩ y5).frozen? ⟨P, 6, none⟩ = false ∧ (∃ u, (((((((W.setCell ⟨P, 0, none⟩ y0).setCell ⟨P, 1, none⟩ y1).setCell ⟨P, 2, none⟩ y2).setCell ⟨P, 3, none⟩ y3).setCell ⟨P, 4, none⟩ y4).setCell ⟨P, 5, none⟩ y5).setCell ⟨P, 6, none⟩ y6).cell? ⟨P, 7, none⟩ = some u) ∧ (((((((W.setCell ⟨P, 0, none⟩ y0).setCell ⟨P, 1, none⟩ y1).setCell ⟨P, 2, none⟩ y2).setCell ⟨P, 3, none⟩ y3).setCell ⟨P, 4, none⟩ y4).setCell ⟨P, 5, none⟩ y5).setCell ⟨P, 6, none⟩ y6).frozen? ⟨P, 7, none⟩ = false ∧ (∃ u, ((((((((W.setCell ⟨P, 0, none⟩ y0).setCell ⟨P, 1, none⟩ y1).setCell ⟨P, 2, none⟩ y2).setCell ⟨P, 3, none⟩ y3).setCell ⟨P, 4, none⟩ y4).setCell ⟨P, 5, none⟩ y5).setCell ⟨P, 6, none⟩ y6).setCell ⟨P, 7, none⟩ y7).cell? ⟨P, 8, none⟩ = some u) ∧ ((((((((W.setCell ⟨P, 0, none⟩ y0).setCell ⟨P, 1, none⟩ y1).setCell ⟨P, 2, none⟩ y2).setCell ⟨P, 3, none⟩ y3).setCell ⟨P, 4, none⟩ y4).setCell ⟨P, 5, none⟩ y5).setCell ⟨P, 6, none⟩ y6).setCell ⟨P, 7, none⟩ y7).frozen? ⟨P, 8, none⟩ = false ∧ (∃ u, (((((((((W.setCell ⟨P, 0, none⟩ y0).setCell ⟨P, 1, none⟩ y1).setCell ⟨P, 2, none⟩ y2).setCell ⟨P, 3, none⟩ y3).setCell ⟨P, 4, none⟩ y4).setCell ⟨P, 5, none⟩ y5).setCell ⟨P, 6, none⟩ y6).setCell ⟨P, 7, none⟩ y7).setCell ⟨P, 8, none⟩ y8).cell? ⟨P, 9, none⟩ = some u) ∧ (((((((((W.setCell ⟨P, 0, none⟩ y0).setCell ⟨P, 1, none⟩ y1).setCell ⟨P, 2, none⟩ y2).setCell ⟨P, 3, none⟩ y3).setCell ⟨P, 4, none⟩ y4).setCell ⟨P, 5, none⟩ y5).setCell ⟨P, 6, none⟩ y6).setCell ⟨P, 7, none⟩ y7).setCell ⟨P, 8, none⟩ y8).frozen? ⟨P, 9, none⟩ = false ∧ (∃ u, ((((((((((W.setCell ⟨P, 0, none⟩ y0).setCell ⟨P, 1, none⟩ y1).setCell ⟨P, 2, none⟩ y2).setCell ⟨P, 3, none⟩ y3).setCell ⟨P, 4, none⟩ y4).setCell ⟨P, 5, none⟩ y5).setCell ⟨P, 6, none⟩ y6).setCell ⟨P, 7, none⟩ y7).setCell ⟨P, 8, none⟩ y8).setCell ⟨P, 9, none⟩ y9).cell? ⟨P, 10, none⟩ = some u) ∧ ((((((((((W.setCell ⟨P, 0, none⟩ y0).setCell ⟨P, 1, none⟩ y1).setCell ⟨P, 2, none⟩ y2).setCell ⟨P, 3, none⟩ y3).setCell ⟨P, 4, none⟩ y4).setCell ⟨P, 5, none⟩ y5).setCell ⟨P, 6, none⟩ y6).setCell ⟨P, 7, none⟩ y7).setCell ⟨P, 8, none⟩ y8).setCell ⟨P, 9, none⟩ y9).frozen? ⟨P, 10, none⟩ = false ∧ (((((((((((W.setCell ⟨P, 0, none⟩ y0).setCell ⟨P, 1, none⟩ y1).setCell ⟨P, 2, none⟩ y2).setCell ⟨P, 3, none⟩ y3).setCell ⟨P, 4, none⟩ y4).setCell ⟨P, 5, none⟩ y5).setCell ⟨P, 6, none⟩ y6).setCell ⟨P, 7, none⟩ y7).setCell ⟨P, 8, none⟩ y8).setCell ⟨P, 9, none⟩ y9).setCell ⟨P, 10, none⟩ y10).heap[P]? = some (.cells #[y0, y1, y2, y3, y4, y5, y6, y7, y8, y9, y10] t (0, 0)) ∧ Kept (fun k => k = P) W (((((((((((W.setCell ⟨P, 0, none⟩ y0).setCell ⟨P, 1, none⟩ y1).setCell ⟨P, 2, none⟩ y2).setCell ⟨P, 3, none⟩ y3).setCell ⟨P, 4, none⟩ y4).setCell ⟨P, 5, none⟩ y5).setCell ⟨P, 6, none⟩ y6).setCell ⟨P, 7, none⟩ y7).setCell ⟨P, 8, none⟩ y8).setCell ⟨P, 9, none⟩ y9).setCell ⟨P, 10, none⟩ y10) := by
  have h0 : (W.setCell ⟨P, 0, none⟩ y0).heap[P]? = some (.cells #[y0, x1, x2, x3, x4, x5, x6, x7, x8, x9, x10] t (0, 0)) := by
    have := block_setCell' h 0 y0
    simpa using this
  have h1 : ((W.setCell ⟨P, 0, none⟩ y0).setCell ⟨P, 1, none⟩ y1).heap[P]? = some (.cells #[y0, y1, x2, x3, x4, x5, x6, x7, x8, x9, x10] t (0, 0)) := by
    have := block_setCell' h0 1 y1
    simpa using this
  have h2 : (((W.setCell ⟨P, 0, none⟩ y0).setCell ⟨P, 1, none⟩ y1).setCell ⟨P, 2, none⟩ y2).heap[P]? = some (.cells #[y0, y1, y2, x3, x4, x5, x6, x7, x8, x9, x10] t (0, 0)) := by
    have := block_setCell' h1 2 y2
    simpa using this
  have h3 : ((((W.setCell ⟨P, 0, none⟩ y0).setCell ⟨P, 1, none⟩ y1).setCell ⟨P, 2, none⟩ y2).setCell ⟨P, 3, none⟩ y3).heap[P]? = some (.cells #[y0, y1, y2, y3, x4, x5, x6, x7, x8, x9, x10] t (0, 0)) := by
    have := block_setCell' h2 3 y3
    simpa using this
  have h4 : (((((W.setCell ⟨P, 0, none⟩ y0).setCell ⟨P, 1, none⟩ y1).setCell ⟨P, 2, none⟩ y2).setCell ⟨P, 3, none⟩ y3).setCell ⟨P, 4, none⟩ y4).heap[P]? = some (.cells #[y0, y1, y2, y3, y4, x5, x6, x7, x8, x9, x10] t (0, 0)) := by
    have := block_setCell' h3 4 y4
    simpa using this
  have h5 : ((((((W.setCell ⟨P, 0, none⟩ y0).setCell ⟨P, 1, none⟩ y1).setCell ⟨P, 2, none⟩ y2).setCell ⟨P, 3, none⟩ y3).setCell ⟨P, 4, none⟩ y4).setCell ⟨P, 5, none⟩ y5).heap[P]? = some (.cells #[y0, y1, y2, y3, y4, y5, x6, x7, x8, x9, x10] t (0, 0)) := by
    have := block_setCell' h4 5 y5
    simpa using this
  have h6 : (((((((W.setCell ⟨P, 0, none⟩ y0).setCell ⟨P, 1, none⟩ y1).setCell ⟨P, 2, none⟩ y2).setCell ⟨P, 3, none⟩ y3).setCell ⟨P, 4, none⟩ y4).setCell ⟨P, 5, none⟩ y5).setCell ⟨P, 6, none⟩ y6).heap[P]? = some (.cells #[y0, y1, y2, y3, y4, y5, y6, x7, x8, x9, x10] t (0, 0)) := by
    have := block_setCell' h5 6 y6
    simpa using this
  have h7 : ((((((((W.setCell ⟨P, 0, none⟩ y0).setCell ⟨P, 1, none⟩ y1).setCell ⟨P, 2, none⟩ y2).setCell ⟨P, 3, none⟩ y3).setCell ⟨P, 4, none⟩ y4).setCell ⟨P, 5, none⟩ y5).setCell ⟨P, 6, none⟩ y6).setCell ⟨P, 7, none⟩ y7).heap[P]? = some (.cells #[y0, y1, y2, y3, y4, y5, y6, y7, x8, x9, x10] t (0, 0)) := by
    have := block_setCell' h6 7 y7
    simpa using this
  have h8 : (((((((((W.setCell ⟨P, 0, none⟩ y0).setCell ⟨P, 1, none⟩ y1).setCell ⟨P, 2, none⟩ y2).setCell ⟨P, 3, none⟩ y3).setCell ⟨P, 4, none⟩ y4).setCell ⟨P, 5, none⟩ y5).setCell ⟨P, 6, none⟩ y6).setCell ⟨P, 7, none⟩ y7).setCell ⟨P, 8, none⟩ y8).heap[P]? = some (.cells #[y0, y1, y2, y3, y4, y5, y6, y7, y8, x9, x10] t (0, 0)) := by
    have := block_setCell' h7 8 y8
    simpa using this
  have h9 : ((((((((((W.setCell ⟨P, 0, none⟩ y0).setCell ⟨P, 1, none⟩ y1).setCell ⟨P, 2, none⟩ y2).setCell ⟨P, 3, none⟩ y3).setCell ⟨P, 4, none⟩ y4).setCell ⟨P, 5, none⟩ y5).setCell ⟨P, 6, none⟩ y6).setCell ⟨P, 7, none⟩ y7).setCell ⟨P, 8, none⟩ y8).setCell ⟨P, 9, none⟩ y9).heap[P]? = some (.cells #[y0, y1, y2, y3, y4, y5, y6, y7, y8, y9, x10] t (0, 0)) := by
    have := block_setCell' h8 9 y9
    simpa using this
  have h10 : (((((((((((W.setCell ⟨P, 0, none⟩ y0).setCell ⟨P, 1, none⟩ y1).setCell ⟨P, 2, none⟩ y2).setCell ⟨P, 3, none⟩ y3).setCell ⟨P, 4, none⟩ y4).setCell ⟨P, 5, none⟩ y5).setCell ⟨P, 6, none⟩ y6).setCell ⟨P, 7, none⟩ y7).setCell ⟨P, 8, none⟩ y8).setCell ⟨P, 9, none⟩ y9).setCell ⟨P, 10, none⟩ y10).heap[P]? = some (.cells #[y0, y1, y2, y3, y4, y5, y6, y7, y8, y9, y10] t (0, 0)) := by
    have := block_setCell' h9 10 y10
    simpa using this
  have ks : ∀ (V : World) (j : Nat) (u : Value), Kept (fun k => k = P) V (V.setCell ⟨P, j, none⟩ u) := fun V j u => Kept.setCell (F := fun k => k = P) (p := ⟨P, j, none⟩) (Kept.refl _ _) rfl u
  refine ⟨⟨_, by rw [cell_of_row _ _ _ _ _ _ h]; rfl⟩, frozen_of_row _ _ _ _ _ h, ⟨_, by rw [cell_of_row _ _ _ _ _ _ h0]; rfl⟩, frozen_of_row _ _ _ _ _ h0, ⟨_, by rw [cell_of_row _ _ _ _ _ _ h1]; rfl⟩, frozen_of_row _ _ _ _ _ h1, ⟨_, by rw [cell_of_row _ _ _ _ _ _ h2]; rfl⟩, frozen_of_row _ _ _ _ _ h2, ⟨_, by rw [cell_of_row _ _ _ _ _ _ h3]; rfl⟩, frozen_of_row _ _ _ _ _ h3, ⟨_, by rw [cell_of_row _ _ _ _ _ _ h4]; rfl⟩, frozen_of_row _ _ _ _ _ h4, ⟨_, by rw [cell_of_row _ _ _ _ _ _ h5]; rfl⟩, frozen_of_row _ _ _ _ _ h5, ⟨_, by rw [cell_of_row _ _ _ _ _ _ h6]; rfl⟩, frozen_of_row _ _ _ _ _ h6, ⟨_, by rw [cell_of_row _ _ _ _ _ _ h7]; rfl⟩, frozen_of_row _ _ _ _ _ h7, ⟨_, by rw [cell_of_row _ _ _ _ _ _ h8]; rfl⟩, frozen_of_row _ _ _ _ _ h8, ⟨_, by rw [cell_of_row _ _ _ _ _ _ h9]; rfl⟩, frozen_of_row _ _ _ _ _ h9, h10, ((((((((((ks _ _ _).trans (ks _ _ _)).trans (ks _ _ _)).trans (ks _ _ _)).trans (ks _ _ _)).trans (ks _ _ _)).trans (ks _ _ _)).trans (ks _ _ _)).trans (ks _ _ _)).trans (ks _ _ _)).trans (ks _ _ _)⟩
theorem st11c {W : World} {P : Nat} {t : TypeId} {x0 x1 x2 x3 x4 x5 x6 x7 x8 x9 x10 : Value} (h : W.heap[P]? = some (.cells #[x0, x1, x2, x3, x4, x5, x6, x7, x8, x9, x10] t (0, 0))) (y0 y1 y2 y3 y4 y5 y6 y7 : Value) :
    (∃ u, W.cell? ⟨P, 2, none⟩ = some u) ∧ W.frozen? ⟨P, 2, none⟩ = false ∧ (∃ u, (W.setCell ⟨P, 2, none⟩ y0).cell? ⟨P, 3, none⟩ = some u) ∧ (W.setCell ⟨P, 2, none⟩ y0).frozen? ⟨P, 3, none⟩ = false ∧ (∃ u, ((W.setCell ⟨P, 2, none⟩ y0).setCell ⟨P, 3, none⟩ y1).cell? ⟨P, 4, none⟩ = some u) ∧ ((W.setCell ⟨P, 2, none⟩ y0).setCell ⟨P, 3, none⟩ y1).frozen? ⟨P, 4, none⟩ = false ∧ (∃ u, (((W.setCell ⟨P, 2, none⟩ y0).setCell ⟨P, 3, none⟩ y1).setCell ⟨P, 4, none⟩ y2).cell? ⟨P, 5, none⟩ = some u) ∧ (((W.setCell ⟨P, 2, none⟩ y0).setCell ⟨P, 3, none⟩ y1).setCell ⟨P, 4, none⟩ y2).frozen? ⟨P, 5, none⟩ = false ∧ (∃ u, ((((W.setCell ⟨P, 2, none⟩ y0).setCell ⟨P, 3, none⟩ y1).setCell ⟨P, 4, none⟩ y2).setCell ⟨P, 5, none⟩ y3).cell? ⟨P, 6, none⟩ = some u) ∧ ((((W.setCell ⟨P, 2, none⟩ y0).setCell ⟨P, 3, none⟩ y1).setCell ⟨P, 4, none⟩ y2).setCell ⟨P, 5, none⟩ y3).frozen? ⟨P, 6, none⟩ = false ∧ (∃ u, (((((W.setCell ⟨P, 2, none⟩ y0).setCell ⟨P, 3, none⟩ y1).setCell ⟨P, 4, none⟩ y2).setCell ⟨P, 5, none⟩ y3).setCell ⟨P, 6, none⟩ y4).cell? ⟨P, 7, none⟩ = some u) ∧ (((((W.setCell ⟨P, 2, none⟩ y0).setCell ⟨P, 3, none⟩ y1).setCell ⟨P, 4, none⟩ y2).setCell ⟨P, 5, none⟩ y3).setCell ⟨P, 6, none⟩ y4).frozen? ⟨P, 7, none⟩ = false ∧ (∃ u, ((((((W.setCell ⟨P, 2, none⟩ y0).setCell ⟨P, 3, none⟩ y1).setCell ⟨P, 4, none⟩ y2).setCell ⟨P, 5, none⟩ y3).setCell ⟨P, 6, none⟩ y4).setCell ⟨P, 7, none⟩ y5).cell? ⟨P, 8, none⟩ = some u) ∧ ((((((W.setCell ⟨P, 2, none⟩ y0).setCell ⟨P, 3, none⟩ y1).setCell ⟨P, 4, none⟩ y2).setCell ⟨P, 5, none⟩ y3).setCell ⟨P, 6, none⟩ y4).setCell ⟨P, 7, none⟩ y5).frozen? ⟨P, 8, none⟩ = false ∧ (∃ u, (((((((W.setCell ⟨P, 2, none⟩ y0).setCell ⟨P, 3, none⟩ y1).setCell ⟨P, 4, none⟩ y2).setCell ⟨P, 5, none⟩ y3).setCell ⟨P, 6, none⟩ y4).setCell ⟨P, 7, none⟩ y5).setCell ⟨P, 8, none⟩ y6).cell? ⟨P, 9, none⟩ = some u) ∧ (((((((W.setCell ⟨P, 2, none⟩ y0).setCell ⟨P, 3, none⟩ y1).setCell ⟨P, 4, none⟩ y2).setCell ⟨P, 5, none⟩ y3).setCell ⟨P, 6, none⟩ y4).setCell ⟨P, 7, none⟩ y5).setCell ⟨P, 8, none⟩ y6).frozen? ⟨P, 9, none⟩ = false ∧ ((((((((W.setCell ⟨P, 2, none⟩ y0).setCell ⟨P, 3, none⟩ y1).setCell ⟨P, 4, none⟩ y2).setCell ⟨P, 5, none⟩ y3).setCell ⟨P, 6, none⟩ y4).setCell ⟨P, 7, none⟩ y5).setCell ⟨P, 8, none⟩ y6).setCell ⟨P, 9, none⟩ y7).heap[P]? = some (.cells #[x0, x1, y0, y1, y2, y3, y4, y5, y6, y7, x10] t (0, 0)) ∧ Kept (fun k => k = P) W ((((((((W.setCell ⟨P, 2, none⟩ y0).setCell ⟨P, 3, none⟩ y1).setCell ⟨P, 4, none⟩ y2).setCell ⟨P, 5, none⟩ y3).setCell ⟨P, 6, none⟩ y4).setCell ⟨P, 7, none⟩ y5).setCell ⟨P, 8, none⟩ y6).setCell ⟨P, 9, none⟩ y7) := by
  have h0 : (W.setCell ⟨P, 2, none⟩ y0).heap[P]? = some (.cells #[x0, x1, y0, x3, x4, x5, x6, x7, x8, x9, x10] t (0, 0)) := by
    have := block_setCell' h 2 y0
    simpa using this
  have h1 : ((W.setCell ⟨P, 2, none⟩ y0).setCell ⟨P, 3, none⟩ y1).heap[P]? = some (.cells #[x0, x1, y0, y1, x4, x5, x6, x7, x8, x9, x10] t (0, 0)) := by
    have := block_setCell' h0 3 y1
    simpa using this
  have h2 : (((W.setCell ⟨P, 2, none⟩ y0).setCell ⟨P, 3, none⟩ y1).setCell ⟨P, 4, none⟩ y2).heap[P]? = some (.cells #[x0, x1, y0, y1, y2, x5, x6, x7, x8, x9, x10] t (0, 0)) := by
    have := block_setCell' h1 4 y2
    simpa using this
  have h3 : ((((W.setCell ⟨P, 2, none⟩ y0).setCell ⟨P, 3, none⟩ y1).setCell ⟨P, 4, none⟩ y2).setCell ⟨P, 5, none⟩ y3).heap[P]? = some (.cells #[x0, x1, y0, y1, y2, y3, x6, x7, x8, x9, x10] t (0, 0)) := by
    have := block_setCell' h2 5 y3
    simpa using this
  have h4 : (((((W.setCell ⟨P, 2, none⟩ y0).setCell ⟨P, 3, none⟩ y1).setCell ⟨P, 4, none⟩ y2).setCell ⟨P, 5, none⟩ y3).setCell ⟨P, 6, none⟩ y4).heap[P]? = some (.cells #[x0, x1, y0, y1, y2, y3, y4, x7, x8, x9, x10] t (0, 0)) := by
    have := block_setCell' h3 6 y4
    simpa using this
  have h5 : ((((((W.setCell ⟨P, 2, none⟩ y0).setCell ⟨P, 3, none⟩ y1).setCell ⟨P, 4, none⟩ y2).setCell ⟨P, 5, none⟩ y3).setCell ⟨P, 6, none⟩ y4).setCell ⟨P, 7, none⟩ y5).heap[P]? = some (.cells #[x0, x1, y0, y1, y2, y3, y4, y5, x8, x9, x10] t (0, 0)) := by
    have := block_setCell' h4 7 y5
    simpa using this
  have h6 : (((((((W.setCell ⟨P, 2, none⟩ y0).setCell ⟨P, 3, none⟩ y1).setCell ⟨P, 4, none⟩ y2).setCell ⟨P, 5, none⟩ y3).setCell ⟨P, 6, none⟩ y4).setCell ⟨P, 7, none⟩ y5).setCell ⟨P, 8, none⟩ y6).heap[P]? = some (.cells #[x0, x1, y0, y1, y2, y3, y4, y5, y6, x9, x10] t (0, 0)) := by
    have := block_setCell' h5 8 y6
    simpa using this
  have h7 : ((((((((W.setCell ⟨P, 2, none⟩ y0).setCell ⟨P, 3, none⟩ y1).setCell ⟨P, 4, none⟩ y2).setCell ⟨P, 5, none⟩ y3).setCell ⟨P, 6, none⟩ y4).setCell ⟨P, 7, none⟩ y5).setCell ⟨P, 8, none⟩ y6).setCell ⟨P, 9, none⟩ y7).heap[P]? = some (.cells #[x0, x1, y0, y1, y2, y3, y4, y5, y6, y7, x10] t (0, 0)) := by
    have := block_setCell' h6 9 y7
    simpa using this
  have ks : ∀ (V : World) (j : Nat) (u : Value), Kept (fun k => k = P) V (V.setCell ⟨P, j, none⟩ u) := fun V j u => Kept.setCell (F := fun k => k = P) (p := ⟨P, j, none⟩) (Kept.refl _ _) rfl u
  refine ⟨⟨_, by rw [cell_of_row _ _ _ _ _ _ h]; rfl⟩, frozen_of_row _ _ _ _ _ h, ⟨_, by rw [cell_of_row _ _ _ _ _ _ h0]; rfl⟩, frozen_of_row _ _ _ _ _ h0, ⟨_, by rw [cell_of_row _ _ _ _ _ _ h1]; rfl⟩, frozen_of_row _ _ _ _ _ h1, ⟨_, by rw [cell_of_row _ _ _ _ _ _ h2]; rfl⟩, frozen_of_row _ _ _ _ _ h2, ⟨_, by rw [cell_of_row _ _ _ _ _ _ h3]; rfl⟩, frozen_of_row _ _ _ _ _ h3, ⟨_, by rw [cell_of_row _ _ _ _ _ _ h4]; rfl⟩, frozen_of_row _ _ _ _ _ h4, ⟨_, by rw [cell_of_row _ _ _ _ _ _ h5]; rfl⟩, frozen_of_row _ _ _ _ _ h5, ⟨_, by rw [cell_of_row _ _ _ _ _ _ h6]; rfl⟩, frozen_of_row _ _ _ _ _ h6, h7, (((((((ks _ _ _).trans (ks _ _ _)).trans (ks _ _ _)).trans (ks _ _ _)).trans (ks _ _ _)).trans (ks _ _ _)).trans (ks _ _ _)).trans (ks _ _ _)⟩
theorem ld11 {W : World} {P : Nat} {t : TypeId} {f : Nat × Nat} {y0 y1 y2 y3 y4 y5 y6 y7 y8 y9 y10 : Value} (h : W.heap[P]? = some (.cells #[y0, y1, y2, y3, y4, y5, y6, y7, y8, y9, y10] t f)) : W.cell? ⟨P, 0, none⟩ = some y0 ∧ W.cell? ⟨P, 1, none⟩ = some y1 ∧ W.cell? ⟨P, 2, none⟩ = some y2 ∧ W.cell? ⟨P, 3, none⟩ = some y3 ∧ W.cell? ⟨P, 4, none⟩ = some y4 ∧ W.cell? ⟨P, 5, none⟩ = some y5 ∧ W.cell? ⟨P, 6, none⟩ = some y6 ∧ W.cell? ⟨P, 7, none⟩ = some y7 ∧ W.cell? ⟨P, 8, none⟩ = some y8 ∧ W.cell? ⟨P, 9, none⟩ = some y9 ∧ W.cell? ⟨P, 10, none⟩ = some y10 :=
  ⟨by rw [cell_of_row _ _ _ _ _ _ h]; rfl, by rw [cell_of_row _ _ _ _ _ _ h]; rfl, by rw [cell_of_row _ _ _ _ _ _ h]; rfl, by rw [cell_of_row _ _ _ _ _ _ h]; rfl, by rw [cell_of_row _ _ _ _ _ _ h]; rfl, by rw [cell_of_row _ _ _ _ _ _ h]; rfl, by rw [cell_of_row _ _ _ _ _ _ h]; rfl, by rw [cell_of_row _ _ _ _ _ _ h]; rfl, by rw [cell_of_row _ _ _ _ _ _ h]; rfl, by rw [cell_of_row _ _ _ _ _ _ h]; rfl, by rw [cell_of_row _ _ _ _ _ _ h]; rfl⟩
/-- The eleven cells of an item. -/
def itV (x : IT) (vs : List Value) : List Value := .int .i64 x.k :: .string ⟨x.nm.toArray⟩ :: (vs ++ [.int .i64 x.p])
def PostI (rbase rp g cap : Nat) (Ts : List Tk) (w : World) (x : PR IT) (e : Ending) (w' : World) : Prop := match x with
  | .ok c j => (∃ vs bs, e = .returned (.agg (itV c vs).toArray) ∧ CtAt w' w.heap.size c.c vs bs ∧ bs.Nodup) ∧ RdA w' rbase rp g cap Ts j ∧ Kept (fun k => k = rp) w w'
  | .bad e0 p => e = pan e0 p ∧ Kept (fun k => k = rp) w w'
  | .out => False
theorem PostI.badI {rbase rp g cap : Nat} {Ts : List Tk} {w w' : World} {x : PR IT} {e : Ending} {e0 p : Int} (hx : x = .bad e0 p) (he : e = pan e0 p) (h : Kept (fun k => k = rp) w w') : PostI rbase rp g cap Ts w x e w' := by
  subst hx
  exact ⟨he, h⟩
theorem PostI.okI {rbase rp g cap : Nat} {Ts : List Tk} {w w' : World} {x : PR IT} {e : Ending} {c : IT} {j : Nat} {vs : List Value} {bs : List Nat} (hx : x = .ok c j) (he : e = .returned (.agg (itV c vs).toArray)) (h1 : CtAt w' w.heap.size c.c vs bs) (h2 : bs.Nodup) (h3 : RdA w' rbase rp g cap Ts j) (h : Kept (fun k => k = rp) w w') : PostI rbase rp g cap Ts w x e w' := by
  subst hx
  exact ⟨⟨vs, bs, he, h1, h2⟩, h3, h⟩
set_option maxRecDepth 100000 in
set_option maxHeartbeats 8000000 in
theorem item_let {rbase rp g cap : Nat} {Ts : List Tk} {f i kind : Nat} {w : World} (hk : kind = 1) (h1 : (tok Ts i).k = 1) (hf : 4 * Ts.length + 5 ≤ f) (hR : RdA w rbase rp g cap Ts i) :
    Calls Tryz.prog 53 #[.pointer (some ⟨rp, 0, none⟩), .int .i64 (kind : Nat)] w (PostI rbase rp g cap Ts w (itemP Ts f kind i)) := by
  obtain ⟨x, hx⟩ : ∃ x, x = itemP Ts f kind i := ⟨_, rfl⟩
  rw [← hx]
  have kb : ((kind : Int) == 1) = true := by simp; omega
  obtain ⟨z, hz⟩ : ∃ z, z = tok Ts i := ⟨_, rfl⟩
  have HX : Hid (x = (takeP Ts 2 (i + 1)).bind fun u l => (takeT Ts 7 [61] l).bind fun _ m => (condP Ts f 0 m).bind fun c n => (takeT Ts 7 [59] n).bind fun _ o => .ok ⟨kind, u.t, c, z.p⟩ o) := by
    unfold Hid
    rw [hx]
    unfold itemP
    rw [takeP_ok h1, ← hz]
    simp only [PR.bind, if_pos hk]
  have HF := hide hf
  have HZ := hide hz
  have HK1 := hide h1
  obtain ⟨Q, hQ⟩ : ∃ Q, Q = w.heap.size := ⟨_, rfl⟩
  obtain ⟨W, hW⟩ : ∃ W, W = w.alloc (.cells #[.int .i64 0, .string ⟨#[]⟩, .int .i64 0, .string ⟨#[]⟩, .string ⟨#[]⟩, .slice none 0 0, .slice none 0 0, .slice none 0 0, .slice none 0 0, .int .i64 0, .int .i64 0] 62) := ⟨_, rfl⟩
  have X0 := hide (show Below w.heap.size w W by rw [hW]; exact al (Below.refl _ _) _)
  have Q0 := hide (show W.heap[Q]? = some (.cells #[.int .i64 0, .string ⟨#[]⟩, .int .i64 0, .string ⟨#[]⟩, .string ⟨#[]⟩, .slice none 0 0, .slice none 0 0, .slice none 0 0, .slice none 0 0, .int .i64 0, .int .i64 0] 62 (0, 0)) by rw [hW, hQ]; exact heap_alloc_new w _)
  have R0 := hide (hR.below X0.out)
  have HQE := hide hQ
  have HGL : Hid (rp < Q ∧ g < Q) := by have := hR.gl; unfold Hid; omega
  have HT := hide (takeR_ok R0.out HK1.out (by decide))
  unfold tkV at HT
  rw [← hz] at HT
  have hf4 := fld4
  have HKB := hide kb
  clear hx hf hR hz h1 hk kb
  go_enter Tryz.func53, Tryz.ntmps53
  go_upto_region 1 with fail
  rw [← hQ, ← hW]
  clear hQ hW
  have nQ : Q ≠ rp := by have := HGL.out; omega
  go_upto_region 2 with (go_at_call 74; refine HT.out.mono ?_; rintro e w1 ⟨rfl, r1, k1⟩; have R1 := hide r1; have K1 := hide k1; clear r1 k1)
  have Q1 := hide ((K1.out.block Q (lt_of_block Q0.out) nQ).trans Q0.out)
  have KA := hide ((Kept.of_below (F := fun k => k = rp) X0.out).trans K1.out)
  have X2 : Hid (Below w1.heap.size w1 (w1.alloc (.cells #[.int .i64 (kind : Nat), .string ⟨#[]⟩, .int .i64 0, .string ⟨#[]⟩, .string ⟨#[]⟩, .slice none 0 0, .slice none 0 0, .slice none 0 0, .slice none 0 0, .int .i64 0, .int .i64 z.p] 62))) := al (Below.refl _ _) _
  have P2 := hide (heap_alloc_new w1 (.cells #[.int .i64 (kind : Nat), .string ⟨#[]⟩, .int .i64 0, .string ⟨#[]⟩, .string ⟨#[]⟩, .slice none 0 0, .slice none 0 0, .slice none 0 0, .slice none 0 0, .int .i64 0, .int .i64 z.p] 62))
  obtain ⟨P, hP⟩ : ∃ P, P = w1.heap.size := ⟨_, rfl⟩
  rw [← hP] at P2
  rw [← hP]
  have HPP : Hid (Q < P) := by have := lt_of_block Q1.out; unfold Hid; omega
  have R2 := hide (R1.out.below X2.out)
  have Q2 := hide ((X2.out.block Q (lt_of_block Q1.out)).trans Q1.out)
  have KB := hide (KA.out.trans (Kept.of_below X2.out))
  have nP : P ≠ rp := by have := HGL.out; have := HPP.out; omega
  clear hP HT K1 Q1 R1 KA X2 X0 R0 Q0 hf4
  generalize w1.alloc (.cells #[.int .i64 (kind : Nat), .string ⟨#[]⟩, .int .i64 0, .string ⟨#[]⟩, .string ⟨#[]⟩, .slice none 0 0, .slice none 0 0, .slice none 0 0, .slice none 0 0, .int .i64 0, .int .i64 z.p] 62) = w2 at *
  by_cases hk2 : (tok Ts (i + 1)).k = 2
  · obtain ⟨u, hu⟩ : ∃ u, u = tok Ts (i + 1) := ⟨_, rfl⟩
    have HX2 : Hid (x = (takeT Ts 7 [61] (i + 1 + 1)).bind fun _ m => (condP Ts f 0 m).bind fun c n => (takeT Ts 7 [59] n).bind fun _ o => .ok ⟨kind, u.t, c, z.p⟩ o) := by unfold Hid; rw [HX.out, takeP_ok hk2, ← hu]; rfl
    have HT := hide (takeR_ok R2.out hk2 (by decide))
    unfold tkV at HT
    rw [← hu] at HT
    have hf1 := fld1
    clear hk2 hu HX
    go_wp2_with (fail)
    refine HT.out.mono ?_
    rintro e w3 ⟨rfl, r3, k3⟩
    have R3 := hide r3
    have Q3 := hide ((k3.block Q (lt_of_block Q2.out) nQ).trans Q2.out)
    have P3 := hide ((k3.block P (lt_of_block P2.out) nP).trans P2.out)
    have KC := hide (KB.out.trans k3)
    clear r3 k3 R2 Q2 P2 KB HT
    have h6 : ∃ y, w3.cell? ⟨P, 1, none⟩ = some y := ⟨_, by rw [cell_of_row _ _ _ _ _ _ P3.out]; rfl⟩
    obtain ⟨y6, h6⟩ := h6
    have f6 := frozen_of_row w3 P 1 _ _ P3.out
    go_upto_region 3 with fail
    clear h6 f6 hf1
    have P4 : Hid ((w3.setCell ⟨P, 1, none⟩ (.string ⟨u.t.toArray⟩)).heap[P]? = some (.cells #[.int .i64 (kind : Nat), .string ⟨u.t.toArray⟩, .int .i64 0, .string ⟨#[]⟩, .string ⟨#[]⟩, .slice none 0 0, .slice none 0 0, .slice none 0 0, .slice none 0 0, .int .i64 0, .int .i64 z.p] 62 (0, 0))) := by
      have := block_setCell' P3.out 1 (.string ⟨u.t.toArray⟩)
      simpa [Hid] using this
    have K4 : Hid (Kept (fun k => k = P) w3 (w3.setCell ⟨P, 1, none⟩ (.string ⟨u.t.toArray⟩))) := Kept.setCell (F := fun k => k = P) (p := ⟨P, 1, none⟩) (Kept.refl _ _) rfl _
    have hl2 : Q ≠ P ∧ rp ≠ P ∧ g ≠ P := by have := HGL.out; have := HPP.out; exact ⟨by omega, by omega, by omega⟩
    have Q4 := hide ((K4.out.block Q (lt_of_block Q3.out) hl2.1).trans Q3.out)
    have R4 := hide (R3.out.kept K4.out hl2.2.1 hl2.2.2)
    have KD : Hid (Kept (fun k => k = rp) w (w3.setCell ⟨P, 1, none⟩ (.string ⟨u.t.toArray⟩))) := KC.out.fin K4.out (by have := HPP.out; have := HQE.out; omega)
    clear R3 Q3 P3 KC K4
    generalize w3.setCell ⟨P, 1, none⟩ (.string ⟨u.t.toArray⟩) = w4 at *
    have kb := HKB.out
    by_cases hs : isT Ts 7 [61] (i + 1 + 1) = true
    · have HT := hide (takeS_ok R4.out hs)
      have HX3 : Hid (x = (condP Ts f 0 (i + 1 + 1 + 1)).bind fun c n => (takeT Ts 7 [59] n).bind fun _ o => .ok ⟨kind, u.t, c, z.p⟩ o) := by unfold Hid; rw [HX2.out, takeT_ok hs]; rfl
      have HLS : Hid (i + 1 + 1 + 1 ≤ Ts.length) := by have := isT_lt (by decide) hs; unfold Hid; omega
      clear hs HX2
      go_upto_region 6 with (go_at_call 75; refine HT.out.mono ?_; rintro e w5 ⟨rfl, r5, k5⟩; have R5 := hide r5; have K5 := hide k5; clear r5 k5)
      clear kb
      have Q5 := hide ((K5.out.block Q (lt_of_block Q4.out) nQ).trans Q4.out)
      have P5 := hide ((K5.out.block P (lt_of_block P4.out) nP).trans P4.out)
      have KE := hide (KD.out.trans K5.out)
      clear R4 Q4 P4 KD K5 HT
      have HI := hide (cond_any f 0 (i + 1 + 1 + 1) w5 (by decide) HLS.out (by have := HF.out; omega) R5.out)
      go_wp2_with (fail)
      refine HI.out.mono ?_
      intro e w6 hp
      cases hxa : condP Ts f 0 (i + 1 + 1 + 1) with
      | out => rw [hxa] at hp; exact absurd hp (fun h => h)
      | bad e0 p =>
        rw [hxa] at hp HX3
        obtain ⟨he, k3⟩ := hp
        unfold pan at he
        subst he
        exact ⟨rfl, PostI.badI HX3.out rfl (KE.out.trans k3)⟩
      | ok c j =>
        rw [hxa] at hp HX3
        obtain ⟨⟨vs, bs, rfl, hct, hnd⟩, r3, k3⟩ := hp
        obtain ⟨a3, c3, a4, c4, a5, c5, a6, c6, rfl⟩ := hct.eight
        have C6 := hide hct
        have HND := hide hnd
        have R6 := hide r3
        have Q6 := hide ((k3.block Q (lt_of_block Q5.out) nQ).trans Q5.out)
        have P6 := hide ((k3.block P (lt_of_block P5.out) nP).trans P5.out)
        have KF := hide (KE.out.trans k3)
        have HP5 : Hid (P < w5.heap.size) := lt_of_block P5.out
        have HX4 : Hid (x = (takeT Ts 7 [59] j).bind fun _ o => .ok ⟨kind, u.t, c, z.p⟩ o) := HX3.out
        clear hxa hct hnd r3 k3 HX3 HI R5 Q5 P5 KE
        obtain ⟨⟨_, p0⟩, f0, ⟨_, p1⟩, f1, ⟨_, p2⟩, f2, ⟨_, p3⟩, f3, ⟨_, p4⟩, f4, ⟨_, p5⟩, f5, ⟨_, p6⟩, f6, ⟨_, p7⟩, f7, hsb, hsk⟩ := st11c P6.out (.int .i64 c.k) (.string ⟨c.nm.toArray⟩) (.string ⟨c.tx.toArray⟩) (.slice a3 c.pre.length c3) (.slice a4 c.sp.length c4) (.slice a5 c.ns.length c5) (.slice a6 c.kids.length c6) (.int .i64 c.p)
        have P7 := hide hsb
        have K7 := hide hsk
        clear hsb hsk
        go_upto_region 7 with fail
        clear p0 f0 p1 f1 p2 f2 p3 f3 p4 f4 p5 f5 p6 f6 p7 f7
        generalize ((((((((w6.setCell ⟨P, 2, none⟩ (.int .i64 c.k)).setCell ⟨P, 3, none⟩ (.string ⟨c.nm.toArray⟩)).setCell ⟨P, 4, none⟩ (.string ⟨c.tx.toArray⟩)).setCell ⟨P, 5, none⟩ (.slice a3 c.pre.length c3)).setCell ⟨P, 6, none⟩ (.slice a4 c.sp.length c4)).setCell ⟨P, 7, none⟩ (.slice a5 c.ns.length c5)).setCell ⟨P, 8, none⟩ (.slice a6 c.kids.length c6)).setCell ⟨P, 9, none⟩ (.int .i64 c.p)) = w7 at *
        have Q7 := hide ((K7.out.block Q (lt_of_block Q6.out) hl2.1).trans Q6.out)
        have R7 := hide (R6.out.kept K7.out hl2.2.1 hl2.2.2)
        have C7 := hide (C6.out.frame K7.out (fun k hk => by rw [hk]; exact HP5.out) (Nat.le_refl _))
        have KG : Hid (Kept (fun k => k = rp) w w7) := KF.out.fin K7.out (by have := HPP.out; have := HQE.out; omega)
        clear K7 C6 R6 Q6 P6 KF
        by_cases hs : isT Ts 7 [59] j = true
        · have HT := hide (takeS_ok R7.out hs)
          have HX5 : Hid (x = .ok ⟨kind, u.t, c, z.p⟩ (j + 1)) := by unfold Hid; rw [HX4.out, takeT_ok hs]; rfl
          clear hs HX4
          go_upto_region 8 with (go_at_call 75; refine HT.out.mono ?_; rintro e w8 ⟨rfl, r5, k5⟩; have R8 := hide r5; have K8 := hide k5; clear r5 k5)
          have Q8 := hide ((K8.out.block Q (lt_of_block Q7.out) nQ).trans Q7.out)
          have P8 := hide ((K8.out.block P (lt_of_block P7.out) nP).trans P7.out)
          have KH := hide (KG.out.trans K8.out)
          have C8 := hide (C7.out.frame K8.out (fun k hk => by have := HGL.out; have := HPP.out; have := HP5.out; rw [hk]; omega) (Nat.le_refl _))
          clear HT R7 Q7 P7 KG K8 C7
          obtain ⟨q0, q1, q2, q3, q4, q5, q6, q7, q8, q9, q10⟩ := ld11 P8.out
          obtain ⟨⟨_, p0⟩, f0, ⟨_, p1⟩, f1, ⟨_, p2⟩, f2, ⟨_, p3⟩, f3, ⟨_, p4⟩, f4, ⟨_, p5⟩, f5, ⟨_, p6⟩, f6, ⟨_, p7⟩, f7, ⟨_, p8⟩, f8, ⟨_, p9⟩, f9, ⟨_, p10⟩, f10, hsb, hsk⟩ := st11 Q8.out (.int .i64 (kind : Nat)) (.string ⟨u.t.toArray⟩) (.int .i64 c.k) (.string ⟨c.nm.toArray⟩) (.string ⟨c.tx.toArray⟩) (.slice a3 c.pre.length c3) (.slice a4 c.sp.length c4) (.slice a5 c.ns.length c5) (.slice a6 c.kids.length c6) (.int .i64 c.p) (.int .i64 z.p)
          have HSB := hide hsb
          have KQ := hide hsk
          clear hsb hsk
          go_wp2
          clear q0 q1 q2 q3 q4 q5 q6 q7 q8 q9 q10
          clear p0 f0 p1 f1 p2 f2 p3 f3 p4 f4 p5 f5 p6 f6 p7 f7 p8 f8 p9 f9 p10 f10
          generalize (((((((((((w8.setCell ⟨Q, 0, none⟩ (.int .i64 (kind : Nat))).setCell ⟨Q, 1, none⟩ (.string ⟨u.t.toArray⟩)).setCell ⟨Q, 2, none⟩ (.int .i64 c.k)).setCell ⟨Q, 3, none⟩ (.string ⟨c.nm.toArray⟩)).setCell ⟨Q, 4, none⟩ (.string ⟨c.tx.toArray⟩)).setCell ⟨Q, 5, none⟩ (.slice a3 c.pre.length c3)).setCell ⟨Q, 6, none⟩ (.slice a4 c.sp.length c4)).setCell ⟨Q, 7, none⟩ (.slice a5 c.ns.length c5)).setCell ⟨Q, 8, none⟩ (.slice a6 c.kids.length c6)).setCell ⟨Q, 9, none⟩ (.int .i64 c.p)).setCell ⟨Q, 10, none⟩ (.int .i64 z.p)) = w9 at *
          obtain ⟨q0, q1, q2, q3, q4, q5, q6, q7, q8, q9, q10⟩ := ld11 HSB.out
          refine bodyPost_ret (by simp [results, Tryz.results53, go_sem, q0, q1, q2, q3, q4, q5, q6, q7, q8, q9, q10]; try rfl) rfl ?_
          refine PostI.okI HX5.out rfl (C8.out.frame KQ.out (fun k hk => ?_) ?_) HND.out (R8.out.kept KQ.out ?_ ?_) (KH.out.fin KQ.out ?_)
          · have := HPP.out
            have := HP5.out
            rw [hk]
            omega
          · have := HPP.out
            have := HP5.out
            have := HQE.out
            omega
          · have := HGL.out
            show ¬ rp = Q
            omega
          · have := HGL.out
            show ¬ g = Q
            omega
          · have := HQE.out
            omega
        · have HT := hide (takeS_bad R7.out hs)
          have HX5 : Hid (x = .bad 90 (tok Ts j).p) := by unfold Hid; rw [HX4.out, takeT_bad hs]; rfl
          generalize (tok Ts j).p = zp at *
          clear hs HX4
          go_wp2_with (go_at_call 75; refine HT.out.mono ?_; rintro e w8 ⟨he, x6⟩; unfold pan at he; subst he; have X6 := hide x6; clear x6)
          exact ⟨rfl, PostI.badI HX5.out rfl (KG.out.trans (Kept.of_below X6.out))⟩
    · have HT := hide (takeS_bad R4.out hs)
      have HX3 : Hid (x = .bad 90 (tok Ts (i + 1 + 1)).p) := by unfold Hid; rw [HX2.out, takeT_bad hs]; rfl
      generalize (tok Ts (i + 1 + 1)).p = zp at *
      clear hs HX2
      go_wp2_with (go_at_call 75; refine HT.out.mono ?_; rintro e w8 ⟨he, x6⟩; unfold pan at he; subst he; have X6 := hide x6; clear x6)
      exact ⟨rfl, PostI.badI HX3.out rfl (KD.out.trans (Kept.of_below X6.out))⟩
  · have HT := hide (takeR_bad R2.out hk2)
    have HX2 : Hid (x = .bad 90 (tok Ts (i + 1)).p) := by unfold Hid; rw [HX.out, takeP_bad hk2]; rfl
    generalize (tok Ts (i + 1)).p = zp at *
    clear hk2 HX
    go_wp2_with (go_at_call 74; refine HT.out.mono ?_; rintro e w8 ⟨he, x6⟩; unfold pan at he; subst he; have X6 := hide x6; clear x6)
    exact ⟨rfl, PostI.badI HX2.out rfl (KB.out.trans (Kept.of_below X6.out))⟩
set_option maxRecDepth 100000 in
set_option maxHeartbeats 8000000 in
theorem item_when {rbase rp g cap : Nat} {Ts : List Tk} {f i kind : Nat} {w : World} (hk : kind ≠ 1) (h1 : (tok Ts i).k = 1) (hf : 4 * Ts.length + 5 ≤ f) (hR : RdA w rbase rp g cap Ts i) :
    Calls Tryz.prog 53 #[.pointer (some ⟨rp, 0, none⟩), .int .i64 (kind : Nat)] w (PostI rbase rp g cap Ts w (itemP Ts f kind i)) := by
  obtain ⟨x, hx⟩ : ∃ x, x = itemP Ts f kind i := ⟨_, rfl⟩
  rw [← hx]
  have kb : ((kind : Int) == 1) = false := by simp; omega
  obtain ⟨z, hz⟩ : ∃ z, z = tok Ts i := ⟨_, rfl⟩
  have HX : Hid (x = (takeP Ts 2 (i + 1)).bind fun u l => (takeT Ts 1 wWhen l).bind fun _ m => (condP Ts f 0 m).bind fun c n => (takeT Ts 7 [59] n).bind fun _ o => .ok ⟨kind, u.t, c, z.p⟩ o) := by
    unfold Hid
    rw [hx]
    unfold itemP
    rw [takeP_ok h1, ← hz]
    simp only [PR.bind, if_neg hk]
  have HF := hide hf
  have HZ := hide hz
  have HK1 := hide h1
  obtain ⟨Q, hQ⟩ : ∃ Q, Q = w.heap.size := ⟨_, rfl⟩
  obtain ⟨W, hW⟩ : ∃ W, W = w.alloc (.cells #[.int .i64 0, .string ⟨#[]⟩, .int .i64 0, .string ⟨#[]⟩, .string ⟨#[]⟩, .slice none 0 0, .slice none 0 0, .slice none 0 0, .slice none 0 0, .int .i64 0, .int .i64 0] 62) := ⟨_, rfl⟩
  have X0 := hide (show Below w.heap.size w W by rw [hW]; exact al (Below.refl _ _) _)
  have Q0 := hide (show W.heap[Q]? = some (.cells #[.int .i64 0, .string ⟨#[]⟩, .int .i64 0, .string ⟨#[]⟩, .string ⟨#[]⟩, .slice none 0 0, .slice none 0 0, .slice none 0 0, .slice none 0 0, .int .i64 0, .int .i64 0] 62 (0, 0)) by rw [hW, hQ]; exact heap_alloc_new w _)
  have R0 := hide (hR.below X0.out)
  have HQE := hide hQ
  have HGL : Hid (rp < Q ∧ g < Q) := by have := hR.gl; unfold Hid; omega
  have HT := hide (takeR_ok R0.out HK1.out (by decide))
  unfold tkV at HT
  rw [← hz] at HT
  have hf4 := fld4
  have HKB := hide kb
  clear hx hf hR hz h1 hk kb
  go_enter Tryz.func53, Tryz.ntmps53
  go_upto_region 1 with fail
  rw [← hQ, ← hW]
  clear hQ hW
  have nQ : Q ≠ rp := by have := HGL.out; omega
  go_upto_region 2 with (go_at_call 74; refine HT.out.mono ?_; rintro e w1 ⟨rfl, r1, k1⟩; have R1 := hide r1; have K1 := hide k1; clear r1 k1)
  have Q1 := hide ((K1.out.block Q (lt_of_block Q0.out) nQ).trans Q0.out)
  have KA := hide ((Kept.of_below (F := fun k => k = rp) X0.out).trans K1.out)
  have X2 : Hid (Below w1.heap.size w1 (w1.alloc (.cells #[.int .i64 (kind : Nat), .string ⟨#[]⟩, .int .i64 0, .string ⟨#[]⟩, .string ⟨#[]⟩, .slice none 0 0, .slice none 0 0, .slice none 0 0, .slice none 0 0, .int .i64 0, .int .i64 z.p] 62))) := al (Below.refl _ _) _
  have P2 := hide (heap_alloc_new w1 (.cells #[.int .i64 (kind : Nat), .string ⟨#[]⟩, .int .i64 0, .string ⟨#[]⟩, .string ⟨#[]⟩, .slice none 0 0, .slice none 0 0, .slice none 0 0, .slice none 0 0, .int .i64 0, .int .i64 z.p] 62))
  obtain ⟨P, hP⟩ : ∃ P, P = w1.heap.size := ⟨_, rfl⟩
  rw [← hP] at P2
  rw [← hP]
  have HPP : Hid (Q < P) := by have := lt_of_block Q1.out; unfold Hid; omega
  have R2 := hide (R1.out.below X2.out)
  have Q2 := hide ((X2.out.block Q (lt_of_block Q1.out)).trans Q1.out)
  have KB := hide (KA.out.trans (Kept.of_below X2.out))
  have nP : P ≠ rp := by have := HGL.out; have := HPP.out; omega
  clear hP HT K1 Q1 R1 KA X2 X0 R0 Q0 hf4
  generalize w1.alloc (.cells #[.int .i64 (kind : Nat), .string ⟨#[]⟩, .int .i64 0, .string ⟨#[]⟩, .string ⟨#[]⟩, .slice none 0 0, .slice none 0 0, .slice none 0 0, .slice none 0 0, .int .i64 0, .int .i64 z.p] 62) = w2 at *
  by_cases hk2 : (tok Ts (i + 1)).k = 2
  · obtain ⟨u, hu⟩ : ∃ u, u = tok Ts (i + 1) := ⟨_, rfl⟩
    have HX2 : Hid (x = (takeT Ts 1 wWhen (i + 1 + 1)).bind fun _ m => (condP Ts f 0 m).bind fun c n => (takeT Ts 7 [59] n).bind fun _ o => .ok ⟨kind, u.t, c, z.p⟩ o) := by unfold Hid; rw [HX.out, takeP_ok hk2, ← hu]; rfl
    have HT := hide (takeR_ok R2.out hk2 (by decide))
    unfold tkV at HT
    rw [← hu] at HT
    have hf1 := fld1
    clear hk2 hu HX
    go_wp2_with (fail)
    refine HT.out.mono ?_
    rintro e w3 ⟨rfl, r3, k3⟩
    have R3 := hide r3
    have Q3 := hide ((k3.block Q (lt_of_block Q2.out) nQ).trans Q2.out)
    have P3 := hide ((k3.block P (lt_of_block P2.out) nP).trans P2.out)
    have KC := hide (KB.out.trans k3)
    clear r3 k3 R2 Q2 P2 KB HT
    have h6 : ∃ y, w3.cell? ⟨P, 1, none⟩ = some y := ⟨_, by rw [cell_of_row _ _ _ _ _ _ P3.out]; rfl⟩
    obtain ⟨y6, h6⟩ := h6
    have f6 := frozen_of_row w3 P 1 _ _ P3.out
    go_upto_region 3 with fail
    clear h6 f6 hf1
    have P4 : Hid ((w3.setCell ⟨P, 1, none⟩ (.string ⟨u.t.toArray⟩)).heap[P]? = some (.cells #[.int .i64 (kind : Nat), .string ⟨u.t.toArray⟩, .int .i64 0, .string ⟨#[]⟩, .string ⟨#[]⟩, .slice none 0 0, .slice none 0 0, .slice none 0 0, .slice none 0 0, .int .i64 0, .int .i64 z.p] 62 (0, 0))) := by
      have := block_setCell' P3.out 1 (.string ⟨u.t.toArray⟩)
      simpa [Hid] using this
    have K4 : Hid (Kept (fun k => k = P) w3 (w3.setCell ⟨P, 1, none⟩ (.string ⟨u.t.toArray⟩))) := Kept.setCell (F := fun k => k = P) (p := ⟨P, 1, none⟩) (Kept.refl _ _) rfl _
    have hl2 : Q ≠ P ∧ rp ≠ P ∧ g ≠ P := by have := HGL.out; have := HPP.out; exact ⟨by omega, by omega, by omega⟩
    have Q4 := hide ((K4.out.block Q (lt_of_block Q3.out) hl2.1).trans Q3.out)
    have R4 := hide (R3.out.kept K4.out hl2.2.1 hl2.2.2)
    have KD : Hid (Kept (fun k => k = rp) w (w3.setCell ⟨P, 1, none⟩ (.string ⟨u.t.toArray⟩))) := KC.out.fin K4.out (by have := HPP.out; have := HQE.out; omega)
    clear R3 Q3 P3 KC K4
    generalize w3.setCell ⟨P, 1, none⟩ (.string ⟨u.t.toArray⟩) = w4 at *
    have kb := HKB.out
    by_cases hs : isT Ts 1 wWhen (i + 1 + 1) = true
    · have HT := hide (takeW_ok R4.out hs)
      have hwn : (⟨wWhen.toArray⟩ : ByteArray) = ⟨#[119, 104, 101, 110]⟩ := rfl
      rw [hwn] at HT
      clear hwn
      have HX3 : Hid (x = (condP Ts f 0 (i + 1 + 1 + 1)).bind fun c n => (takeT Ts 7 [59] n).bind fun _ o => .ok ⟨kind, u.t, c, z.p⟩ o) := by unfold Hid; rw [HX2.out, takeT_ok hs]; rfl
      have HLS : Hid (i + 1 + 1 + 1 ≤ Ts.length) := by have := isT_lt (by decide) hs; unfold Hid; omega
      clear hs HX2
      go_upto_region 6 with (go_at_call 76; refine HT.out.mono ?_; rintro e w5 ⟨rfl, r5, k5⟩; have R5 := hide r5; have K5 := hide k5; clear r5 k5)
      clear kb
      have Q5 := hide ((K5.out.block Q (lt_of_block Q4.out) nQ).trans Q4.out)
      have P5 := hide ((K5.out.block P (lt_of_block P4.out) nP).trans P4.out)
      have KE := hide (KD.out.trans K5.out)
      clear R4 Q4 P4 KD K5 HT
      have HI := hide (cond_any f 0 (i + 1 + 1 + 1) w5 (by decide) HLS.out (by have := HF.out; omega) R5.out)
      go_wp2_with (fail)
      refine HI.out.mono ?_
      intro e w6 hp
      cases hxa : condP Ts f 0 (i + 1 + 1 + 1) with
      | out => rw [hxa] at hp; exact absurd hp (fun h => h)
      | bad e0 p =>
        rw [hxa] at hp HX3
        obtain ⟨he, k3⟩ := hp
        unfold pan at he
        subst he
        exact ⟨rfl, PostI.badI HX3.out rfl (KE.out.trans k3)⟩
      | ok c j =>
        rw [hxa] at hp HX3
        obtain ⟨⟨vs, bs, rfl, hct, hnd⟩, r3, k3⟩ := hp
        obtain ⟨a3, c3, a4, c4, a5, c5, a6, c6, rfl⟩ := hct.eight
        have C6 := hide hct
        have HND := hide hnd
        have R6 := hide r3
        have Q6 := hide ((k3.block Q (lt_of_block Q5.out) nQ).trans Q5.out)
        have P6 := hide ((k3.block P (lt_of_block P5.out) nP).trans P5.out)
        have KF := hide (KE.out.trans k3)
        have HP5 : Hid (P < w5.heap.size) := lt_of_block P5.out
        have HX4 : Hid (x = (takeT Ts 7 [59] j).bind fun _ o => .ok ⟨kind, u.t, c, z.p⟩ o) := HX3.out
        clear hxa hct hnd r3 k3 HX3 HI R5 Q5 P5 KE
        obtain ⟨⟨_, p0⟩, f0, ⟨_, p1⟩, f1, ⟨_, p2⟩, f2, ⟨_, p3⟩, f3, ⟨_, p4⟩, f4, ⟨_, p5⟩, f5, ⟨_, p6⟩, f6, ⟨_, p7⟩, f7, hsb, hsk⟩ := st11c P6.out (.int .i64 c.k) (.string ⟨c.nm.toArray⟩) (.string ⟨c.tx.toArray⟩) (.slice a3 c.pre.length c3) (.slice a4 c.sp.length c4) (.slice a5 c.ns.length c5) (.slice a6 c.kids.length c6) (.int .i64 c.p)
        have P7 := hide hsb
        have K7 := hide hsk
        clear hsb hsk
        go_upto_region 7 with fail
        clear p0 f0 p1 f1 p2 f2 p3 f3 p4 f4 p5 f5 p6 f6 p7 f7
        generalize ((((((((w6.setCell ⟨P, 2, none⟩ (.int .i64 c.k)).setCell ⟨P, 3, none⟩ (.string ⟨c.nm.toArray⟩)).setCell ⟨P, 4, none⟩ (.string ⟨c.tx.toArray⟩)).setCell ⟨P, 5, none⟩ (.slice a3 c.pre.length c3)).setCell ⟨P, 6, none⟩ (.slice a4 c.sp.length c4)).setCell ⟨P, 7, none⟩ (.slice a5 c.ns.length c5)).setCell ⟨P, 8, none⟩ (.slice a6 c.kids.length c6)).setCell ⟨P, 9, none⟩ (.int .i64 c.p)) = w7 at *
        have Q7 := hide ((K7.out.block Q (lt_of_block Q6.out) hl2.1).trans Q6.out)
        have R7 := hide (R6.out.kept K7.out hl2.2.1 hl2.2.2)
        have C7 := hide (C6.out.frame K7.out (fun k hk => by rw [hk]; exact HP5.out) (Nat.le_refl _))
        have KG : Hid (Kept (fun k => k = rp) w w7) := KF.out.fin K7.out (by have := HPP.out; have := HQE.out; omega)
        clear K7 C6 R6 Q6 P6 KF
        by_cases hs : isT Ts 7 [59] j = true
        · have HT := hide (takeS_ok R7.out hs)
          have HX5 : Hid (x = .ok ⟨kind, u.t, c, z.p⟩ (j + 1)) := by unfold Hid; rw [HX4.out, takeT_ok hs]; rfl
          clear hs HX4
          go_upto_region 8 with (go_at_call 75; refine HT.out.mono ?_; rintro e w8 ⟨rfl, r5, k5⟩; have R8 := hide r5; have K8 := hide k5; clear r5 k5)
          have Q8 := hide ((K8.out.block Q (lt_of_block Q7.out) nQ).trans Q7.out)
          have P8 := hide ((K8.out.block P (lt_of_block P7.out) nP).trans P7.out)
          have KH := hide (KG.out.trans K8.out)
          have C8 := hide (C7.out.frame K8.out (fun k hk => by have := HGL.out; have := HPP.out; have := HP5.out; rw [hk]; omega) (Nat.le_refl _))
          clear HT R7 Q7 P7 KG K8 C7
          obtain ⟨q0, q1, q2, q3, q4, q5, q6, q7, q8, q9, q10⟩ := ld11 P8.out
          obtain ⟨⟨_, p0⟩, f0, ⟨_, p1⟩, f1, ⟨_, p2⟩, f2, ⟨_, p3⟩, f3, ⟨_, p4⟩, f4, ⟨_, p5⟩, f5, ⟨_, p6⟩, f6, ⟨_, p7⟩, f7, ⟨_, p8⟩, f8, ⟨_, p9⟩, f9, ⟨_, p10⟩, f10, hsb, hsk⟩ := st11 Q8.out (.int .i64 (kind : Nat)) (.string ⟨u.t.toArray⟩) (.int .i64 c.k) (.string ⟨c.nm.toArray⟩) (.string ⟨c.tx.toArray⟩) (.slice a3 c.pre.length c3) (.slice a4 c.sp.length c4) (.slice a5 c.ns.length c5) (.slice a6 c.kids.length c6) (.int .i64 c.p) (.int .i64 z.p)
          have HSB := hide hsb
          have KQ := hide hsk
          clear hsb hsk
          go_wp2
          clear q0 q1 q2 q3 q4 q5 q6 q7 q8 q9 q10
          clear p0 f0 p1 f1 p2 f2 p3 f3 p4 f4 p5 f5 p6 f6 p7 f7 p8 f8 p9 f9 p10 f10
          generalize (((((((((((w8.setCell ⟨Q, 0, none⟩ (.int .i64 (kind : Nat))).setCell ⟨Q, 1, none⟩ (.string ⟨u.t.toArray⟩)).setCell ⟨Q, 2, none⟩ (.int .i64 c.k)).setCell ⟨Q, 3, none⟩ (.string ⟨c.nm.toArray⟩)).setCell ⟨Q, 4, none⟩ (.string ⟨c.tx.toArray⟩)).setCell ⟨Q, 5, none⟩ (.slice a3 c.pre.length c3)).setCell ⟨Q, 6, none⟩ (.slice a4 c.sp.length c4)).setCell ⟨Q, 7, none⟩ (.slice a5 c.ns.length c5)).setCell ⟨Q, 8, none⟩ (.slice a6 c.kids.length c6)).setCell ⟨Q, 9, none⟩ (.int .i64 c.p)).setCell ⟨Q, 10, none⟩ (.int .i64 z.p)) = w9 at *
          obtain ⟨q0, q1, q2, q3, q4, q5, q6, q7, q8, q9, q10⟩ := ld11 HSB.out
          refine bodyPost_ret (by simp [results, Tryz.results53, go_sem, q0, q1, q2, q3, q4, q5, q6, q7, q8, q9, q10]; try rfl) rfl ?_
          refine PostI.okI HX5.out rfl (C8.out.frame KQ.out (fun k hk => ?_) ?_) HND.out (R8.out.kept KQ.out ?_ ?_) (KH.out.fin KQ.out ?_)
          · have := HPP.out
            have := HP5.out
            rw [hk]
            omega
          · have := HPP.out
            have := HP5.out
            have := HQE.out
            omega
          · have := HGL.out
            show ¬ rp = Q
            omega
          · have := HGL.out
            show ¬ g = Q
            omega
          · have := HQE.out
            omega
        · have HT := hide (takeS_bad R7.out hs)
          have HX5 : Hid (x = .bad 90 (tok Ts j).p) := by unfold Hid; rw [HX4.out, takeT_bad hs]; rfl
          generalize (tok Ts j).p = zp at *
          clear hs HX4
          go_wp2_with (go_at_call 75; refine HT.out.mono ?_; rintro e w8 ⟨he, x6⟩; unfold pan at he; subst he; have X6 := hide x6; clear x6)
          exact ⟨rfl, PostI.badI HX5.out rfl (KG.out.trans (Kept.of_below X6.out))⟩
    · have HT := hide (takeW_bad R4.out hs)
      have hwn : (⟨wWhen.toArray⟩ : ByteArray) = ⟨#[119, 104, 101, 110]⟩ := rfl
      rw [hwn] at HT
      clear hwn
      have HX3 : Hid (x = .bad 90 (tok Ts (i + 1 + 1)).p) := by unfold Hid; rw [HX2.out, takeT_bad hs]; rfl
      generalize (tok Ts (i + 1 + 1)).p = zp at *
      clear hs HX2
      go_wp2_with (go_at_call 76; refine HT.out.mono ?_; rintro e w8 ⟨he, x6⟩; unfold pan at he; subst he; have X6 := hide x6; clear x6)
      exact ⟨rfl, PostI.badI HX3.out rfl (KD.out.trans (Kept.of_below X6.out))⟩
  · have HT := hide (takeR_bad R2.out hk2)
    have HX2 : Hid (x = .bad 90 (tok Ts (i + 1)).p) := by unfold Hid; rw [HX.out, takeP_bad hk2]; rfl
    generalize (tok Ts (i + 1)).p = zp at *
    clear hk2 HX
    go_wp2_with (go_at_call 74; refine HT.out.mono ?_; rintro e w8 ⟨he, x6⟩; unfold pan at he; subst he; have X6 := hide x6; clear x6)
    exact ⟨rfl, PostI.badI HX2.out rfl (KB.out.trans (Kept.of_below X6.out))⟩
theorem item_any {rbase rp g cap : Nat} {Ts : List Tk} {f i kind : Nat} {w : World} (h1 : (tok Ts i).k = 1) (hf : 4 * Ts.length + 5 ≤ f) (hR : RdA w rbase rp g cap Ts i) : Calls Tryz.prog 53 #[.pointer (some ⟨rp, 0, none⟩), .int .i64 (kind : Nat)] w (PostI rbase rp g cap Ts w (itemP Ts f kind i)) := by
  by_cases hk : kind = 1
  · exact item_let hk h1 hf hR
  · exact item_when hk h1 hf hR
end Go.Proofs.YtlmhofjiobmodaaGreatDoor
