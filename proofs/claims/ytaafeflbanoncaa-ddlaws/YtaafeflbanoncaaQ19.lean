/-
  Rows of numbers and of bools that were made whole: made, written into. Of the program its types alone: no condition.
-/
import Derived.Test.YtaafeflbanoncaaQ12
import Derived.Deep.OwnRows
namespace Go.Proofs.Ytaafeflbanoncaa
open Go.RowKit Go.Lib Go.Maps

/-- A block that is just these numbers. -/
def RwZ (w : World) (b : Nat) (L : List Int) : Prop := w.heap[b]? = some (.cells (zC L).toArray 3 (0, 0))
theorem RwZ.lt {w : World} {b : Nat} {L : List Int} (h : RwZ w b L) : b < w.heap.size := lt_of_block h
theorem RwZ.zbk {w : World} {b : Nat} {L : List Int} (h : RwZ w b L) : ZBk w b L := ⟨_, h, fun i hi => by rw [List.getElem?_toArray, zC_get L hi]⟩
theorem RwZ.kept {F : Nat → Prop} {w w' : World} {b : Nat} {L : List Int} (h : RwZ w b L) (hk : Kept F w w') (hF : ¬ F b) : RwZ w' b L := (hk.block b h.lt hF).trans h
theorem RwZ.below {w w' : World} {b : Nat} {L : List Int} (h : RwZ w b L) (hk : Below w.heap.size w w') : RwZ w' b L := (hk.block b h.lt).trans h
theorem RwZ.set {w : World} {b : Nat} {L : List Int} (h : RwZ w b L) (k : Nat) (x : Int) : RwZ (w.setCell ⟨b, k, none⟩ (.int .i64 x)) b (L.set k x) := by
  unfold RwZ
  rw [block_setCell h k]
  congr 2
  apply Array.ext'
  simp [zC, List.map_set]
theorem RwZ.cell {w : World} {b : Nat} {L : List Int} (h : RwZ w b L) {k : Nat} (hk : k < L.length) : w.cell? ⟨b, k, none⟩ = some (.int .i64 (L.getD k 0)) := h.zbk.cell hk
theorem RwZ.fro {w : World} {b : Nat} {L : List Int} (h : RwZ w b L) (k : Nat) : w.frozen? ⟨b, k, none⟩ = false := frozen_of_row w b k _ _ h
theorem made_cells (z : Value) (n : Nat) : madeCells #[z] n = (List.replicate n z).toArray := by
  unfold madeCells
  apply Array.ext
  · simp
  · intro i h1 h2
    simp [Nat.mod_one]
theorem make_ints (n : Nat) (L : Int) (hL : L = (n : Int)) (hn : n ≤ 16777217) (V : World) : (Instr.makeSlice 22 (.int .i64 L) (.int .i64 L)).run Try.prog V = .ok (.slice (some ⟨V.heap.size, 0, none⟩) n n) (V.alloc (.cells (zC (List.replicate n 0)).toArray 3)) := by
  subst hL
  have := run_make_row' (P := Try.prog) 22 3 (.int .i64 0) 8 Try.underlying22 Try.info3 rfl .i64 .i64 n (by omega) (by omega) V
  rw [made_cells] at this
  rw [this]
  simp [zC]
theorem RwZ.made (V : World) (L : List Int) : RwZ (V.alloc (.cells (zC L).toArray 3)) V.heap.size L := heap_alloc_new V _
/-- A row of bools. -/
def bC (L : List Bool) : List Value := L.map Value.bool
theorem bC_length (L : List Bool) : (bC L).length = L.length := by simp [bC]
theorem bC_get (L : List Bool) {i : Nat} (h : i < L.length) : (bC L)[i]? = some (.bool (L.getD i false)) := by simp [bC, h, List.getD_eq_getElem?_getD]
theorem bC_snoc (L : List Bool) (x : Bool) : bC (L ++ [x]) = bC L ++ [.bool x] := by simp [bC]
theorem Try.info4 : (Try.prog.info? 4).map (fun i => (i.zero, i.size, i.bytes)) = some (some (.bool false), 1, 1) := by kernel_rfl
theorem make_bools (n : Nat) (L : Int) (hL : L = (n : Int)) (hn : n ≤ 16777217) (V : World) : (Instr.makeSlice 36 (.int .i64 L) (.int .i64 L)).run Try.prog V = .ok (.slice (some ⟨V.heap.size, 0, none⟩) n n) (V.alloc (.cells (bC (List.replicate n false)).toArray 4)) := by
  subst hL
  have := run_make_row' (P := Try.prog) 36 4 (.bool false) 1 Try.underlying36 Try.info4 rfl .i64 .i64 n (by omega) (by omega) V
  rw [made_cells] at this
  rw [this]
  simp [bC]
end Go.Proofs.Ytaafeflbanoncaa
