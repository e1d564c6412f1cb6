/-
  Pieces as they lie in memory, marks of places, many and closed by their contracts. Condition: there are at most 64 pieces.
-/
import Derived.Test.YtaiijdnfimclbaaPar
import Derived.Deep.WholeRow
namespace Go.Proofs.Ytaiijdnfimclbaa
open Go.RowKit Go.Lib

/-- Pieces that begin at ao. -/
def PcAt (w : World) (ao : Option Addr) (D : List PD) : Prop := D = [] ∨ ∃ b off, ao = some ⟨b, off, none⟩ ∧ b < w.heap.size ∧ ∀ i (h : i < D.length), w.cell? ⟨b, off + i * 4, none⟩ = some (.int .i64 D[i].p.kind) ∧ w.cell? ⟨b, off + i * 4 + 1, none⟩ = some (.int .i64 D[i].p.b) ∧ w.cell? ⟨b, off + i * 4 + 2, none⟩ = some (.bool D[i].p.no) ∧ w.cell? ⟨b, off + i * 4 + 3, none⟩ = some (.slice D[i].so D[i].p.set.length D[i].sc) ∧ SpAt w D[i].so D[i].p.set
theorem PcAt.below {w w' : World} {ao : Option Addr} {D : List PD} (h : PcAt w ao D) (hb : Below w.heap.size w w') : PcAt w' ao D := by
  rcases h with rfl | ⟨b, off, e, hlt, h⟩
  · exact .inl rfl
  · refine .inr ⟨b, off, e, Nat.lt_of_lt_of_le hlt hb.size, fun i hi => ?_⟩
    obtain ⟨a0, a1, a2, a3, a4⟩ := h i hi
    exact ⟨(hb.cell (p := ⟨b, _, none⟩) hlt).trans a0, (hb.cell (p := ⟨b, _, none⟩) hlt).trans a1, (hb.cell (p := ⟨b, _, none⟩) hlt).trans a2, (hb.cell (p := ⟨b, _, none⟩) hlt).trans a3, a4.below hb⟩
theorem pdCells_get (D : List PD) (i : Nat) (h : i < D.length) : (pdCells D)[i * 4]? = some (.int .i64 D[i].p.kind) ∧ (pdCells D)[i * 4 + 1]? = some (.int .i64 D[i].p.b) ∧ (pdCells D)[i * 4 + 2]? = some (.bool D[i].p.no) ∧ (pdCells D)[i * 4 + 3]? = some D[i].v := by
  induction D generalizing i with
  | nil => simp at h
  | cons d D ih =>
    have e : pdCells (d :: D) = .int .i64 d.p.kind :: .int .i64 d.p.b :: .bool d.p.no :: d.v :: pdCells D := by simp [pdCells, PD.cells]
    rw [e]
    cases i with
    | zero => simp
    | succ i =>
      have := ih i (by simpa using h)
      rw [show (i + 1) * 4 = i * 4 + 4 by omega]
      simpa using this
theorem OwnP.at {w : World} {base : Nat} {v : Value} {D : List PD} (h : OwnP w base v D) : ∃ ao cap, v = .slice ao D.length cap ∧ D.length ≤ cap ∧ PcAt w ao D := by
  rcases h.row.2 with ⟨rfl, hn⟩ | ⟨g, cap, cur, rfl, hb, hg, hnc, _⟩
  · exact ⟨none, 0, by rw [hn], by omega, .inl (List.eq_nil_of_length_eq_zero hn)⟩
  · refine ⟨_, cap, rfl, hnc, .inr ⟨g, 0, rfl, lt_of_block hg, fun i hi => ?_⟩⟩
    obtain ⟨g0, g1, g2, g3⟩ := pdCells_get D i hi
    rw [Nat.zero_add, World.ownsRow.cellAt h.row (i * 4) (by omega), World.ownsRow.cellAt h.row (i * 4 + 1) (by omega), World.ownsRow.cellAt h.row (i * 4 + 2) (by omega), World.ownsRow.cellAt h.row (i * 4 + 3) (by omega)]
    obtain ⟨ao', c', e', h', _⟩ := (h.sets _ (List.getElem_mem hi)).shape
    have e2 : D[i].so = ao' := by unfold PD.v at e'; injection e'
    exact ⟨g0, g1, g2, g3, by rw [e2]; exact h'⟩
/-- Marks. -/
def mk (f : Nat → Bool) : Array Value := ((List.range 65).map fun i => Value.bool (f i)).toArray
theorem mk_size (f : Nat → Bool) : (mk f).size = 65 := by simp [mk]
theorem mk_get (f : Nat → Bool) (i : Nat) (h : i < 65) : (mk f)[i]? = some (.bool (f i)) := by simp [mk, h]
def upd (f : Nat → Bool) (i : Nat) : Nat → Bool := fun j => if j = i then true else f j
theorem mk_set (f : Nat → Bool) (i : Nat) : (mk f).set! i (.bool true) = mk (upd f i) := by
  apply Array.ext_getElem?
  intro j
  unfold mk upd
  by_cases hj : j < 65
  · by_cases hi : i = j
    · subst hi; simp [hj]
    · have : ¬ j = i := fun h => hi h.symm
      simp [hj, hi, this]
  · simp [hj]
theorem mk_all (f : Nat → Bool) : (mk f).all (·.oneCell') = true := by simp [mk, Value.oneCell']
theorem Try.info78 : (Try.prog.info? 78).map (fun i => (i.zero, i.size)) = some (some (.agg (mk fun _ => false)), 65) := by kernel_rfl
theorem ld65 {w : World} {g : Nat} {a : Array Value} {T : TypeId} {fr : Nat × Nat} (h : w.heap[g]? = some (.cells a T fr)) (hs : a.size = 65) : (loadCellsFrom ⟨g, 0, none⟩ 0 65 #[]).run Try.prog w = .ok a w := by
  have := run_loadCells_list (P := Try.prog) w ⟨g, 0, none⟩ a.toList (fun j v hv => by
    have hadd : (⟨g, 0, none⟩ : Addr).add j = ⟨g, j, none⟩ := by unfold Addr.add; split <;> simp_all
    rw [hadd, cell_of_row _ _ j a T fr h]
    simpa using hv)
  simpa [loadCells, hs] using this
theorem st65 {w : World} {g : Nat} {a a' : Array Value} {T : TypeId} (h : w.heap[g]? = some (.cells a T (0, 0))) (hs : a.size = 65) (hs' : a'.size = 65) (h1 : a'.all (·.oneCell') = true) : (storeCells ⟨g, 0, none⟩ a'.toList 0).run Try.prog w = .ok () (w.setRow g a') := by
  have := run_storeCells_from (P := Try.prog) g T a'.toList 0 a w h (by simp; omega) (fun v hv => (Array.all_eq_true_iff_forall_mem.1 h1) v (by simpa using hv))
  simpa using this
/-- Does a piece take any number of bytes? -/
def manyK (k : Int) : Bool := decide (k = 4) || decide (k = 5)
set_option maxRecDepth 100000 in
theorem many_any (k b : Int) (no : Bool) (so : Option Addr) (n c : Nat) (w : World) : Calls Try.prog 46 #[.agg #[.int .i64 k, .int .i64 b, .bool no, .slice so n c]] w fun e w' => e = .returned (.bool (manyK k)) ∧ Below w.heap.size w w' := by
  by_cases h4 : k = 4
  · have HE : Hid (manyK k = true) := by simp [Hid, manyK, h4]
    go_enter Try.func46, Try.ntmps46
    go_wp2
    go_ret
    exact ⟨by rw [HE.out]; rfl, al (Below.refl _ _) _⟩
  · by_cases h5 : k = 5
    · have HE : Hid (manyK k = true) := by simp [Hid, manyK, h5]
      go_enter Try.func46, Try.ntmps46
      go_wp2
      go_ret
      exact ⟨by rw [HE.out]; rfl, al (Below.refl _ _) _⟩
    · go_enter Try.func46, Try.ntmps46
      go_wp2
      go_ret
      refine ⟨?_, al (Below.refl _ _) _⟩
      show Ending.returned (Value.bool (k == 4 || k == 5)) = _
      simp [manyK, h4, h5]
/-- Marks, closed up to the k-th piece. -/
def clF (L : List Pc) (f : Nat → Bool) : Nat → (Nat → Bool)
  | 0 => f
  | k + 1 => if clF L f k k && manyK ((L.getD k ⟨0, 0, false, []⟩).kind) then upd (clF L f k) (k + 1) else clF L f k
end Go.Proofs.Ytaiijdnfimclbaa
