/-
  Pieces that are lent: how they lie, and a store into a part of a row. No condition.
-/
import Derived.Test.YtaiijdnfimclbaaCp
import Derived.Test.YtaiijdnfimclbaaPta
import Derived.Test.YtaiijdnfimclbaaRpt
import Derived.Test.YtaiijdnfimclbaaRmt
namespace Go.Proofs.Ytaiijdnfimclbaa
open Go.RowKit Go.Lib

theorem run_storeVar_part {P : Program} (w : World) (g off : Nat) (t ty : TypeId) (old cells : Array Value) (hg : w.heap[g]? = some (.cells old t (0, 0))) (hi : (P.info? ty).map (·.size) = some cells.size)
    (hf : off + cells.size ≤ old.size) (h1 : cells.all (·.oneCell') = true) :
    (storeVar ty ⟨g, off, none⟩ (.agg cells)).run P w = .ok () (w.setRow g (old.toList.take off ++ cells.toList ++ old.toList.drop (off + cells.size)).toArray) := by
  have := run_storeCells_at P g off t cells.toList 0 old w hg (by simp; omega) (fun v hv => (Array.all_eq_true_iff_forall_mem.1 h1) v (by simpa using hv))
  cases hq : P.info? ty with
  | none => simp [hq] at hi
  | some i =>
    have hs : cells.size = i.size := by simp [hq] at hi; omega
    simp only [Nat.add_zero, Array.length_toList] at this
    obtain ⟨R, hR⟩ : ∃ R, R = (old.toList.take off ++ cells.toList ++ old.toList.drop (off + cells.size)).toArray := ⟨_, rfl⟩
    rw [← hR] at this ⊢
    clear hR
    simp [storeVar, sizeOf, typeInfo, hq, Value.cells, hs, this]
theorem wpList_store_part {P : Program} {ops : Array Oper} {rest : List Oper} {o : Oper} {a : Act} {w : World} {Q : Exit → Act → World → Prop} (hgd : o.guard = none) (ty : TypeId) (x y : Operand) (ho : o.op = .store ty x y)
    (g off : Nat) (cells : Array Value) (hx : a.eval x = .pointer (some ⟨g, off, none⟩)) (hy : a.eval y = .agg cells)
    (t : TypeId) (old : Array Value) (hg : w.heap[g]? = some (.cells old t (0, 0))) (hi : (P.info? ty).map (·.size) = some cells.size)
    (hf : off + cells.size ≤ old.size) (h1 : cells.all (·.oneCell') = true)
    (h : wpList P ops Q rest (a.put o.dst undef) (w.setRow g (old.toList.take off ++ cells.toList ++ old.toList.drop (off + cells.size)).toArray)) : wpList P ops Q (o :: rest) a w := by
  refine wpList_plain hgd fun K hK => ?_
  unfold Oper.wp execOp
  simp only [ho, hx, hy, Instr.storeAt, Instr.sureAddr, Sem.run_bind, Sem.run_pure, Result.andThen_ok, run_storeVar_part w g off t ty old cells hg hi hf h1]
  exact hK _ _ h
theorem kept_row {w : World} {g : Nat} {cs : Array Value} : Kept (fun k => k = g) w (w.setRow g cs) := ⟨rfl, rfl, rfl, by simp [World.setRow], fun k _ hk => setRow_other w g k cs hk⟩
theorem pdCells_cons (e : PD) (E : List PD) : pdCells (e :: E) = .int .i64 e.p.kind :: .int .i64 e.p.b :: .bool e.p.no :: e.v :: pdCells E := by simp [pdCells, PD.cells]
theorem pdCells_put : ∀ (E : List PD) (i : Nat) (_ : i < E.length) (d : PD) (T : List Value), (pdCells E ++ T).take (i * 4) ++ d.cells ++ (pdCells E ++ T).drop (i * 4 + 4) = pdCells (E.set i d) ++ T
  | [], i, h, _, _ => by simp at h
  | e :: E, 0, _, d, T => by
    rw [List.set_cons_zero, pdCells_cons, pdCells_cons]
    simp [PD.cells]
  | e :: E, i + 1, h, d, T => by
    have ih := pdCells_put E i (by simpa using h) d T
    rw [List.set_cons_succ, pdCells_cons, pdCells_cons, show (i + 1) * 4 = i * 4 + 4 by omega, show i * 4 + 4 + 4 = (i * 4 + 4) + 4 by omega]
    simp only [List.cons_append, List.take_succ_cons, List.drop_succ_cons]
    rw [ih]
theorem pdCells_setv : ∀ (E : List PD) (i : Nat) (h : i < E.length) (so : Option Addr) (sc : Nat) (T : List Value), (pdCells E ++ T).set (i * 4 + 3) (.slice so E[i].p.set.length sc) = pdCells (E.set i ⟨E[i].p, so, sc⟩) ++ T
  | [], i, h, _, _, _ => by simp at h
  | e :: E, 0, _, so, sc, T => by
    rw [List.set_cons_zero, pdCells_cons, pdCells_cons]
    simp [PD.v]
  | e :: E, i + 1, h, so, sc, T => by
    have ih := pdCells_setv E i (by simpa using h) so sc T
    rw [List.set_cons_succ, pdCells_cons, pdCells_cons, show (i + 1) * 4 + 3 = (i * 4 + 3) + 4 by omega]
    simp only [List.cons_append, List.set_cons_succ, List.getElem_cons_succ]
    rw [ih]
/-- What stands behind the pieces. -/
def tl (t : Int) : List Value := [.int .i64 t, .int .i64 0, .bool false, .slice none 0 0]
/-- A lent piece's set: in a block of its own, one more behind it. -/
def LnE (g : Nat) (W : World) (e : PD) : Prop := ∃ b, e.so = some ⟨b, 0, none⟩ ∧ g < b ∧ W.heap[b]? = some (.cells (spCells e.p.set ++ [Value.int .i64 (-77), Value.int .i64 0]).toArray 59 (0, 0)) ∧ e.sc = e.p.set.length + 1
theorem LnE.kept {g : Nat} {W W' : World} {e : PD} (h : LnE g W e) (k : Kept (fun i => i = g) W W') : LnE g W' e := by
  obtain ⟨b, h1, h2, h3, h4⟩ := h
  exact ⟨b, h1, h2, (k.block _ (lt_of_block h3) (by omega)).trans h3, h4⟩
theorem LnE.at {g : Nat} {W : World} {e : PD} (h : LnE g W e) : SpAt W e.so e.p.set := by
  obtain ⟨b, h1, h2, h3, h4⟩ := h
  rw [h1]
  by_cases h0 : e.p.set = []
  · exact .inl h0
  refine .inr ⟨b, 0, rfl, lt_of_block h3, fun i hi => ?_⟩
  obtain ⟨g1, g2⟩ := spCells_get e.p.set i hi
  have hn := spCells_length e.p.set
  refine ⟨?_, ?_⟩
  · rw [Nat.zero_add, cell_of_row _ _ _ _ _ _ h3]
    simp only [List.getElem?_toArray]
    rw [List.getElem?_append_left (by rw [hn]; omega)]
    exact g1
  · rw [Nat.zero_add, cell_of_row _ _ _ _ _ _ h3]
    simp only [List.getElem?_toArray]
    rw [List.getElem?_append_left (by rw [hn]; omega)]
    exact g2
theorem LnE.last {g : Nat} {W : World} {e : PD} (h : LnE g W e) : ∃ b, e.so = some ⟨b, 0, none⟩ ∧ W.cell? ⟨b, e.p.set.length * 2, none⟩ = some (.int .i64 (-77)) ∧ e.sc = e.p.set.length + 1 ∧ b < W.heap.size := by
  obtain ⟨b, h1, h2, h3, h4⟩ := h
  refine ⟨b, h1, ?_, h4, lt_of_block h3⟩
  rw [cell_of_row _ _ _ _ _ _ h3]
  simp only [List.getElem?_toArray]
  rw [List.getElem?_append_right (by rw [spCells_length]; exact Nat.le_refl _), spCells_length, Nat.sub_self]
  rfl
/-- Pieces, the first k of them lent. -/
structure LnS (w : World) (g : Nat) (D E : List PD) (k : Nat) (t : Int) (W : World) : Prop where
  len : E.length = D.length
  row : W.heap[g]? = some (.cells (pdCells E ++ tl t).toArray 44 (0, 0))
  done : ∀ i (h : i < E.length) (h' : i < D.length), i < k → E[i].p = D[i].p ∧ LnE g W E[i]
  bel : Below g w W
theorem LnS.next {w : World} {g : Nat} {D E : List PD} {k : Nat} {t : Int} {W W' : World} (h : LnS w g D E k t W) (hw : g ≤ w.heap.size) (x : Below W.heap.size W W') : LnS w g D E k t W' :=
  ⟨h.len, (x.block _ (lt_of_block h.row)).trans h.row, fun i a b c => ⟨(h.done i a b c).1, (h.done i a b c).2.kept (Kept.of_below x)⟩, bt h.bel x hw⟩
theorem LnS.cellv {w : World} {g : Nat} {D E : List PD} {k : Nat} {t : Int} {W : World} (h : LnS w g D E k t W) (i : Nat) (hi : i < E.length) : W.cell? ⟨g, i * 4 + 3, none⟩ = some E[i].v ∧ W.frozen? ⟨g, i * 4 + 3, none⟩ = false := by
  refine ⟨?_, frozen_of_row _ _ _ _ _ h.row⟩
  rw [cell_of_row _ _ _ _ _ _ h.row]
  simp only [List.getElem?_toArray]
  rw [List.getElem?_append_left (by rw [pdCells_length]; omega)]
  exact (pdCells_get E i hi).2.2.2
/-- One more. -/
theorem LnS.put {w : World} {g : Nat} {D E : List PD} {k : Nat} {t : Int} {W : World} (h : LnS w g D E k t W) (hk : k < D.length) {cs : Array Value} (hc : cs = (pdCells (E.set k D[k]) ++ tl t).toArray) : LnS w g D (E.set k D[k]) k t (W.setRow g cs) := by
  have hk2 : Kept (fun i => i = g) W (W.setRow g cs) := kept_row
  refine ⟨by rw [List.length_set]; exact h.len, by rw [← hc]; exact setRow_heap _ _ _ _ _ _ h.row, fun i a b c => ?_, h.bel.trans (hk2.below (Nat.le_of_lt (lt_of_block h.row)) (fun i hi => by omega))⟩
  rw [List.length_set] at a
  have e : (E.set k D[k])[i]'(by rwa [List.length_set]) = E[i] := by rw [List.getElem_set, if_neg (by omega)]
  rw [e]
  exact ⟨(h.done i a b c).1, (h.done i a b c).2.kept hk2⟩
end Go.Proofs.Ytaiijdnfimclbaa
