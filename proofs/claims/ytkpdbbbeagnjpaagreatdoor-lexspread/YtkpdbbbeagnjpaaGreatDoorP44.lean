/-
  A row of bytes that grows by texts. No condition.
-/
import Derived.Test.YtkpdbbbeagnjpaaGreatDoorP43
import Derived.Lib.AppendStr
namespace Go.Proofs.YtkpdbbbeagnjpaaGreatDoor
open Go.RowKit Go.Lib

theorem RwB.nil (w0 w : World) (x : Below w0.heap.size w0 w) : RwB w0 w (.slice none 0 0) [] := ⟨World.ownsRow_nil _ _ _ _, x⟩
theorem RwB.grown {w0 w w5 w' : World} {v v' : Value} {l u : By} (h : RwB w0 w v l) (x : Below w.heap.size w w5) (h1 : w'.ownsRow w0.heap.size 5 1 v' (l.length + u.length) (Lib.byteCells l ++ Lib.byteCells u)) (h2 : w5.grownBy w' v.ownBlock) : RwB w0 w' v' (l ++ u) := by
  refine ⟨by have e : Lib.byteCells (l ++ u) = Lib.byteCells l ++ Lib.byteCells u := (by simp [Lib.byteCells]); rw [e, List.length_append]; exact h1, ?_⟩
  refine (bt h.bel x (Nat.le_refl _)).trans ((kept_of_grown h2).below (bt h.bel x (Nat.le_refl _)).size (fun i hi => ?_))
  exact (World.ownsRow.lt h.own i hi).1
theorem RwB.appL {w0 w w5 w' : World} {v v' : Value} {l u : By} (h : RwB w0 w v l) (x : Below w.heap.size w w5) (h1 : w'.ownsRow w0.heap.size 5 1 v' (l.length + u.length) (Lib.byteCells l ++ Lib.byteCells u)) (h2 : AppAt w5 w' v v') : RwB w0 w' v' (l ++ u) := by
  refine ⟨by have e : Lib.byteCells (l ++ u) = Lib.byteCells l ++ Lib.byteCells u := (by simp [Lib.byteCells]); rw [e, List.length_append]; exact h1, ?_⟩
  rcases h2 with ⟨g, g1, g2, g3⟩ | ⟨g1, g2⟩
  · have hg := (World.ownsRow.lt h.own g g1).1
    exact (bt h.bel x (Nat.le_refl _)).trans ((kept_of_grown g3).below (bt h.bel x (Nat.le_refl _)).size (fun i hi => by have : g = i := (by simpa using hi); omega))
  · exact bt (bt h.bel x (Nat.le_refl _)) (below_of_grown g1) (Nat.le_refl _)
theorem RwB.conv {w0 w : World} {v : Value} {l : By} (h : RwB w0 w v l) : (convert 36 9 v).run Tryz.prog w = .ok (.string ⟨l.toArray⟩) w := by
  rcases h.own.2 with ⟨rfl, e⟩ | ⟨g, cap, cur, rfl, _⟩
  · have : l = [] := List.eq_nil_of_length_eq_zero e
    subst this
    exact run_convert_bytes_nil w 36 5 Tryz.underlying36 Tryz.underlying5 0 0 9 Tryz.underlying9
  · exact conv_bytes w g cap l _ h.own
theorem str_cells (l : By) : Lib.strCells ⟨l.toArray⟩ = Lib.byteCells l := by
  unfold Lib.strCells Lib.byteCells
  simp
theorem step_append_string {P : Program} {w : World} {ops : Array Oper} {o : Oper} {a : Act} {K : Act → World → Prop} {Q : Exit → Act → World → Prop} {E : Prop} (hgd : o.guard = none) (sl x : Operand) (t u : TypeId)
    (ho : o.op = .call { callee := .builtin .append, args := #[sl, x], argTypes := #[t, u] })
    (base : Nat) (e : TypeId) (i : TypeInfo) (ht : P.underlying t = some (.slice e)) (hu : P.underlying u = some .string) (hi : P.info? e = some i) (hz : i.zero = some (.int .u8 0))
    (hsize : i.size = 1) (hby : i.bytes = 1)
    (v : Value) (n : Nat) (xs : List Value) (hs : a.eval sl = v) (hown : w.ownsRow base e 1 v n xs) (s : ByteArray) (hx : a.eval x = .string s)
    (h63 : n + s.size ≤ maxLen) (hbytes : n + s.size ≤ 140737488355328) (hbase : base ≤ w.heap.size)
    (h : ∀ v' w', w'.ownsRow base e 1 v' (n + s.size) (xs ++ strCells s) → w.grownBy w' v.ownBlock → K (a.put o.dst v') w') :
    if Region.wanted o (yielded ops a.tmps) = true then Oper.wp P o a w K Q else E := by
  have hw : Region.wanted o (yielded ops a.tmps) = true := by simp [Region.wanted, hgd]
  rw [if_pos hw]
  obtain ⟨v', w', hr, h2, h3, h4⟩ := run_append_own_string (P := P) w base t u o.type e i ht hu hi hz hsize hby v n xs hown s h63 hbytes hbase
  unfold Oper.wp execOp
  simp only [ho, resolve, invoke, builtin, Sem.run_bind, Sem.run_pure, Result.andThen_ok, List.map_toArray, List.map_cons, List.map_nil, hs, hx, hr]
  exact h v' w' h2 h3
end Go.Proofs.YtkpdbbbeagnjpaaGreatDoor
