/-
  What the codec's things are in memory: a Writer, the document's Writer, a Reader, the document's Reader; what a call may have turned ('Kept'); and 'append(b, s...)' with where the new row lies. No condition.
-/
import Derived.Test.YtonoobjpafhogaaDoorNum
import Derived.Lib.AppendStr
import Derived.OneCell
namespace Go.Proofs.YtonoobjpafhogaaDoor
open Go.RowKit Go.Lib

/-- All that was there is as it was, but for the blocks of F. -/
structure Kept (F : Nat → Prop) (w w' : World) : Prop where
  os : w'.os = w.os
  tape : w'.tape = w.tape
  output : w'.output = w.output
  size : w.heap.size ≤ w'.heap.size
  block : ∀ k, k < w.heap.size → ¬ F k → w'.heap[k]? = w.heap[k]?

theorem Kept.refl (F : Nat → Prop) (w : World) : Kept F w w := ⟨rfl, rfl, rfl, Nat.le_refl _, fun _ _ _ => rfl⟩
theorem Kept.trans {F : Nat → Prop} {a b c : World} (h : Kept F a b) (k : Kept F b c) : Kept F a c :=
  ⟨k.os.trans h.os, k.tape.trans h.tape, k.output.trans h.output, Nat.le_trans h.size k.size, fun i hi hf => (k.block i (Nat.lt_of_lt_of_le hi h.size) hf).trans (h.block i hi hf)⟩
/-- A second step may turn what the first one made. -/
theorem Kept.trans_new {F G : Nat → Prop} {a b c : World} (h : Kept F a b) (k : Kept G b c) (hG : ∀ i, i < a.heap.size → G i → F i) : Kept F a c :=
  ⟨k.os.trans h.os, k.tape.trans h.tape, k.output.trans h.output, Nat.le_trans h.size k.size, fun i hi hf => (k.block i (Nat.lt_of_lt_of_le hi h.size) (fun hg => hf (hG i hi hg))).trans (h.block i hi hf)⟩
theorem Kept.mono {F G : Nat → Prop} {a b : World} (h : Kept F a b) (hG : ∀ i, F i → G i) : Kept G a b :=
  ⟨h.os, h.tape, h.output, h.size, fun i hi hf => h.block i hi (fun hg => hf (hG i hg))⟩
theorem Kept.of_below {F : Nat → Prop} {a b : World} (h : Below a.heap.size a b) : Kept F a b :=
  ⟨h.os, h.tape, h.output, h.size, fun i hi _ => h.block i hi⟩
theorem Kept.below {F : Nat → Prop} {B : Nat} {a b : World} (h : Kept F a b) (hB : B ≤ a.heap.size) (hF : ∀ i, F i → B ≤ i) : Below B a b :=
  ⟨h.os, h.tape, h.output, h.size, fun i hi => h.block i (by omega) (fun hf => by have := hF i hf; omega)⟩
theorem Kept.setCell {F : Nat → Prop} {a w : World} (h : Kept F a w) {p : Addr} (hp : F p.block) (u : Value) : Kept F a (w.setCell p u) :=
  h.trans ⟨rfl, rfl, rfl, by simp [World.setCell], fun k _ hf => Below.heap_setCell _ _ _ _ (fun e => hf (e ▸ hp))⟩
theorem Kept.drew {F : Nat → Prop} {a w : World} (h : Kept F a w) : Kept F a w.drew := ⟨h.os, h.tape, h.output, h.size, h.block⟩
theorem Kept.drewN {F : Nat → Prop} {a w : World} (h : Kept F a w) (n : Nat) : Kept F a (w.drewN n) := ⟨h.os, h.tape, h.output, h.size, h.block⟩
theorem Kept.grown {F : Nat → Prop} {a w w' : World} {row : Option Nat} (h : Kept F a w) (hg : w.grownBy w' row) (hr : ∀ k, row = some k → F k) : Kept F a w' :=
  h.trans ⟨hg.os, hg.tape, hg.output, hg.size, fun k hk hf => hg.block k hk (fun e => hf (hr k e.symm))⟩

/-- An error of the codec as a value: 0 is none. -/
def errOf (E : Int) : Value := if E = 0 then .nilIface else errV E
theorem errOf_zero : errOf 0 = .nilIface := rfl
theorem errOf_ne {E : Int} (h : E ≠ 0) : errOf E = .iface 98 (.agg #[.int .i64 E]) := by simp [errOf, h, errV]

def cellsOf (S : List UInt8) : List Value := S.map fun c => .int .u8 c.toNat
theorem cellsOf_str (s : ByteArray) : strCells s = cellsOf s.data.toList := rfl
theorem cellsOf_append (S T : List UInt8) : cellsOf (S ++ T) = cellsOf S ++ cellsOf T := by simp [cellsOf]
theorem cellsOf_length (S : List UInt8) : (cellsOf S).length = S.length := by simp [cellsOf]

/-- The blocks of a Writer: its own, and its row. -/
def FW (b : Nat) (ao : Option Addr) (k : Nat) : Prop := k = b ∨ ∃ a, ao = some a ∧ a.block = k

/-- A Writer at block b whose third field is x: it holds S, and may hold most. -/
def CW (T : TypeId) (w : World) (b : Nat) (ao : Option Addr) (cap : Nat) (most : Nat) (x : Value) (S : List UInt8) : Prop :=
  w.heap[b]? = some (.cells #[.slice ao S.length cap, .int .i64 most, x] T (0, 0)) ∧ w.ownsRow 0 5 1 (.slice ao S.length cap) S.length (cellsOf S)

/-- The same, its blocks among those of F. -/
def WAt (T : TypeId) (F : Nat → Prop) (w : World) (b : Nat) (most : Nat) (x : Value) (S : List UInt8) : Prop :=
  ∃ ao cap, (∀ k, FW b ao k → F k) ∧ CW T w b ao cap most x S

theorem CW.cell {T : TypeId} {w : World} {b : Nat} {ao : Option Addr} {cap most : Nat} {x : Value} {S : List UInt8} (h : CW T w b ao cap most x S) :
    w.cell? ⟨b, 0, none⟩ = some (.slice ao S.length cap) ∧ w.cell? ⟨b, 1, none⟩ = some (.int .i64 most) ∧ w.cell? ⟨b, 2, none⟩ = some x ∧
    w.frozen? ⟨b, 0, none⟩ = false ∧ w.frozen? ⟨b, 1, none⟩ = false ∧ w.frozen? ⟨b, 2, none⟩ = false := by
  refine ⟨?_, ?_, ?_, ?_, ?_, ?_⟩
  · rw [cell_of_row w b 0 _ _ _ h.1]; rfl
  · rw [cell_of_row w b 1 _ _ _ h.1]; rfl
  · rw [cell_of_row w b 2 _ _ _ h.1]; rfl
  · exact frozen_of_row w b 0 _ _ h.1
  · exact frozen_of_row w b 1 _ _ h.1
  · exact frozen_of_row w b 2 _ _ h.1
theorem CW.lt {T : TypeId} {w : World} {b : Nat} {ao : Option Addr} {cap most : Nat} {x : Value} {S : List UInt8} (h : CW T w b ao cap most x S) : ∀ k, FW b ao k → k < w.heap.size := by
  rintro k (rfl | ⟨a, rfl, rfl⟩)
  · exact lt_of_block h.1
  · exact (h.2.lt a.block rfl).2
theorem CW.kept {T : TypeId} {F : Nat → Prop} {w w' : World} {b : Nat} {ao : Option Addr} {cap most : Nat} {x : Value} {S : List UInt8} (h : CW T w b ao cap most x S) (hk : Kept F w w') (hF : ∀ k, FW b ao k → ¬ F k) : CW T w' b ao cap most x S := by
  refine ⟨by rw [hk.block b (lt_of_block h.1) (hF b (.inl rfl))]; exact h.1, ?_⟩
  refine ⟨h.2.1, ?_⟩
  rcases h.2.2 with hn | ⟨g, c, cur, hv, hb, hg, r⟩
  · exact .inl hn
  · refine .inr ⟨g, c, cur, hv, hb, ?_, r⟩
    have : ao = some ⟨g, 0, none⟩ := by injection hv
    rw [hk.block g (lt_of_block hg) (hF g (.inr ⟨_, this, rfl⟩))]; exact hg
/-- The row is another block than the Writer's own. -/
theorem CW.apart {T : TypeId} {w : World} {b : Nat} {ao : Option Addr} {cap most : Nat} {x : Value} {S : List UInt8} (h : CW T w b ao cap most x S) (hT : T ≠ 5) : ∀ a, ao = some a → a.block ≠ b := by
  rintro a rfl he
  rcases h.2.2 with ⟨hn, _⟩ | ⟨g, c, cur, hv, hb, hg, r⟩
  · cases hn
  · have e1 : a = ⟨g, 0, none⟩ := by injection hv with h1; injection h1
    subst e1
    simp only at he
    subst he
    have := h.1
    rw [hg] at this
    simp at this
    exact hT this.2.symm
theorem WAt.kept {T : TypeId} {F G : Nat → Prop} {w w' : World} {b most : Nat} {x : Value} {S : List UInt8} (h : WAt T F w b most x S) (hk : Kept G w w') (hG : ∀ k, F k → ¬ G k) : WAt T F w' b most x S := by
  obtain ⟨ao, cap, hf, hc⟩ := h
  exact ⟨ao, cap, hf, hc.kept hk (fun k hk' => hG k (hf k hk'))⟩
theorem WAt.mono {T : TypeId} {F G : Nat → Prop} {w : World} {b most : Nat} {x : Value} {S : List UInt8} (h : WAt T F w b most x S) (hG : ∀ k, F k → k < w.heap.size → G k) : WAt T G w b most x S := by
  obtain ⟨ao, cap, hf, hc⟩ := h
  exact ⟨ao, cap, fun k hk => hG k (hf k hk) (hc.lt k hk), hc⟩

/-- A cell of a block of cells is written. -/
theorem block_setCell {w : World} {b : Nat} {cs : Array Value} {t : TypeId} {fr : Nat × Nat} (h : w.heap[b]? = some (.cells cs t fr)) (j : Nat) (u : Value) : (w.setCell ⟨b, j, none⟩ u).heap[b]? = some (.cells (cs.set! j u) t fr) := by
  have hlt := lt_of_block h
  have h' : w.heap[b] = .cells cs t fr := by simpa [Array.getElem?_eq_getElem hlt] using h
  show (w.heap.modify b _)[b]? = _
  rw [Array.getElem?_eq_getElem (by simpa using hlt), Array.getElem_modify_self, h']
  rfl

section
variable {P : Program} (w : World)
/-- The library's law on 'append(b, s...)', with where the new row lies: where it lay, or in the next new block. -/
theorem run_append_str (base : Nat) (t u ty e : TypeId) (i : TypeInfo) (ht : P.underlying t = some (.slice e)) (hu : P.underlying u = some .string) (hi : P.info? e = some i) (hz : i.zero = some (.int .u8 0))
    (hsize : i.size = 1) (hby : i.bytes = 1) (ao : Option Addr) (n cap : Nat) (xs : List Value) (hown : w.ownsRow base e 1 (.slice ao n cap) n xs) (s : ByteArray)
    (h63 : n + s.size ≤ maxLen) (hbytes : n + s.size ≤ 140737488355328) (hbase : base ≤ w.heap.size) :
    ∃ ao' k' cap' w', (Builtin.append_ #[t, u] ty #[.slice ao n cap, .string s]).run P w = .ok (.slice ao' k' cap') w' ∧ w'.ownsRow base e 1 (.slice ao' k' cap') (n + s.size) (xs ++ strCells s) ∧
      w.grownBy w' (Value.ownBlock (.slice ao n cap)) ∧ (∀ a, ao' = some a → ao = some a ∨ a.block = w.heap.size) := by
  obtain ⟨v', w', hr, h2, h3, h4⟩ := run_append_own_string (P := P) w base t u ty e i ht hu hi hz hsize hby (.slice ao n cap) n xs hown s h63 hbytes hbase
  have hsmall : n + s.size ≤ 9223372036854775807 := by simp only [maxLen] at h63; omega
  rcases hown.2 with ⟨hv, hn⟩ | ⟨g, c, cur, hv, hbg, hg, hnc, hcm, hcs, htake⟩
  · obtain ⟨rfl, rfl, rfl⟩ : ao = none ∧ n = 0 ∧ cap = 0 := by injection hv with a b c; exact ⟨a, b, c⟩
    by_cases hm : s.size = 0
    · have e0 : v' = .slice none 0 0 := h4.2 ⟨rfl, hm⟩
      subst e0
      exact ⟨none, 0, 0, w', hr, h2, h3, fun a ha => by cases ha⟩
    · have hr2 := run_append_nil_string (P := P) w t u ty e i (.int .u8 0) ht hu hi hz s (by omega) (by omega) (by rw [hby]; omega)
      rw [hr2] at hr
      have e1 := (Result.ok.inj hr).1
      have e2 := (Result.ok.inj hr).2
      subst e1
      subst e2
      exact ⟨_, _, _, _, hr2, h2, h3, fun a ha => .inr (by injection ha with ha; rw [← ha])⟩
  · obtain ⟨rfl, _, rfl⟩ : ao = some ⟨g, 0, none⟩ ∧ n = n ∧ cap = c := by injection hv with a b c; exact ⟨a, b, c⟩
    by_cases hroom : n + s.size ≤ cap
    · have hr2 := run_append_room_string (P := P) w t u ty e i ht hu hi hsize g n cap cur hg s hroom (by simp at hcs; omega)
      rw [hr2] at hr
      have e1 := (Result.ok.inj hr).1
      have e2 := (Result.ok.inj hr).2
      subst e1
      subst e2
      exact ⟨_, _, _, _, hr2, h2, h3, fun a ha => .inl ha⟩
    · have hr2 := run_append_grow_string (P := P) w t u ty e i (.int .u8 0) ht hu hi hz ⟨g, 0, none⟩ n cap xs (by rw [hsize]; exact hown.1) (hown.cells (g := g) rfl) s (by omega) (by omega) (by rw [hby]; exact growslice_fits (by omega) (by omega))
      rw [hr2] at hr
      have e1 := (Result.ok.inj hr).1
      have e2 := (Result.ok.inj hr).2
      subst e1
      subst e2
      exact ⟨_, _, _, _, hr2, h2, h3, fun a ha => .inr (by injection ha with ha; rw [← ha])⟩

/-- The same at the operation, for a walk. -/
theorem wpList_append_str {ops : Array Oper} {rest : List Oper} {o : Oper} {a : Act} {Q : Exit → Act → World → Prop} (hgd : o.guard = none) (sl x : Operand) (t u : TypeId)
    (ho : o.op = .call { callee := .builtin .append, args := #[sl, x], argTypes := #[t, u] })
    (base : Nat) (e : TypeId) (i : TypeInfo) (ht : P.underlying t = some (.slice e)) (hu : P.underlying u = some .string) (hi : P.info? e = some i) (hz : i.zero = some (.int .u8 0))
    (hsize : i.size = 1) (hby : i.bytes = 1) (ao : Option Addr) (n cap : Nat) (xs : List Value) (hs : a.eval sl = .slice ao n cap) (hown : w.ownsRow base e 1 (.slice ao n cap) n xs) (s : ByteArray) (hx : a.eval x = .string s)
    (h63 : n + s.size ≤ maxLen) (hbytes : n + s.size ≤ 140737488355328) (hbase : base ≤ w.heap.size)
    (h : ∀ ao' k' cap' w', w'.ownsRow base e 1 (.slice ao' k' cap') (n + s.size) (xs ++ strCells s) → w.grownBy w' (Value.ownBlock (.slice ao n cap)) → (∀ a, ao' = some a → ao = some a ∨ a.block = w.heap.size) → wpList P ops Q rest (a.put o.dst (.slice ao' k' cap')) w') : wpList P ops Q (o :: rest) a w := by
  refine wpList_plain hgd fun K hK => ?_
  obtain ⟨ao', k', cap', w', hr, h2, h3, h4⟩ := run_append_str (P := P) w base t u o.type e i ht hu hi hz hsize hby ao n cap xs hown s h63 hbytes hbase
  unfold Oper.wp execOp
  simp only [ho, resolve, invoke, builtin, Sem.run_bind, Sem.run_pure, Result.andThen_ok, List.map_toArray, List.map_cons, List.map_nil, hs, hx, hr]
  exact hK _ _ (h ao' k' cap' w' h2 h3 h4)
end
theorem Tryd.info5 : (Tryd.prog.info? 5).map (fun i => (i.zero, i.size, i.bytes)) = some (some (.int .u8 0), 1, 1) := by kernel_rfl
end Go.Proofs.YtonoobjpafhogaaDoor
