/-
  strings.HasPrefix, strings.IndexByte and the reader's skip and take by their contracts. Condition: a text is no longer than a process can hold.
-/
import Derived.Test.YtaiijdnfimclbaaRd
import Derived.Test.YtaiijdnfimclbaaMPar
import Derived.Deep.RegionHeld3
import Derived.Lib.Strings
import Derived.Lib.Bytealg
namespace Go.Proofs.Ytaiijdnfimclbaa
open Go.RowKit Go.Lib

theorem bt {N : Nat} {a b c : World} (h : Below N a b) (k : Below b.heap.size b c) (hN : N ≤ a.heap.size) : Below N a c := h.trans (k.mono (Nat.le_trans hN h.size))
theorem al {w w' : World} (h : Below w.heap.size w w') (o : Obj) : Below w.heap.size w (w'.alloc o) := h.alloc h.size o
theorem block_setCell {w : World} {b : Nat} {cs : Array Value} {t : TypeId} {fr : Nat × Nat} (h : w.heap[b]? = some (.cells cs t fr)) (j : Nat) (u : Value) : (w.setCell ⟨b, j, none⟩ u).heap[b]? = some (.cells (cs.set! j u) t fr) := by
  have hlt := lt_of_block h
  have h' : w.heap[b] = .cells cs t fr := by simpa [Array.getElem?_eq_getElem hlt] using h
  show (w.heap.modify b _)[b]? = _
  rw [Array.getElem?_eq_getElem (by simpa using hlt), Array.getElem_modify_self, h']
  rfl

/-- Two cells are written over. -/
theorem st2 {W : World} {g : Nat} {a b : Value} {T : TypeId} (B : W.heap[g]? = some (.cells #[a, b] T (0, 0))) (x y : Value) :
    W.cell? ⟨g, 0, none⟩ = some a ∧ W.frozen? ⟨g, 0, none⟩ = false ∧ (W.setCell ⟨g, 0, none⟩ x).cell? ⟨g, 1, none⟩ = some b ∧ (W.setCell ⟨g, 0, none⟩ x).frozen? ⟨g, 1, none⟩ = false ∧ ((W.setCell ⟨g, 0, none⟩ x).setCell ⟨g, 1, none⟩ y).cell? ⟨g, 0, none⟩ = some x ∧ ((W.setCell ⟨g, 0, none⟩ x).setCell ⟨g, 1, none⟩ y).cell? ⟨g, 1, none⟩ = some y ∧ Kept (fun k => k = g) W ((W.setCell ⟨g, 0, none⟩ x).setCell ⟨g, 1, none⟩ y) := by
  have B1 : (W.setCell ⟨g, 0, none⟩ x).heap[g]? = some (.cells #[x, b] T (0, 0)) := block_setCell B 0 x
  have B2 : ((W.setCell ⟨g, 0, none⟩ x).setCell ⟨g, 1, none⟩ y).heap[g]? = some (.cells #[x, y] T (0, 0)) := block_setCell B1 1 y
  refine ⟨?_, frozen_of_row _ _ _ _ _ B, ?_, frozen_of_row _ _ _ _ _ B1, ?_, ?_, Kept.setCell (F := fun k => k = g) (p := ⟨g, 1, none⟩) (Kept.setCell (F := fun k => k = g) (p := ⟨g, 0, none⟩) (Kept.refl _ _) rfl _) rfl _⟩
  · rw [cell_of_row _ _ _ _ _ _ B]; rfl
  · rw [cell_of_row _ _ _ _ _ _ B1]; rfl
  · rw [cell_of_row _ _ _ _ _ _ B2]; rfl
  · rw [cell_of_row _ _ _ _ _ _ B2]; rfl
/-- Four. -/
def set4 (W : World) (g : Nat) (x y z u : Value) : World := (((W.setCell ⟨g, 0, none⟩ x).setCell ⟨g, 1, none⟩ y).setCell ⟨g, 2, none⟩ z).setCell ⟨g, 3, none⟩ u
theorem st4 {W : World} {g : Nat} {a b c d : Value} {T : TypeId} (B : W.heap[g]? = some (.cells #[a, b, c, d] T (0, 0))) (x y z u : Value) :
    W.cell? ⟨g, 0, none⟩ = some a ∧ W.frozen? ⟨g, 0, none⟩ = false ∧ (W.setCell ⟨g, 0, none⟩ x).cell? ⟨g, 1, none⟩ = some b ∧ (W.setCell ⟨g, 0, none⟩ x).frozen? ⟨g, 1, none⟩ = false ∧
    ((W.setCell ⟨g, 0, none⟩ x).setCell ⟨g, 1, none⟩ y).cell? ⟨g, 2, none⟩ = some c ∧ ((W.setCell ⟨g, 0, none⟩ x).setCell ⟨g, 1, none⟩ y).frozen? ⟨g, 2, none⟩ = false ∧
    (((W.setCell ⟨g, 0, none⟩ x).setCell ⟨g, 1, none⟩ y).setCell ⟨g, 2, none⟩ z).cell? ⟨g, 3, none⟩ = some d ∧ (((W.setCell ⟨g, 0, none⟩ x).setCell ⟨g, 1, none⟩ y).setCell ⟨g, 2, none⟩ z).frozen? ⟨g, 3, none⟩ = false ∧
    ((((W.setCell ⟨g, 0, none⟩ x).setCell ⟨g, 1, none⟩ y).setCell ⟨g, 2, none⟩ z).setCell ⟨g, 3, none⟩ u).heap[g]? = some (.cells #[x, y, z, u] T (0, 0)) ∧ Kept (fun k => k = g) W ((((W.setCell ⟨g, 0, none⟩ x).setCell ⟨g, 1, none⟩ y).setCell ⟨g, 2, none⟩ z).setCell ⟨g, 3, none⟩ u) := by
  have B1 : (W.setCell ⟨g, 0, none⟩ x).heap[g]? = some (.cells #[x, b, c, d] T (0, 0)) := block_setCell B 0 x
  have B2 : ((W.setCell ⟨g, 0, none⟩ x).setCell ⟨g, 1, none⟩ y).heap[g]? = some (.cells #[x, y, c, d] T (0, 0)) := block_setCell B1 1 y
  have B3 : (((W.setCell ⟨g, 0, none⟩ x).setCell ⟨g, 1, none⟩ y).setCell ⟨g, 2, none⟩ z).heap[g]? = some (.cells #[x, y, z, d] T (0, 0)) := block_setCell B2 2 z
  have B4 : ((((W.setCell ⟨g, 0, none⟩ x).setCell ⟨g, 1, none⟩ y).setCell ⟨g, 2, none⟩ z).setCell ⟨g, 3, none⟩ u).heap[g]? = some (.cells #[x, y, z, u] T (0, 0)) := block_setCell B3 3 u
  refine ⟨?_, frozen_of_row _ _ _ _ _ B, ?_, frozen_of_row _ _ _ _ _ B1, ?_, frozen_of_row _ _ _ _ _ B2, ?_, frozen_of_row _ _ _ _ _ B3, B4, Kept.setCell (F := fun k => k = g) (p := ⟨g, 3, none⟩) (Kept.setCell (F := fun k => k = g) (p := ⟨g, 2, none⟩) (Kept.setCell (F := fun k => k = g) (p := ⟨g, 1, none⟩) (Kept.setCell (F := fun k => k = g) (p := ⟨g, 0, none⟩) (Kept.refl _ _) rfl _) rfl _) rfl _) rfl _⟩
  · rw [cell_of_row _ _ _ _ _ _ B]; rfl
  · rw [cell_of_row _ _ _ _ _ _ B1]; rfl
  · rw [cell_of_row _ _ _ _ _ _ B2]; rfl
  · rw [cell_of_row _ _ _ _ _ _ B3]; rfl
def sv (l : By) : Value := .string ⟨l.toArray⟩
set_option maxHeartbeats 1000000 in
theorem hasPre_any (s p : By) (w : World) : Calls Try.prog 66 #[.string ⟨s.toArray⟩, .string ⟨p.toArray⟩] w fun e w' => e = .returned (.bool (p.isPrefixOf s)) ∧ w' = w := by
  have hr := Lib.hasPrefix_raw ⟨s.toArray⟩ ⟨p.toArray⟩
  unfold Lib.hasPrefix at hr
  simp only at hr
  rw [← hr]
  clear hr
  go_enter Try.func66, Try.ntmps66
  go_wp2
  · rename_i h
    go_ret
    have h' : (⟨p.toArray⟩ : ByteArray).size ≤ (⟨s.toArray⟩ : ByteArray).size := h
    rw [decide_eq_true h', Bool.true_and]
    exact ⟨congrArg (fun b => Ending.returned (Value.bool b)) (by rw [Lib.toList_data ⟨p.toArray⟩]; rfl), rfl⟩
  · rename_i h
    go_ret
    have h' : ¬ (⟨p.toArray⟩ : ByteArray).size ≤ (⟨s.toArray⟩ : ByteArray).size := h
    rw [decide_eq_false h', Bool.false_and]
    exact ⟨rfl, rfl⟩
set_option maxHeartbeats 1000000 in
set_option maxRecDepth 100000 in
theorem idxByte_any (s : By) (c : Int) (w : World) : Calls Try.prog 70 #[.string ⟨s.toArray⟩, .int .u8 c] w fun e w' => e = .returned (.int .i64 (Lib.indexByte s c.toNat.toUInt8)) ∧ w' = w := by
  have H : Calls Try.prog 85 #[.string ⟨s.toArray⟩, .int .u8 c] w fun e w' => e = .returned (.int .i64 (Lib.indexByte s c.toNat.toUInt8)) ∧ w' = w := by
    go_enter Try.func85, Try.ntmps85
    go_wp2
    rw [run_callFunc_extern Try.func92 (by kernel_rfl) (by kernel_rfl) (by kernel_rfl) (e := Extern.BytealgIndexByte.indexByte) (by kernel_rfl), Lib.run_indexByteString]
    simp only [Result.andThen]
    rw [Oper.upon_value]
    go_wp2
    go_ret
    exact ⟨rfl, rfl⟩
  go_enter Try.func70, Try.ntmps70
  go_wp2_with (go_at_call 85; refine H.mono ?_; rintro e w2 ⟨rfl, hw2⟩; subst hw2)
  go_ret
  exact ⟨rfl, rfl⟩

/-- A reader that has gone over p, ahead of r. -/
def RdAt (w : World) (rb : Nat) (p r : By) : Prop := w.heap[rb]? = some (.cells #[.string ⟨(p ++ r).toArray⟩, .int .i64 (p.length : Nat)] 55 (0, 0))
theorem RdAt.below {w w' : World} {rb : Nat} {p r : By} (h : RdAt w rb p r) (x : Below w.heap.size w w') : RdAt w' rb p r := (x.block rb (lt_of_block h)).trans h
theorem RdAt.kept {F : Nat → Prop} {w w' : World} {rb : Nat} {p r : By} (h : RdAt w rb p r) (x : Kept F w w') (hF : ¬ F rb) : RdAt w' rb p r := (x.block rb (lt_of_block h) hF).trans h
theorem RdAt.c0 {w : World} {rb : Nat} {p r : By} (h : RdAt w rb p r) : w.cell? ⟨rb, 0, none⟩ = some (.string ⟨(p ++ r).toArray⟩) := by rw [cell_of_row w rb 0 _ _ _ h]; rfl
theorem RdAt.c1 {w : World} {rb : Nat} {p r : By} (h : RdAt w rb p r) : w.cell? ⟨rb, 1, none⟩ = some (.int .i64 (p.length : Nat)) := by rw [cell_of_row w rb 1 _ _ _ h]; rfl
theorem ext_r (p r : By) : (⟨(p ++ r).toArray⟩ : ByteArray).extract p.length (p.length + r.length) = ⟨r.toArray⟩ := by
  apply ByteArray.ext
  simp

set_option maxRecDepth 100000 in
set_option maxHeartbeats 2000000 in
theorem skip_any (rb : Nat) (p q r : By) (w : World) (hl : (p ++ r).length ≤ 140737488351232) (hq : q.length ≤ 8) (h : RdAt w rb p r) :
    Calls Try.prog 42 #[.pointer (some ⟨rb, 0, none⟩), .string ⟨q.toArray⟩] w fun e w' => e = .returned (.bool (q.isPrefixOf r)) ∧ (q.isPrefixOf r = true → RdAt w' rb (p ++ q) (r.drop q.length)) ∧ (q.isPrefixOf r = false → RdAt w' rb p r) ∧ Kept (fun k => k = rb) w w' := by
  have c0 := h.c0
  have c1 := h.c1
  have f1 := frozen_of_row w rb 1 _ _ h
  have hb := lt_of_block h
  have HH := hide h
  have e1 := ext_r p r
  rw [← List.length_append] at e1
  have z1 : (p.length : Int) ≤ ((p ++ r).length : Int) := by rw [List.length_append]; omega
  have HP := hide (fun w => hasPre_any r q w)
  have w1 : IntKind.i64.wrap ((p.length : Int) + (q.length : Int)) = (p.length : Int) + (q.length : Int) := by rw [List.length_append] at hl; simp [IntKind.wrap, IntKind.bits, IntKind.signed]; omega
  clear h
  obtain ⟨s, HS⟩ : ∃ s, Hid (s = p ++ r) := ⟨_, rfl⟩
  rw [← HS.out] at c0 e1 z1 hl
  cases hpq : q.isPrefixOf r with
  | true =>
    rw [hpq] at HP
    have HR : Hid (q ++ r.drop q.length = r) := by
      obtain ⟨r', rfl⟩ := List.isPrefixOf_iff_prefix.1 hpq
      simp [Hid]
    clear hpq
    go_enter Try.func42, Try.ntmps42
    go_wp2
    go_region_held3 (fun w' => w'.cell? ⟨rb, 0, none⟩ = some (.string ⟨s.toArray⟩) ∧ w'.cell? ⟨rb, 1, none⟩ = some (.int .i64 (p.length : Nat))) (first | assumption | (simp [go_sem, *]; done))
      (first | (go_at_call 66; refine (HP.out _).mono ?_; rintro e w2 ⟨rfl, hw2⟩; subst hw2))
    go_wp2
    go_ret
    refine ⟨rfl, fun _ => ?_, fun h => (by cases h), by refine Kept.drew (Kept.setCell (F := fun k => k = rb) (a := w) (p := ⟨rb, 1, none⟩) ?_ rfl _); exact ⟨rfl, rfl, rfl, Nat.le_refl _, fun _ _ _ => rfl⟩⟩
    refine (block_setCell (cs := #[.string ⟨(p ++ r).toArray⟩, .int .i64 (p.length : Nat)]) HH.out 1 _).trans ?_
    rw [List.append_assoc, HR.out, List.length_append, Int.natCast_add]
    rfl
  | false =>
    rw [hpq] at HP
    clear hpq
    go_enter Try.func42, Try.ntmps42
    go_wp2
    go_region_held3 (fun w' => w'.cell? ⟨rb, 0, none⟩ = some (.string ⟨s.toArray⟩) ∧ w'.cell? ⟨rb, 1, none⟩ = some (.int .i64 (p.length : Nat))) (first | assumption | (simp [go_sem, *]; done))
      (first | (go_at_call 66; refine (HP.out _).mono ?_; rintro e w2 ⟨rfl, hw2⟩; subst hw2))
    go_wp2
    go_ret
    exact ⟨rfl, fun h => (by cases h), fun _ => HH.out, ⟨rfl, rfl, rfl, Nat.le_refl _, fun _ _ _ => rfl⟩⟩

theorem idx_str (l : By) (k : Nat) (hk : k < l.length) : ((⟨l.toArray⟩ : ByteArray)[k]'hk) = l[k] := by rfl
set_option maxRecDepth 100000 in
set_option maxHeartbeats 2000000 in
/-- take: the next byte, if it is one from least to 126. -/
theorem take_end (rb : Nat) (p : By) (least : Int) (w : World) (h : RdAt w rb p []) :
    Calls Try.prog 44 #[.pointer (some ⟨rb, 0, none⟩), .int .i64 least] w fun e w' => e = .returned (.tuple #[.int .i64 0, .bool false]) ∧ RdAt w' rb p [] ∧ Kept (fun k => k = rb) w w' := by
  have c0 := h.c0
  have c1 := h.c1
  rw [List.append_nil] at c0
  have HH := hide h
  clear h
  go_enter Try.func44, Try.ntmps44
  go_wp2
  go_quiet (fail)
  go_wp2
  go_ret2
  exact ⟨rfl, HH.out, ⟨rfl, rfl, rfl, Nat.le_refl _, fun _ _ _ => rfl⟩⟩
set_option maxRecDepth 100000 in
set_option maxHeartbeats 2000000 in
theorem take_any (rb : Nat) (p r : By) (c : UInt8) (least : Int) (w : World) (hl : (p ++ c :: r).length ≤ 140737488351232) (h : RdAt w rb p (c :: r)) :
    Calls Try.prog 44 #[.pointer (some ⟨rb, 0, none⟩), .int .i64 least] w fun e w' => ((least ≤ (c.toNat : Int) ∧ c.toNat ≤ 126 ∧ e = .returned (.tuple #[.int .i64 (c.toNat : Nat), .bool true]) ∧ RdAt w' rb (p ++ [c]) r) ∨ (¬ (least ≤ (c.toNat : Int) ∧ c.toNat ≤ 126) ∧ e = .returned (.tuple #[.int .i64 0, .bool false]) ∧ RdAt w' rb p (c :: r))) ∧ Kept (fun k => k = rb) w w' := by
  have c0 := h.c0
  have c1 := h.c1
  have f1 := frozen_of_row w rb 1 _ _ h
  have HH := hide h
  have hpl : p.length < (p ++ c :: r).length := by rw [List.length_append, List.length_cons]; omega
  have z1 : (p.length : Int) < ((p ++ c :: r).length : Int) := by omega
  have z2 : ¬ (p.length : Int) = ((p ++ c :: r).length : Int) := by omega
  have hg : (⟨(p ++ c :: r).toArray⟩ : ByteArray)[p.length]'hpl = c := by rw [idx_str]; simp
  have w1 : IntKind.i64.wrap ((p.length : Int) + 1) = (p.length : Int) + 1 := by simp [IntKind.wrap, IntKind.bits, IntKind.signed]; omega
  have w2 : IntKind.i64.wrap (c.toNat : Int) = (c.toNat : Int) := by have := c.toNat_lt; simp [IntKind.wrap, IntKind.bits, IntKind.signed]; omega
  clear h
  obtain ⟨s, HS⟩ : ∃ s, Hid (s = p ++ c :: r) := ⟨_, rfl⟩
  have hg' : ∀ hk, (⟨s.toArray⟩ : ByteArray)[p.length]'hk = c := by rw [HS.out]; exact fun _ => hg
  clear hg
  rw [← HS.out] at c0 z1 z2 hl hpl
  by_cases h1 : (c.toNat : Int) < least
  · go_enter Try.func44, Try.ntmps44
    go_wp2
    go_quiet (fail)
    go_wp2
    go_quiet (fail)
    go_wp2
    go_ret2
    exact ⟨.inr ⟨fun h => (by omega), rfl, HH.out⟩, ⟨rfl, rfl, rfl, Nat.le_refl _, fun _ _ _ => rfl⟩⟩
  · by_cases h2 : (126 : Int) < (c.toNat : Int)
    · go_enter Try.func44, Try.ntmps44
      go_wp2
      go_quiet (fail)
      go_wp2
      go_quiet (fail)
      go_wp2
      go_ret2
      exact ⟨.inr ⟨fun h => (by omega), rfl, HH.out⟩, ⟨rfl, rfl, rfl, Nat.le_refl _, fun _ _ _ => rfl⟩⟩
    · go_enter Try.func44, Try.ntmps44
      go_wp2
      go_quiet (fail)
      go_wp2
      go_quiet (fail)
      go_wp2
      go_ret2
      refine ⟨.inl ⟨by omega, by omega, rfl, ?_⟩, by refine Kept.setCell (F := fun k => k = rb) (a := w) (p := ⟨rb, 1, none⟩) ?_ rfl _; exact ⟨rfl, rfl, rfl, Nat.le_refl _, fun _ _ _ => rfl⟩⟩
      refine (block_setCell (cs := #[.string ⟨(p ++ c :: r).toArray⟩, .int .i64 (p.length : Nat)]) HH.out 1 _).trans ?_
      rw [List.append_assoc, List.length_append, Int.natCast_add]
      rfl
end Go.Proofs.Ytaiijdnfimclbaa
