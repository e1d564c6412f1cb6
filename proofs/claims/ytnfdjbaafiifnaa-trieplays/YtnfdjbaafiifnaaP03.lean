/-
  quadOf, word, mask, first, last, leads by their contracts. Condition: a number of bits is 0 to 32.
-/
import Derived.Test.YtnfdjbaafiifnaaProg
import Derived.Test.YtnfdjbaafiifnaaP01
import Derived.WalkKit
import Derived.WalkLawsBesides
import Derived.Below
import Derived.OneCell
import Derived.Deep.QuietTactic
import Derived.BigQuiet
namespace Go.Proofs.Ytnfdjbaafiifnaa
open Go.RowKit Go.Lib

theorem hide {p : Prop} (h : p) : Hid p := h
/-- Below, twice. -/
theorem bt {N : Nat} {a b c : World} (h : Below N a b) (k : Below b.heap.size b c) (hN : N ≤ a.heap.size) : Below N a c := h.trans (k.mono (Nat.le_trans hN h.size))
theorem al {w w' : World} (h : Below w.heap.size w w') (o : Obj) : Below w.heap.size w (w'.alloc o) := h.alloc h.size o
section
variable {P : Program} {ops : Array Oper} {C : World → Prop} {Q : Act → Prop}
/-- The walk of a region in its text's order, shut. -/
structure QW (P : Program) (ops : Array Oper) (C : World → Prop) (Q : Act → Prop) (l : List Oper) (a : Act) : Prop where
  out : wpQuiet P ops C Q l a
theorem QW.skip {o : Oper} {rest : List Oper} {a : Act} (hw : Region.wanted o (yielded ops a.tmps) = false) (h : QW P ops C Q rest (a.put o.dst undef)) : QW P ops C Q (o :: rest) a :=
  ⟨wpQuiet_step fun K hK => by rw [hw]; exact hK _ h.out⟩
theorem QW.take {o : Oper} {rest : List Oper} {a : Act} (hw : Region.wanted o (yielded ops a.tmps) = true) (h : ∃ v, (∀ w, C w → o.quietAt P a C w v) ∧ QW P ops C Q rest (a.put o.dst v)) : QW P ops C Q (o :: rest) a :=
  ⟨wpQuiet_step fun K hK => by rw [hw]; obtain ⟨v, h1, h2⟩ := h; exact ⟨v, h1, hK _ h2.out⟩⟩
theorem QW.nil {a : Act} (h : Q a) : QW P ops C Q [] a := ⟨wpQuiet_nil h⟩
end
theorem below_drewN (B : Nat) (w : World) (q : Nat) : Below B w (w.drewN q) := ⟨rfl, rfl, rfl, Nat.le_refl _, fun _ _ => rfl⟩
theorem i0 (a b c d : Value) (w : World) : (Instr.index 88 (.agg #[a, b, c, d]) (.int .i64 0)).run Try.prog w = .ok a w := by kernel_rfl
theorem i1 (a b c d : Value) (w : World) : (Instr.index 88 (.agg #[a, b, c, d]) (.int .i64 1)).run Try.prog w = .ok b w := by kernel_rfl
theorem i2 (a b c d : Value) (w : World) : (Instr.index 88 (.agg #[a, b, c, d]) (.int .i64 2)).run Try.prog w = .ok c w := by kernel_rfl
theorem i3 (a b c d : Value) (w : World) : (Instr.index 88 (.agg #[a, b, c, d]) (.int .i64 3)).run Try.prog w = .ok d w := by kernel_rfl

set_option maxRecDepth 100000 in
set_option maxHeartbeats 1000000 in
theorem quadOf_any (n : Nat) (w : World) : Calls Try.prog 38 #[.int .i64 n] w fun e w' => e = .returned (.agg #[.int .u8 (n / 16777216 % 256 : Nat), .int .u8 (n / 65536 % 256 : Nat), .int .u8 (n / 256 % 256 : Nat), .int .u8 (n % 256 : Nat)]) ∧ Below w.heap.size w w' := by
  go_enter Try.func38, Try.ntmps38
  go_wp2
  refine bodyPost_ret (by simp [results, Try.results38, go_sem]; try rfl) rfl ?_
  exact ⟨rfl, (Below.refl _ _).alloc (Nat.le_refl _) _⟩

theorem or_word (x y : Int) (h0 : 0 ≤ x) (hx : x < 16777216) (h1 : 0 ≤ y) (hy : y < 256) : bits BinOp.or IntKind.i64 (x * 256) y = x * 256 + y :=
  bits_join .i64 62 (by decide) (fun n h0 h1 => by simp [IntKind.wrap, IntKind.bits, IntKind.signed]; omega) 8 (x * 256) y (by omega) (by omega) (by omega) h1 (by omega) (by omega)

set_option maxRecDepth 100000 in
set_option maxHeartbeats 1000000 in
theorem word_any (a b c d : Nat) (ha : a < 256) (hb : b < 256) (hc : c < 256) (hd : d < 256) (w : World) : Calls Try.prog 40 #[.agg #[.int .u8 a, .int .u8 b, .int .u8 c, .int .u8 d]] w fun e w' => e = .returned (.int .i64 (W4 a b c d : Nat)) ∧ Below w.heap.size w w' := by
  have j0 := i0 (.int .u8 a) (.int .u8 b) (.int .u8 c) (.int .u8 d)
  have j1 := i1 (.int .u8 a) (.int .u8 b) (.int .u8 c) (.int .u8 d)
  have j2 := i2 (.int .u8 a) (.int .u8 b) (.int .u8 c) (.int .u8 d)
  have j3 := i3 (.int .u8 a) (.int .u8 b) (.int .u8 c) (.int .u8 d)
  have o0 : bits BinOp.or IntKind.i64 0 (a : Int) = a := by simpa using or_word 0 a (by omega) (by omega) (by omega) (by omega)
  have o1 := or_word a b (by omega) (by omega) (by omega) (by omega)
  have o2 := or_word (a * 256 + b) c (by omega) (by omega) (by omega) (by omega)
  have o3 := or_word ((a * 256 + b) * 256 + c) d (by omega) (by omega) (by omega) (by omega)
  go_enter Try.func40, Try.ntmps40
  go_wp2
  refine wp_loop_rounds 5 ?_
  rw [rounds_succ]
  go_wp2
  rw [rounds_succ]
  go_wp2
  rw [rounds_succ]
  go_wp2
  rw [rounds_succ]
  go_wp2
  rw [rounds_succ]
  go_wp2
  go_ret
  exact ⟨by unfold W4; simp, (Below.refl _ _).alloc (Nat.le_refl _) _⟩

end Go.Proofs.Ytnfdjbaafiifnaa
