/-
  quadOf, word, mask, first, last, leads by their contracts. Condition: a number of bits is 0 to 32.
-/
import Derived.WalkKit
import Derived.WalkLawsBesides
import Derived.Below
import Derived.OneCell
import Derived.Deep.QuietTactic
import Derived.BigQuiet
import Derived.Test.YtlmhofjiobmodaaGreatDoorP01
import Derived.Test.YtlmhofjiobmodaaGreatDoorP23
set_option maxRecDepth 100000
set_option maxHeartbeats 16000000
namespace Go.Proofs.YtlmhofjiobmodaaGreatDoor
open Go.RowKit Go.Lib
theorem i0 (a b c d:Value) (w:World):(Instr.index 193 (.agg #[a,b,c,d]) (.int .i64 0)).run Tryz.prog w=.ok a w:=by kernel_rfl
theorem i1 (a b c d:Value) (w:World):(Instr.index 193 (.agg #[a,b,c,d]) (.int .i64 1)).run Tryz.prog w=.ok b w:=by kernel_rfl
theorem i2 (a b c d:Value) (w:World):(Instr.index 193 (.agg #[a,b,c,d]) (.int .i64 2)).run Tryz.prog w=.ok c w:=by kernel_rfl
theorem i3 (a b c d:Value) (w:World):(Instr.index 193 (.agg #[a,b,c,d]) (.int .i64 3)).run Tryz.prog w=.ok d w:=by kernel_rfl
theorem qhh (x y:Int) (h0:0≤x) (hx:x<16777216) (h1:0≤y) (hy:y<256):bits BinOp.or IntKind.i64 (x*256) y=x*256+y:=
 bits_join .i64 62 (by decide) (fun n h0 h1=>by simp[IntKind.wrap,IntKind.bits,IntKind.signed];omega) 8 (x*256) y (by omega) (by omega) (by omega) h1 (by omega) (by omega)
theorem qkh (a b c d:Nat) (ha:a<256) (hb:b<256) (hc:c<256) (hd:d<256) (w:World):Calls Tryz.prog 163 #[.agg #[.int .u8 a,.int .u8 b,.int .u8 c,.int .u8 d]] w fun e w'=>e=.returned (.int .i64 (W4 a b c d:Nat))∧Below w.heap.size w w':=by
 have j0:=i0 (.int .u8 a) (.int .u8 b) (.int .u8 c) (.int .u8 d);have j1:=i1 (.int .u8 a) (.int .u8 b) (.int .u8 c) (.int .u8 d);have j2:=i2 (.int .u8 a) (.int .u8 b) (.int .u8 c) (.int .u8 d);have j3:=i3 (.int .u8 a) (.int .u8 b) (.int .u8 c) (.int .u8 d);have o0:bits BinOp.or IntKind.i64 0 (a:Int)=a:=by simpa using qhh 0 a (by omega) (by omega) (by omega) (by omega)
 have o1:=qhh a b (by omega) (by omega) (by omega) (by omega);have o2:=qhh (a*256+b) c (by omega) (by omega) (by omega) (by omega);have o3:=qhh ((a*256+b)*256+c) d (by omega) (by omega) (by omega) (by omega);go_enter Tryz.func163,Tryz.ntmps163;go_wp2;refine wp_loop_rounds 5 ?_;rw[rounds_succ];go_wp2;rw[rounds_succ];go_wp2;rw[rounds_succ];go_wp2;rw[rounds_succ];go_wp2;rw[rounds_succ];go_wp2;go_ret;exact⟨by unfold W4;simp,(Below.refl _ _).alloc (Nat.le_refl _) _⟩
end Go.Proofs.YtlmhofjiobmodaaGreatDoor

