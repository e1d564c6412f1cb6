/-
  Two addresses, byte by byte: the comparison of arrays. No condition.
-/
import Derived.Test.YtnfdjbaafiifnaaP03
namespace Go.Proofs.Ytnfdjbaafiifnaa
open Go.RowKit Go.Lib
set_option maxRecDepth 100000 in
theorem eq4' (n : Nat) (a b c d a' b' c' d' : Int) (w : World) : Sem.run Try.prog (Op.equalIn (n + 1 + 1) 88 (.agg #[.int .u8 a, .int .u8 b, .int .u8 c, .int .u8 d]) (.agg #[.int .u8 a', .int .u8 b', .int .u8 c', .int .u8 d'])) w = .ok (a == a' && b == b' && c == c' && d == d') w := by
  have h88 := Try.underlying88
  have hs : ∀ w, (sizeOf 5).run Try.prog w = .ok 1 w := fun w => Try.sizeOf5 w
  have hi := fun (x y : Int) (w : World) => run_equalIn_int (P := Try.prog) w n 5 .u8 .u8 x y Try.underlying5
  have p0 : ∀ (x y z u : Value) (w : World), (part 5 #[x, y, z, u] 0).run Try.prog w = .ok x w := fun x y z u w => by kernel_rfl
  have p1 : ∀ (x y z u : Value) (w : World), (part 5 #[x, y, z, u] 1).run Try.prog w = .ok y w := fun x y z u w => by kernel_rfl
  have p2 : ∀ (x y z u : Value) (w : World), (part 5 #[x, y, z, u] 2).run Try.prog w = .ok z w := fun x y z u w => by kernel_rfl
  have p3 : ∀ (x y z u : Value) (w : World), (part 5 #[x, y, z, u] 3).run Try.prog w = .ok u w := fun x y z u w => by kernel_rfl
  rw [Op.equalIn]
  simp only [Sem.run_bind, run_underlying h88, Result.andThen_ok, hs]
  rw [Std.Legacy.Range.forIn_eq_forIn_range']
  cases h0 : (a == a') <;> cases h1 : (b == b') <;> cases h2 : (c == c') <;> cases h3 : (d == d') <;>
    simp [Std.Legacy.Range.size, List.range', List.forIn_cons, Sem.run_bind, p0, p1, p2, p3, hi, h0, h1, h2, h3]
theorem eq4 (a b c d a' b' c' d' : Int) (w : World) : Sem.run Try.prog (Op.equalIn 10000 88 (.agg #[.int .u8 a, .int .u8 b, .int .u8 c, .int .u8 d]) (.agg #[.int .u8 a', .int .u8 b', .int .u8 c', .int .u8 d'])) w = .ok (a == a' && b == b' && c == c' && d == d') w := eq4' 9998 a b c d a' b' c' d' w
end Go.Proofs.Ytnfdjbaafiifnaa
