/-
  The statement's mark, walked.
-/
import Derived.Test.YtljagefcgijmlaaWhole
namespace Go.Proofs.Ytljagefcgijmlaa
open Go.RowKit Go.Lib

def markS (n : Nat) : Spn := (-1 - (n : Int), (n : Int))
set_option maxRecDepth 100000 in
set_option maxHeartbeats 4000000 in
theorem mark_any (n : Nat) (hn : n ≤ 4294967296) (w : World) : Calls Try.prog 46 #[.int .i64 n] w fun e w' => e = .returned (.agg #[.int .i64 (markS n).1, .int .i64 (markS n).2]) ∧ w' = w.alloc (.cells #[.int .i64 (markS n).1, .int .i64 (markS n).2] 46) := by
  go_enter Try.func46, Try.ntmps46
  go_wp2
  refine bodyPost_ret (by simp [results, Try.results46, go_sem]; try rfl) rfl ?_
  exact ⟨rfl, rfl⟩
end Go.Proofs.Ytljagefcgijmlaa
