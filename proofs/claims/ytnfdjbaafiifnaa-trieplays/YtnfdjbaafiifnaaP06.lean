/-
  mask by its contract: the bytes of a mask, and where they lie. Condition: a number of bits is 0 to 32.
-/
import Derived.Test.YtnfdjbaafiifnaaP03
namespace Go.Proofs.Ytnfdjbaafiifnaa
open Go.RowKit Go.Lib
set_option maxRecDepth 100000 in
set_option maxHeartbeats 16000000 in
theorem mask_any (k : Nat) (hk : k ≤ 32) (w : World) : Calls Try.prog 61 #[.int .i64 k] w fun e w' => e = .returned (.agg #[.int .u8 (mk k 0 : Nat), .int .u8 (mk k 1 : Nat), .int .u8 (mk k 2 : Nat), .int .u8 (mk k 3 : Nat)]) ∧ w' = (w.alloc (.cells #[.int .u8 (mk k 0 : Nat), .int .u8 (mk k 1 : Nat), .int .u8 (mk k 2 : Nat), .int .u8 (mk k 3 : Nat)] 88)).alloc (.cells #[.int .u8 (mk k 0 : Nat), .int .u8 (mk k 1 : Nat), .int .u8 (mk k 2 : Nat), .int .u8 (mk k 3 : Nat)] 88) := by
  rcases k with _ | _ | _ | _ | _ | _ | _ | _ | _ | _ | _ | _ | _ | _ | _ | _ | _ | _ | _ | _ | _ | _ | _ | _ | _ | _ | _ | _ | _ | _ | _ | _ | _ | k
  all_goals first | (exfalso; omega) | skip
  all_goals
    clear hk
    try simp only [Nat.zero_add, Nat.reduceAdd]
    go_enter Try.func61, Try.ntmps61
    go_wp2
    refine wp_loop_rounds 5 ?_
    rw [rounds_succ]
    go_wp2
    rw [rounds_succ]
    go_wp2
    rw [rounds_succ]
    go_wp2
    rw [rounds_succ]
    go_wp2
    rw [rounds_succ]
    go_wp2
    refine bodyPost_ret (by simp [results, Try.results61, go_sem]; try rfl) rfl ?_
    exact ⟨rfl, rfl⟩
end Go.Proofs.Ytnfdjbaafiifnaa
