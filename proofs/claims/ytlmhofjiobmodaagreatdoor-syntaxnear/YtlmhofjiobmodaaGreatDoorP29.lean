/-
  mask by its contract: the bytes of a mask, and where they lie. Condition: a number of bits is 0 to 32.
-/
import Derived.Test.YtlmhofjiobmodaaGreatDoorP24
set_option maxRecDepth 100000
set_option maxHeartbeats 16000000
namespace Go.Proofs.YtlmhofjiobmodaaGreatDoor
open Go.RowKit Go.Lib
theorem qpx (k:Nat) (hk:k≤32) (w:World):Calls Tryz.prog 208 #[.int .i64 k] w fun e w'=>e=.returned (.agg #[.int .u8 (mk k 0:Nat),.int .u8 (mk k 1:Nat),.int .u8 (mk k 2:Nat),.int .u8 (mk k 3:Nat)])∧w'=(w.alloc (.cells #[.int .u8 (mk k 0:Nat),.int .u8 (mk k 1:Nat),.int .u8 (mk k 2:Nat),.int .u8 (mk k 3:Nat)] 193)).alloc (.cells #[.int .u8 (mk k 0:Nat),.int .u8 (mk k 1:Nat),.int .u8 (mk k 2:Nat),.int .u8 (mk k 3:Nat)] 193):=by
 rcases k with _|_|_|_|_|_|_|_|_|_|_|_|_|_|_|_|_|_|_|_|_|_|_|_|_|_|_|_|_|_|_|_|_|k
 all_goals first|(exfalso;omega)|skip
 all_goals
  clear hk
  try simp only[Nat.zero_add,Nat.reduceAdd]
  go_enter Tryz.func208,Tryz.ntmps208;go_wp2;refine wp_loop_rounds 5 ?_;rw[rounds_succ];go_wp2;rw[rounds_succ];go_wp2;rw[rounds_succ];go_wp2;rw[rounds_succ];go_wp2;rw[rounds_succ];go_wp2;refine bodyPost_ret (by simp[results,Tryz.results208,go_sem];try rfl) rfl ?_;exact⟨rfl,rfl⟩
end Go.Proofs.YtlmhofjiobmodaaGreatDoor

