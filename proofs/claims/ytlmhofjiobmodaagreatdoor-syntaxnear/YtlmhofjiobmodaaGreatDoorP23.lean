/-
  Addresses as four bytes: masks, the first and the last address of a prefix, in numbers alone. No condition.
-/
import Derived.Laws.BitsAllLaws
set_option maxRecDepth 100000
set_option maxHeartbeats 16000000
namespace Go.Proofs.YtlmhofjiobmodaaGreatDoor
def W4 (a b c d:Nat):Nat:=((a*256+b)*256+c)*256+d
def mk (k i:Nat):Nat:=255-255/2^min (k-8*i) 8
theorem qps (k i:Nat):mk k i<256:=Nat.lt_of_le_of_lt (Nat.sub_le _ _) (by decide)
theorem qri:∀t,t<9→∀q,q<256→((q&&& (255-255/2^t)=q)↔q%2^(8-t)=0):=by decide+kernel
theorem qkg (k i q:Nat) (hq:q<256):(q&&& mk k i=q)↔q%2^(8-min (k-8*i) 8)=0:=qri _ (by omega) q hq
theorem qnj (a b c d k:Nat) (ha:a<256) (hb:b<256) (hc:c<256) (hd:d<256) (hk:k≤32):
 (a&&& mk k 0=a∧b&&& mk k 1=b∧c&&& mk k 2=c∧d&&& mk k 3=d)↔W4 a b c d%2^(32-k)=0:=by
 rw[qkg k 0 a ha,qkg k 1 b hb,qkg k 2 c hc,qkg k 3 d hd];unfold W4;rcases k with _|_|_|_|_|_|_|_|_|_|_|_|_|_|_|_|_|_|_|_|_|_|_|_|_|_|_|_|_|_|_|_|_|k
 all_goals first|(simp only[Nat.zero_add,Nat.reduceAdd,Nat.reduceMul,Nat.reduceSub,Nat.min_def,Nat.reduceLeDiff,↓reduceIte,Nat.reducePow,Nat.sub_self,Nat.zero_sub,Nat.sub_zero];omega)|omega
theorem qtv (a b c d:Nat) (ha:a<256) (hb:b<256) (hc:c<256) (hd:d<256):W4 a b c d<4294967296:=by unfold W4;omega
end Go.Proofs.YtlmhofjiobmodaaGreatDoor

