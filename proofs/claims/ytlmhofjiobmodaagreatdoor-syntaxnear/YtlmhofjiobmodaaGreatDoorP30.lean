/-
  last, leads by their contracts, the mask settled; isWord, right. Condition: a number of bits is 0 to 32.
-/
import Derived.Test.YtlmhofjiobmodaaGreatDoorP28
import Derived.Test.YtlmhofjiobmodaaGreatDoorP29
namespace Go.Proofs.YtlmhofjiobmodaaGreatDoor
open Go.RowKit Go.Lib
theorem qf0 (a b c d k:Nat) (ha:a<256) (hb:b<256) (hc:c<256) (hd:d<256) (hk:k≤32) (w:World):
 Calls Tryz.prog 162 #[.agg #[.int .u8 a,.int .u8 b,.int .u8 c,.int .u8 d],.int .i64 k] w fun e w'=>e=.returned (.bool (decide (W4 a b c d%2^(32-k)=0)))∧Below w.heap.size w w':=
 qpw a b c d k ha hb hc hd hk w (fun w=>qpx k hk w)
def Pfx (a k:Int):Prop:=0≤k∧k≤32∧0≤a∧a≤4294967295∧a.toNat%2^(32-k.toNat)=0
instance (a k:Int):Decidable (Pfx a k):=by unfold Pfx;infer_instance
end Go.Proofs.YtlmhofjiobmodaaGreatDoor

