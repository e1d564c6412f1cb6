/-
  last, leads by their contracts, the mask settled; isWord, right. Condition: a number of bits is 0 to 32.
-/
import Derived.Test.YtlmhofjiobmodaaGreatDoorQ35
import Derived.Test.YtlmhofjiobmodaaGreatDoorQ36
namespace Go.Proofs.YtlmhofjiobmodaaGreatDoor
open Go.RowKit Go.Lib

theorem leads_any (a b c d k : Nat) (ha : a < 256) (hb : b < 256) (hc : c < 256) (hd : d < 256) (hk : k ≤ 32) (w : World) :
    Calls Tryz.prog 162 #[.agg #[.int .u8 a, .int .u8 b, .int .u8 c, .int .u8 d], .int .i64 k] w fun e w' => e = .returned (.bool (decide (W4 a b c d % 2 ^ (32 - k) = 0))) ∧ Below w.heap.size w w' :=
  leads_of a b c d k ha hb hc hd hk w (fun w => mask_any k hk w)
/-- A right prefix. -/
def Pfx (a k : Int) : Prop := 0 ≤ k ∧ k ≤ 32 ∧ 0 ≤ a ∧ a ≤ 4294967295 ∧ a.toNat % 2 ^ (32 - k.toNat) = 0
instance (a k : Int) : Decidable (Pfx a k) := by unfold Pfx; infer_instance
theorem Pfx.nat {a k : Int} (h : Pfx a k) : ∃ n b : Nat, a = n ∧ k = b ∧ b ≤ 32 ∧ n < 4294967296 ∧ n % 2 ^ (32 - b) = 0 := by
  obtain ⟨h1, h2, h3, h4, h5⟩ := h
  exact ⟨a.toNat, k.toNat, by omega, by omega, by omega, by omega, h5⟩

end Go.Proofs.YtlmhofjiobmodaaGreatDoor
