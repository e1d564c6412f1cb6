/-
  No cell of these rows narrows 'for every input' (looked for: loops, veiled, ifaces, maps, wideKeys, modest, calm, conditions, laid).
  DERIVED. THE GIVEN ROWS OF THIS SEAT. 3 by the template 'for every input the law returns true; each argument reads behind the call as it read before'; 0 by the template 'total and deterministic' (their statements: YtnddhkhmbjeefaaTotals.lean).
  GIVEN WITH THE SEED: the statements are not yours to turn. If you find one false, say at which input.
  Laid BY PROGRAM, IN A SANDBOX (cutbox-rows.mjs): the forced cells as the released guide's own fill.sh prints them over the translation 4f92fdfd5bbb066c… (all of the seat's roots in one cut). By AI agents, Wed Nov 11 2026. No macro, syntax, notation, axiom, sorry.
-/
import Derived.Test.YtnddhkhmbjeefaaChecked
import GoSem.Claim
import GoSem.ClaimJoined
import GoSem.ClaimMapViews
import Derived.JoinedTies
import Derived.KernelRfl
namespace Go.Proofs.Ytnddhkhmbjeefaa
/- THE CELL 'sum', in the pinned program and in every row, IS THE sha256 OF THE DUMP (.gsa) THAT YtnddhkhmbjeefaaProg.lean LOADS. Nothing in Lean hashes anything: it is a label: what it is worth is what the hold of that sum in a sandbox is worth. -/
noncomputable def Try.pinned : Pinned := { name := "ytnddhkhmbjeefaa", sum := "4f92fdfd5bbb066cac451bf5e08e6b21a2390383f0d50fc16d7e497a3fa5c838", checked := Try.checked }
namespace Rows
def none {H : Type} : Left H := { results := [], args := [] }

/-- 'lychgatelaw16.OrderRebuilds': WHATEVER THE INPUT: true; the input reads as it did. -/
def orderRebuildsSpec : ChangeSpec := { name := "orderRebuilds", fn := fun _ => fun
  | [d1, d2, d3, d4, d5] => { results := [.lit (.bool true)], args := [d1, d2, d3, d4, d5] }
  | _ => none }
def orderRebuildsRow : OpenClaim := { program := "ytnddhkhmbjeefaa", sum := "4f92fdfd5bbb066cac451bf5e08e6b21a2390383f0d50fc16d7e497a3fa5c838", func := "lychgate/lychgatelaw16.OrderRebuilds", spec := "orderRebuilds", unfollowed := true, recurses := true, apart := false }
def OrderRebuildsSaid : Prop := orderRebuildsRow.holds Try.pinned (OpenSpec.ofChange orderRebuildsSpec)

/-- ITS FALSE NEIGHBOUR: 'it returns false'. Refute it at one input. -/
def orderRebuildsWrong : ChangeSpec := { name := "orderRebuilds", fn := fun _ => fun
  | [d1, d2, d3, d4, d5] => { results := [.lit (.bool false)], args := [d1, d2, d3, d4, d5] }
  | _ => none }
def OrderRebuildsWrongFalsely : Prop := orderRebuildsRow.holds Try.pinned (OpenSpec.ofChange orderRebuildsWrong)

/-- 'lychgatelaw16.OrderBests': WHATEVER THE INPUT: true; the input reads as it did. -/
def orderBestsSpec : ChangeSpec := { name := "orderBests", fn := fun _ => fun
  | [d1, d2, d3] => { results := [.lit (.bool true)], args := [d1, d2, d3] }
  | _ => none }
def orderBestsRow : OpenClaim := { program := "ytnddhkhmbjeefaa", sum := "4f92fdfd5bbb066cac451bf5e08e6b21a2390383f0d50fc16d7e497a3fa5c838", func := "lychgate/lychgatelaw16.OrderBests", spec := "orderBests", unfollowed := true, recurses := true, apart := false }
def OrderBestsSaid : Prop := orderBestsRow.holds Try.pinned (OpenSpec.ofChange orderBestsSpec)

/-- ITS FALSE NEIGHBOUR: 'it returns false'. Refute it at one input. -/
def orderBestsWrong : ChangeSpec := { name := "orderBests", fn := fun _ => fun
  | [d1, d2, d3] => { results := [.lit (.bool false)], args := [d1, d2, d3] }
  | _ => none }
def OrderBestsWrongFalsely : Prop := orderBestsRow.holds Try.pinned (OpenSpec.ofChange orderBestsWrong)

/-- 'lychgatelaw16.OrderSays': WHATEVER THE INPUT: true; the input reads as it did. -/
def orderSaysSpec : ChangeSpec := { name := "orderSays", fn := fun _ => fun
  | [d1, d2, d3] => { results := [.lit (.bool true)], args := [d1, d2, d3] }
  | _ => none }
def orderSaysRow : OpenClaim := { program := "ytnddhkhmbjeefaa", sum := "4f92fdfd5bbb066cac451bf5e08e6b21a2390383f0d50fc16d7e497a3fa5c838", func := "lychgate/lychgatelaw16.OrderSays", spec := "orderSays", unfollowed := true, recurses := true, apart := false }
def OrderSaysSaid : Prop := orderSaysRow.holds Try.pinned (OpenSpec.ofChange orderSaysSpec)

/-- ITS FALSE NEIGHBOUR: 'it returns false'. Refute it at one input. -/
def orderSaysWrong : ChangeSpec := { name := "orderSays", fn := fun _ => fun
  | [d1, d2, d3] => { results := [.lit (.bool false)], args := [d1, d2, d3] }
  | _ => none }
def OrderSaysWrongFalsely : Prop := orderSaysRow.holds Try.pinned (OpenSpec.ofChange orderSaysWrong)

/- THE SECOND FORM. 'bulk': how many values and letters a reading holds, each counted each time it is reached (what is shared counts as often as it is met; a slice's spare places count too). A statement '..UptoSaid' is the law's where the arguments, and the package variables that the reading takes, are together of bulk at most 1048576: NARROWER than '..Said'. Prove '..Said' where nothing that the law and all that it calls make is longer than what came in: it says more and counts as full. Else prove '..UptoSaid'. A law counts once. -/
mutual
def uptoBulk {H : Type} : DataW H → Nat
  | .lit (.string bytes) => bytes.length + 1
  | .lit _ => 1
  | .nil => 1
  | .ptr d => uptoBulk d + 1
  | .slice elems spare => uptoBulkAll elems + uptoBulkAll spare + 1
  | .agg parts => uptoBulkAll parts + 1
  | .iface _ d => uptoBulk d + 1
  | .map entries => uptoBulkEntries entries + 1
  | .held _ => 1
def uptoBulkAll {H : Type} : List (DataW H) → Nat
  | [] => 0
  | d :: r => uptoBulk d + uptoBulkAll r
def uptoBulkEntries {H : Type} : List (Lit × DataW H) → Nat
  | [] => 0
  | x :: r => uptoBulkEntry x + uptoBulkEntries r
def uptoBulkEntry {H : Type} : Lit × DataW H → Nat
  | (.string bytes, d) => bytes.length + uptoBulk d + 1
  | (_, d) => uptoBulk d + 1
 end
def uptoSmall : (H : Type) → List (DataW H) → Bool := fun _ ds => decide (uptoBulkAll ds ≤ 1048576)
def OpenSpec.upto (s : _root_.Go.ChangeSpec) : _root_.Go.OpenSpec := { _root_.Go.OpenSpec.ofChange s with cond := some uptoSmall }

/-- 'lychgatelaw16.OrderRebuilds', WHERE WHAT IT READS IS OF BULK AT MOST 1048576: true; the input reads as it did. -/
def orderRebuildsUptoRow : OpenClaim := { program := "ytnddhkhmbjeefaa", sum := "4f92fdfd5bbb066cac451bf5e08e6b21a2390383f0d50fc16d7e497a3fa5c838", func := "lychgate/lychgatelaw16.OrderRebuilds", spec := "orderRebuilds", unfollowed := true, recurses := true, apart := false, narrowed := true }
def OrderRebuildsUptoSaid : Prop := orderRebuildsUptoRow.holds Try.pinned (OpenSpec.upto orderRebuildsSpec)

/-- 'lychgatelaw16.OrderBests', WHERE WHAT IT READS IS OF BULK AT MOST 1048576: true; the input reads as it did. -/
def orderBestsUptoRow : OpenClaim := { program := "ytnddhkhmbjeefaa", sum := "4f92fdfd5bbb066cac451bf5e08e6b21a2390383f0d50fc16d7e497a3fa5c838", func := "lychgate/lychgatelaw16.OrderBests", spec := "orderBests", unfollowed := true, recurses := true, apart := false, narrowed := true }
def OrderBestsUptoSaid : Prop := orderBestsUptoRow.holds Try.pinned (OpenSpec.upto orderBestsSpec)

/-- 'lychgatelaw16.OrderSays', WHERE WHAT IT READS IS OF BULK AT MOST 1048576: true; the input reads as it did. -/
def orderSaysUptoRow : OpenClaim := { program := "ytnddhkhmbjeefaa", sum := "4f92fdfd5bbb066cac451bf5e08e6b21a2390383f0d50fc16d7e497a3fa5c838", func := "lychgate/lychgatelaw16.OrderSays", spec := "orderSays", unfollowed := true, recurses := true, apart := false, narrowed := true }
def OrderSaysUptoSaid : Prop := orderSaysUptoRow.holds Try.pinned (OpenSpec.upto orderSaysSpec)

end Rows
end Go.Proofs.Ytnddhkhmbjeefaa
