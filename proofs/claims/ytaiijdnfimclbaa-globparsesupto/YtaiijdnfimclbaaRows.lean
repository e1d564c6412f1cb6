/-
  No cell of these rows narrows 'for every input' (looked for: loops, veiled, ifaces, maps, wideKeys, modest, calm, conditions, laid).
  DERIVED. THE GIVEN ROWS OF THIS SEAT. 6 by the template 'for every input the law returns true; each argument reads behind the call as it read before'; 0 by the template 'total and deterministic' (their statements: YtaiijdnfimclbaaTotals.lean).
  GIVEN WITH THE SEED: the statements are not yours to turn. If you find one false, say at which input.
  Laid BY PROGRAM, IN A SANDBOX (cutbox-rows.mjs): the forced cells as the released guide's own fill.sh prints them over the translation 50e4db5ee28c86bd… (all of the seat's roots in one cut). By AI agents, Wed Nov 11 2026. No macro, syntax, notation, axiom, sorry.
-/
import Derived.Test.YtaiijdnfimclbaaChecked
import GoSem.Claim
import GoSem.ClaimJoined
import GoSem.ClaimMapViews
import Derived.JoinedTies
import Derived.KernelRfl
namespace Go.Proofs.Ytaiijdnfimclbaa
/- THE CELL 'sum', in the pinned program and in every row, IS THE sha256 OF THE DUMP (.gsa) THAT YtaiijdnfimclbaaProg.lean LOADS. Nothing in Lean hashes anything: it is a label: what it is worth is what the hold of that sum in a sandbox is worth. -/
noncomputable def Try.pinned : Pinned := { name := "ytaiijdnfimclbaa", sum := "50e4db5ee28c86bd94cc0b74dd1abf4cd901aa04198155b13df7dd90f9145568", checked := Try.checked }
namespace Rows
def none {H : Type} : Left H := { results := [], args := [] }

/-- 'lychgatelaw05.GlobParses': WHATEVER THE INPUT: true; the input reads as it did. -/
def globParsesSpec : ChangeSpec := { name := "globParses", fn := fun _ => fun
  | [d1, d2] => { results := [.lit (.bool true)], args := [d1, d2] }
  | _ => none }
def globParsesRow : OpenClaim := { program := "ytaiijdnfimclbaa", sum := "50e4db5ee28c86bd94cc0b74dd1abf4cd901aa04198155b13df7dd90f9145568", func := "lychgate/lychgatelaw05.GlobParses", spec := "globParses", inPlace := ["internal/bytealg.IndexByteString", "internal/abi.NoEscape"], unfollowed := true, recurses := true, apart := false }
def GlobParsesSaid : Prop := globParsesRow.holds Try.pinned (OpenSpec.ofChange globParsesSpec)

/-- ITS FALSE NEIGHBOUR: 'it returns false'. Refute it at one input. -/
def globParsesWrong : ChangeSpec := { name := "globParses", fn := fun _ => fun
  | [d1, d2] => { results := [.lit (.bool false)], args := [d1, d2] }
  | _ => none }
def GlobParsesWrongFalsely : Prop := globParsesRow.holds Try.pinned (OpenSpec.ofChange globParsesWrong)

/-- 'lychgatelaw05.GlobPrints': WHATEVER THE INPUT: true; the input reads as it did. -/
def globPrintsSpec : ChangeSpec := { name := "globPrints", fn := fun _ => fun
  | [d1, d2] => { results := [.lit (.bool true)], args := [d1, d2] }
  | _ => none }
def globPrintsRow : OpenClaim := { program := "ytaiijdnfimclbaa", sum := "50e4db5ee28c86bd94cc0b74dd1abf4cd901aa04198155b13df7dd90f9145568", func := "lychgate/lychgatelaw05.GlobPrints", spec := "globPrints", inPlace := ["internal/bytealg.IndexByteString", "internal/abi.NoEscape"], unfollowed := true, recurses := true, apart := false }
def GlobPrintsSaid : Prop := globPrintsRow.holds Try.pinned (OpenSpec.ofChange globPrintsSpec)

/-- ITS FALSE NEIGHBOUR: 'it returns false'. Refute it at one input. -/
def globPrintsWrong : ChangeSpec := { name := "globPrints", fn := fun _ => fun
  | [d1, d2] => { results := [.lit (.bool false)], args := [d1, d2] }
  | _ => none }
def GlobPrintsWrongFalsely : Prop := globPrintsRow.holds Try.pinned (OpenSpec.ofChange globPrintsWrong)

/-- 'lychgatelaw05.GlobMatches': WHATEVER THE INPUT: true; the input reads as it did. -/
def globMatchesSpec : ChangeSpec := { name := "globMatches", fn := fun _ => fun
  | [d1, d2] => { results := [.lit (.bool true)], args := [d1, d2] }
  | _ => none }
def globMatchesRow : OpenClaim := { program := "ytaiijdnfimclbaa", sum := "50e4db5ee28c86bd94cc0b74dd1abf4cd901aa04198155b13df7dd90f9145568", func := "lychgate/lychgatelaw05.GlobMatches", spec := "globMatches", inPlace := ["internal/bytealg.IndexByteString", "internal/abi.NoEscape"], unfollowed := true, recurses := true, apart := false }
def GlobMatchesSaid : Prop := globMatchesRow.holds Try.pinned (OpenSpec.ofChange globMatchesSpec)

/-- ITS FALSE NEIGHBOUR: 'it returns false'. Refute it at one input. -/
def globMatchesWrong : ChangeSpec := { name := "globMatches", fn := fun _ => fun
  | [d1, d2] => { results := [.lit (.bool false)], args := [d1, d2] }
  | _ => none }
def GlobMatchesWrongFalsely : Prop := globMatchesRow.holds Try.pinned (OpenSpec.ofChange globMatchesWrong)

/-- 'lychgatelaw05.GlobBack': WHATEVER THE INPUT: true; the input reads as it did. -/
def globBackSpec : ChangeSpec := { name := "globBack", fn := fun _ => fun
  | [d1, d2, d3] => { results := [.lit (.bool true)], args := [d1, d2, d3] }
  | _ => none }
def globBackRow : OpenClaim := { program := "ytaiijdnfimclbaa", sum := "50e4db5ee28c86bd94cc0b74dd1abf4cd901aa04198155b13df7dd90f9145568", func := "lychgate/lychgatelaw05.GlobBack", spec := "globBack", inPlace := ["internal/bytealg.IndexByteString", "internal/abi.NoEscape"], unfollowed := true, recurses := true, apart := false }
def GlobBackSaid : Prop := globBackRow.holds Try.pinned (OpenSpec.ofChange globBackSpec)

/-- ITS FALSE NEIGHBOUR: 'it returns false'. Refute it at one input. -/
def globBackWrong : ChangeSpec := { name := "globBack", fn := fun _ => fun
  | [d1, d2, d3] => { results := [.lit (.bool false)], args := [d1, d2, d3] }
  | _ => none }
def GlobBackWrongFalsely : Prop := globBackRow.holds Try.pinned (OpenSpec.ofChange globBackWrong)

/-- 'lychgatelaw05.GlobParts': WHATEVER THE INPUT: true; the input reads as it did. -/
def globPartsSpec : ChangeSpec := { name := "globParts", fn := fun _ => fun
  | [d1, d2, d3] => { results := [.lit (.bool true)], args := [d1, d2, d3] }
  | _ => none }
def globPartsRow : OpenClaim := { program := "ytaiijdnfimclbaa", sum := "50e4db5ee28c86bd94cc0b74dd1abf4cd901aa04198155b13df7dd90f9145568", func := "lychgate/lychgatelaw05.GlobParts", spec := "globParts", inPlace := ["internal/bytealg.IndexByteString", "internal/abi.NoEscape"], unfollowed := true, recurses := true, apart := false }
def GlobPartsSaid : Prop := globPartsRow.holds Try.pinned (OpenSpec.ofChange globPartsSpec)

/-- ITS FALSE NEIGHBOUR: 'it returns false'. Refute it at one input. -/
def globPartsWrong : ChangeSpec := { name := "globParts", fn := fun _ => fun
  | [d1, d2, d3] => { results := [.lit (.bool false)], args := [d1, d2, d3] }
  | _ => none }
def GlobPartsWrongFalsely : Prop := globPartsRow.holds Try.pinned (OpenSpec.ofChange globPartsWrong)

/-- 'lychgatelaw05.GlobOnes': WHATEVER THE INPUT: true; the input reads as it did. -/
def globOnesSpec : ChangeSpec := { name := "globOnes", fn := fun _ => fun
  | [d1, d2, d3] => { results := [.lit (.bool true)], args := [d1, d2, d3] }
  | _ => none }
def globOnesRow : OpenClaim := { program := "ytaiijdnfimclbaa", sum := "50e4db5ee28c86bd94cc0b74dd1abf4cd901aa04198155b13df7dd90f9145568", func := "lychgate/lychgatelaw05.GlobOnes", spec := "globOnes", inPlace := ["internal/bytealg.IndexByteString", "internal/abi.NoEscape"], unfollowed := true, recurses := true, apart := false }
def GlobOnesSaid : Prop := globOnesRow.holds Try.pinned (OpenSpec.ofChange globOnesSpec)

/-- ITS FALSE NEIGHBOUR: 'it returns false'. Refute it at one input. -/
def globOnesWrong : ChangeSpec := { name := "globOnes", fn := fun _ => fun
  | [d1, d2, d3] => { results := [.lit (.bool false)], args := [d1, d2, d3] }
  | _ => none }
def GlobOnesWrongFalsely : Prop := globOnesRow.holds Try.pinned (OpenSpec.ofChange globOnesWrong)

/- THE SECOND FORM. 'bulk': how many values and letters a reading holds, each counted each time it is reached (what is shared counts as often as it is met; a slice's spare places count too). A statement '..UptoSaid' is the law's where the arguments, and the package variables that the reading takes, are together of bulk at most 1048576: NARROWER than '..Said'. Prove '..Said' where nothing that the law and all that it calls make is longer than what came in: it says more and counts as full. Else prove '..UptoSaid'. A law counts once. -/
mutual
def uptoBulk {H : Type} : DataW H → Nat
  | .lit (.string bytes) => bytes.length + 1
  | .lit _ => 1
  | .nil => 1
  | .ptr d => uptoBulk d + 1
  | .slice elems spare => uptoBulkAll elems + uptoBulkAll spare + 1
  | .agg parts => uptoBulkAll parts + 1
  | .iface _ d => uptoBulk d + 1
  | .map entries => uptoBulkEntries entries + 1
  | .held _ => 1
def uptoBulkAll {H : Type} : List (DataW H) → Nat
  | [] => 0
  | d :: r => uptoBulk d + uptoBulkAll r
def uptoBulkEntries {H : Type} : List (Lit × DataW H) → Nat
  | [] => 0
  | x :: r => uptoBulkEntry x + uptoBulkEntries r
def uptoBulkEntry {H : Type} : Lit × DataW H → Nat
  | (.string bytes, d) => bytes.length + uptoBulk d + 1
  | (_, d) => uptoBulk d + 1
 end
def uptoSmall : (H : Type) → List (DataW H) → Bool := fun _ ds => decide (uptoBulkAll ds ≤ 1048576)
def OpenSpec.upto (s : _root_.Go.ChangeSpec) : _root_.Go.OpenSpec := { _root_.Go.OpenSpec.ofChange s with cond := some uptoSmall }

/-- 'lychgatelaw05.GlobParses', WHERE WHAT IT READS IS OF BULK AT MOST 1048576: true; the input reads as it did. -/
def globParsesUptoRow : OpenClaim := { program := "ytaiijdnfimclbaa", sum := "50e4db5ee28c86bd94cc0b74dd1abf4cd901aa04198155b13df7dd90f9145568", func := "lychgate/lychgatelaw05.GlobParses", spec := "globParses", inPlace := ["internal/bytealg.IndexByteString", "internal/abi.NoEscape"], unfollowed := true, recurses := true, apart := false, narrowed := true }
def GlobParsesUptoSaid : Prop := globParsesUptoRow.holds Try.pinned (OpenSpec.upto globParsesSpec)

/-- 'lychgatelaw05.GlobPrints', WHERE WHAT IT READS IS OF BULK AT MOST 1048576: true; the input reads as it did. -/
def globPrintsUptoRow : OpenClaim := { program := "ytaiijdnfimclbaa", sum := "50e4db5ee28c86bd94cc0b74dd1abf4cd901aa04198155b13df7dd90f9145568", func := "lychgate/lychgatelaw05.GlobPrints", spec := "globPrints", inPlace := ["internal/bytealg.IndexByteString", "internal/abi.NoEscape"], unfollowed := true, recurses := true, apart := false, narrowed := true }
def GlobPrintsUptoSaid : Prop := globPrintsUptoRow.holds Try.pinned (OpenSpec.upto globPrintsSpec)

/-- 'lychgatelaw05.GlobMatches', WHERE WHAT IT READS IS OF BULK AT MOST 1048576: true; the input reads as it did. -/
def globMatchesUptoRow : OpenClaim := { program := "ytaiijdnfimclbaa", sum := "50e4db5ee28c86bd94cc0b74dd1abf4cd901aa04198155b13df7dd90f9145568", func := "lychgate/lychgatelaw05.GlobMatches", spec := "globMatches", inPlace := ["internal/bytealg.IndexByteString", "internal/abi.NoEscape"], unfollowed := true, recurses := true, apart := false, narrowed := true }
def GlobMatchesUptoSaid : Prop := globMatchesUptoRow.holds Try.pinned (OpenSpec.upto globMatchesSpec)

/-- 'lychgatelaw05.GlobBack', WHERE WHAT IT READS IS OF BULK AT MOST 1048576: true; the input reads as it did. -/
def globBackUptoRow : OpenClaim := { program := "ytaiijdnfimclbaa", sum := "50e4db5ee28c86bd94cc0b74dd1abf4cd901aa04198155b13df7dd90f9145568", func := "lychgate/lychgatelaw05.GlobBack", spec := "globBack", inPlace := ["internal/bytealg.IndexByteString", "internal/abi.NoEscape"], unfollowed := true, recurses := true, apart := false, narrowed := true }
def GlobBackUptoSaid : Prop := globBackUptoRow.holds Try.pinned (OpenSpec.upto globBackSpec)

/-- 'lychgatelaw05.GlobParts', WHERE WHAT IT READS IS OF BULK AT MOST 1048576: true; the input reads as it did. -/
def globPartsUptoRow : OpenClaim := { program := "ytaiijdnfimclbaa", sum := "50e4db5ee28c86bd94cc0b74dd1abf4cd901aa04198155b13df7dd90f9145568", func := "lychgate/lychgatelaw05.GlobParts", spec := "globParts", inPlace := ["internal/bytealg.IndexByteString", "internal/abi.NoEscape"], unfollowed := true, recurses := true, apart := false, narrowed := true }
def GlobPartsUptoSaid : Prop := globPartsUptoRow.holds Try.pinned (OpenSpec.upto globPartsSpec)

/-- 'lychgatelaw05.GlobOnes', WHERE WHAT IT READS IS OF BULK AT MOST 1048576: true; the input reads as it did. -/
def globOnesUptoRow : OpenClaim := { program := "ytaiijdnfimclbaa", sum := "50e4db5ee28c86bd94cc0b74dd1abf4cd901aa04198155b13df7dd90f9145568", func := "lychgate/lychgatelaw05.GlobOnes", spec := "globOnes", inPlace := ["internal/bytealg.IndexByteString", "internal/abi.NoEscape"], unfollowed := true, recurses := true, apart := false, narrowed := true }
def GlobOnesUptoSaid : Prop := globOnesUptoRow.holds Try.pinned (OpenSpec.upto globOnesSpec)

end Rows
end Go.Proofs.Ytaiijdnfimclbaa
