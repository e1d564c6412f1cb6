/-
  No cell of these rows narrows 'for every input' (looked for: loops, veiled, ifaces, maps, wideKeys, modest, calm, conditions, laid).
  DERIVED. THE GIVEN ROWS OF THIS SEAT. 6 by the template 'for every input the law returns true; each argument reads behind the call as it read before'; 0 by the template 'total and deterministic' (their statements: YtdgoilkgplnhfaaGreatTotals.lean).
  GIVEN WITH THE SEED: the statements are not yours to turn. If you find one false, say at which input.
  Laid BY PROGRAM, IN A SANDBOX (cutbox-rows.mjs): the forced cells as the released guide's own fill.sh prints them over the translation 43c6aa26ade7f0f2… (all of the seat's roots in one cut). By AI agents, Wed Nov 11 2026. No macro, syntax, notation, axiom, sorry.
-/
import Derived.Test.YtdgoilkgplnhfaaGreatChecked
import GoSem.Claim
import GoSem.ClaimJoined
import GoSem.ClaimMapViews
import Derived.JoinedTies
import Derived.KernelRfl
namespace Go.Proofs.YtdgoilkgplnhfaaGreat
/- THE CELL 'sum', in the pinned program and in every row, IS THE sha256 OF THE DUMP (.gsa) THAT YtdgoilkgplnhfaaGreatProg.lean LOADS. Nothing in Lean hashes anything: it is a label: what it is worth is what the hold of that sum in a sandbox is worth. -/
noncomputable def Tryz.pinned : Pinned := { name := "ytdgoilkgplnhfaagreat", sum := "43c6aa26ade7f0f2fcc115f465ca15ed31778164506ad1fd95f4e759a5d38793", checked := Tryz.checked }
namespace Rows
def none {H : Type} : Left H := { results := [], args := [] }

/-- 'lychgatelaw06.AutoLeast': WHATEVER THE INPUT: true; the input reads as it did. -/
def autoLeastSpec : ChangeSpec := { name := "autoLeast", fn := fun _ => fun
  | [d1, d2] => { results := [.lit (.bool true)], args := [d1, d2] }
  | _ => none }
def autoLeastRow : OpenClaim := { program := "ytdgoilkgplnhfaagreat", sum := "43c6aa26ade7f0f2fcc115f465ca15ed31778164506ad1fd95f4e759a5d38793", func := "lychgate/lychgatelaw06.AutoLeast", spec := "autoLeast", inPlace := ["internal/bytealg.IndexByteString"], unfollowed := true, recurses := true, plainKeys := false, apart := false }
def AutoLeastSaid : Prop := autoLeastRow.holds Tryz.pinned (OpenSpec.ofChange autoLeastSpec)

/-- ITS FALSE NEIGHBOUR: 'it returns false'. Refute it at one input. -/
def autoLeastWrong : ChangeSpec := { name := "autoLeast", fn := fun _ => fun
  | [d1, d2] => { results := [.lit (.bool false)], args := [d1, d2] }
  | _ => none }
def AutoLeastWrongFalsely : Prop := autoLeastRow.holds Tryz.pinned (OpenSpec.ofChange autoLeastWrong)

/-- 'lychgatelaw06.AutoOf': WHATEVER THE INPUT: true; the input reads as it did. -/
def autoOfSpec : ChangeSpec := { name := "autoOf", fn := fun _ => fun
  | [d1, d2] => { results := [.lit (.bool true)], args := [d1, d2] }
  | _ => none }
def autoOfRow : OpenClaim := { program := "ytdgoilkgplnhfaagreat", sum := "43c6aa26ade7f0f2fcc115f465ca15ed31778164506ad1fd95f4e759a5d38793", func := "lychgate/lychgatelaw06.AutoOf", spec := "autoOf", inPlace := ["internal/bytealg.IndexByteString"], unfollowed := true, recurses := true, plainKeys := false, apart := false }
def AutoOfSaid : Prop := autoOfRow.holds Tryz.pinned (OpenSpec.ofChange autoOfSpec)

/-- ITS FALSE NEIGHBOUR: 'it returns false'. Refute it at one input. -/
def autoOfWrong : ChangeSpec := { name := "autoOf", fn := fun _ => fun
  | [d1, d2] => { results := [.lit (.bool false)], args := [d1, d2] }
  | _ => none }
def AutoOfWrongFalsely : Prop := autoOfRow.holds Tryz.pinned (OpenSpec.ofChange autoOfWrong)

/-- 'lychgatelaw06.AutoJoins': WHATEVER THE INPUT: true; the input reads as it did. -/
def autoJoinsSpec : ChangeSpec := { name := "autoJoins", fn := fun _ => fun
  | [d1, d2, d3] => { results := [.lit (.bool true)], args := [d1, d2, d3] }
  | _ => none }
def autoJoinsRow : OpenClaim := { program := "ytdgoilkgplnhfaagreat", sum := "43c6aa26ade7f0f2fcc115f465ca15ed31778164506ad1fd95f4e759a5d38793", func := "lychgate/lychgatelaw06.AutoJoins", spec := "autoJoins", inPlace := ["internal/bytealg.IndexByteString"], unfollowed := true, recurses := true, plainKeys := false, apart := false }
def AutoJoinsSaid : Prop := autoJoinsRow.holds Tryz.pinned (OpenSpec.ofChange autoJoinsSpec)

/-- ITS FALSE NEIGHBOUR: 'it returns false'. Refute it at one input. -/
def autoJoinsWrong : ChangeSpec := { name := "autoJoins", fn := fun _ => fun
  | [d1, d2, d3] => { results := [.lit (.bool false)], args := [d1, d2, d3] }
  | _ => none }
def AutoJoinsWrongFalsely : Prop := autoJoinsRow.holds Tryz.pinned (OpenSpec.ofChange autoJoinsWrong)

/-- 'lychgatelaw06.AutoRuns': WHATEVER THE INPUT: true; the input reads as it did. -/
def autoRunsSpec : ChangeSpec := { name := "autoRuns", fn := fun _ => fun
  | [d1, d2, d3] => { results := [.lit (.bool true)], args := [d1, d2, d3] }
  | _ => none }
def autoRunsRow : OpenClaim := { program := "ytdgoilkgplnhfaagreat", sum := "43c6aa26ade7f0f2fcc115f465ca15ed31778164506ad1fd95f4e759a5d38793", func := "lychgate/lychgatelaw06.AutoRuns", spec := "autoRuns", inPlace := ["internal/bytealg.IndexByteString"], unfollowed := true, recurses := true, plainKeys := false, apart := false }
def AutoRunsSaid : Prop := autoRunsRow.holds Tryz.pinned (OpenSpec.ofChange autoRunsSpec)

/-- ITS FALSE NEIGHBOUR: 'it returns false'. Refute it at one input. -/
def autoRunsWrong : ChangeSpec := { name := "autoRuns", fn := fun _ => fun
  | [d1, d2, d3] => { results := [.lit (.bool false)], args := [d1, d2, d3] }
  | _ => none }
def AutoRunsWrongFalsely : Prop := autoRunsRow.holds Tryz.pinned (OpenSpec.ofChange autoRunsWrong)

/-- 'lychgatelaw06.AutoPatterns': WHATEVER THE INPUT: true; the input reads as it did. -/
def autoPatternsSpec : ChangeSpec := { name := "autoPatterns", fn := fun _ => fun
  | [d1, d2, d3] => { results := [.lit (.bool true)], args := [d1, d2, d3] }
  | _ => none }
def autoPatternsRow : OpenClaim := { program := "ytdgoilkgplnhfaagreat", sum := "43c6aa26ade7f0f2fcc115f465ca15ed31778164506ad1fd95f4e759a5d38793", func := "lychgate/lychgatelaw06.AutoPatterns", spec := "autoPatterns", inPlace := ["internal/bytealg.IndexByteString"], unfollowed := true, recurses := true, plainKeys := false, apart := false }
def AutoPatternsSaid : Prop := autoPatternsRow.holds Tryz.pinned (OpenSpec.ofChange autoPatternsSpec)

/-- ITS FALSE NEIGHBOUR: 'it returns false'. Refute it at one input. -/
def autoPatternsWrong : ChangeSpec := { name := "autoPatterns", fn := fun _ => fun
  | [d1, d2, d3] => { results := [.lit (.bool false)], args := [d1, d2, d3] }
  | _ => none }
def AutoPatternsWrongFalsely : Prop := autoPatternsRow.holds Tryz.pinned (OpenSpec.ofChange autoPatternsWrong)

/-- 'lychgatelaw06.AutoShort': WHATEVER THE INPUT: true; the input reads as it did. -/
def autoShortSpec : ChangeSpec := { name := "autoShort", fn := fun _ => fun
  | [d1, d2, d3] => { results := [.lit (.bool true)], args := [d1, d2, d3] }
  | _ => none }
def autoShortRow : OpenClaim := { program := "ytdgoilkgplnhfaagreat", sum := "43c6aa26ade7f0f2fcc115f465ca15ed31778164506ad1fd95f4e759a5d38793", func := "lychgate/lychgatelaw06.AutoShort", spec := "autoShort", inPlace := ["internal/bytealg.IndexByteString"], unfollowed := true, recurses := true, plainKeys := false, apart := false }
def AutoShortSaid : Prop := autoShortRow.holds Tryz.pinned (OpenSpec.ofChange autoShortSpec)

/-- ITS FALSE NEIGHBOUR: 'it returns false'. Refute it at one input. -/
def autoShortWrong : ChangeSpec := { name := "autoShort", fn := fun _ => fun
  | [d1, d2, d3] => { results := [.lit (.bool false)], args := [d1, d2, d3] }
  | _ => none }
def AutoShortWrongFalsely : Prop := autoShortRow.holds Tryz.pinned (OpenSpec.ofChange autoShortWrong)

/- THE SECOND FORM. 'bulk': how many values and letters a reading holds, each counted each time it is reached (what is shared counts as often as it is met; a slice's spare places count too). A statement '..UptoSaid' is the law's where the arguments, and the package variables that the reading takes, are together of bulk at most 1048576: NARROWER than '..Said'. Prove '..Said' where nothing that the law and all that it calls make is longer than what came in: it says more and counts as full. Else prove '..UptoSaid'. A law counts once. -/
mutual
def uptoBulk {H : Type} : DataW H → Nat
  | .lit (.string bytes) => bytes.length + 1
  | .lit _ => 1
  | .nil => 1
  | .ptr d => uptoBulk d + 1
  | .slice elems spare => uptoBulkAll elems + uptoBulkAll spare + 1
  | .agg parts => uptoBulkAll parts + 1
  | .iface _ d => uptoBulk d + 1
  | .map entries => uptoBulkEntries entries + 1
  | .held _ => 1
def uptoBulkAll {H : Type} : List (DataW H) → Nat
  | [] => 0
  | d :: r => uptoBulk d + uptoBulkAll r
def uptoBulkEntries {H : Type} : List (Lit × DataW H) → Nat
  | [] => 0
  | x :: r => uptoBulkEntry x + uptoBulkEntries r
def uptoBulkEntry {H : Type} : Lit × DataW H → Nat
  | (.string bytes, d) => bytes.length + uptoBulk d + 1
  | (_, d) => uptoBulk d + 1
 end
def uptoSmall : (H : Type) → List (DataW H) → Bool := fun _ ds => decide (uptoBulkAll ds ≤ 1048576)
def OpenSpec.upto (s : _root_.Go.ChangeSpec) : _root_.Go.OpenSpec := { _root_.Go.OpenSpec.ofChange s with cond := some uptoSmall }

/-- 'lychgatelaw06.AutoLeast', WHERE WHAT IT READS IS OF BULK AT MOST 1048576: true; the input reads as it did. -/
def autoLeastUptoRow : OpenClaim := { program := "ytdgoilkgplnhfaagreat", sum := "43c6aa26ade7f0f2fcc115f465ca15ed31778164506ad1fd95f4e759a5d38793", func := "lychgate/lychgatelaw06.AutoLeast", spec := "autoLeast", inPlace := ["internal/bytealg.IndexByteString"], unfollowed := true, recurses := true, plainKeys := false, apart := false, narrowed := true }
def AutoLeastUptoSaid : Prop := autoLeastUptoRow.holds Tryz.pinned (OpenSpec.upto autoLeastSpec)

/-- 'lychgatelaw06.AutoOf', WHERE WHAT IT READS IS OF BULK AT MOST 1048576: true; the input reads as it did. -/
def autoOfUptoRow : OpenClaim := { program := "ytdgoilkgplnhfaagreat", sum := "43c6aa26ade7f0f2fcc115f465ca15ed31778164506ad1fd95f4e759a5d38793", func := "lychgate/lychgatelaw06.AutoOf", spec := "autoOf", inPlace := ["internal/bytealg.IndexByteString"], unfollowed := true, recurses := true, plainKeys := false, apart := false, narrowed := true }
def AutoOfUptoSaid : Prop := autoOfUptoRow.holds Tryz.pinned (OpenSpec.upto autoOfSpec)

/-- 'lychgatelaw06.AutoJoins', WHERE WHAT IT READS IS OF BULK AT MOST 1048576: true; the input reads as it did. -/
def autoJoinsUptoRow : OpenClaim := { program := "ytdgoilkgplnhfaagreat", sum := "43c6aa26ade7f0f2fcc115f465ca15ed31778164506ad1fd95f4e759a5d38793", func := "lychgate/lychgatelaw06.AutoJoins", spec := "autoJoins", inPlace := ["internal/bytealg.IndexByteString"], unfollowed := true, recurses := true, plainKeys := false, apart := false, narrowed := true }
def AutoJoinsUptoSaid : Prop := autoJoinsUptoRow.holds Tryz.pinned (OpenSpec.upto autoJoinsSpec)

/-- 'lychgatelaw06.AutoRuns', WHERE WHAT IT READS IS OF BULK AT MOST 1048576: true; the input reads as it did. -/
def autoRunsUptoRow : OpenClaim := { program := "ytdgoilkgplnhfaagreat", sum := "43c6aa26ade7f0f2fcc115f465ca15ed31778164506ad1fd95f4e759a5d38793", func := "lychgate/lychgatelaw06.AutoRuns", spec := "autoRuns", inPlace := ["internal/bytealg.IndexByteString"], unfollowed := true, recurses := true, plainKeys := false, apart := false, narrowed := true }
def AutoRunsUptoSaid : Prop := autoRunsUptoRow.holds Tryz.pinned (OpenSpec.upto autoRunsSpec)

/-- 'lychgatelaw06.AutoPatterns', WHERE WHAT IT READS IS OF BULK AT MOST 1048576: true; the input reads as it did. -/
def autoPatternsUptoRow : OpenClaim := { program := "ytdgoilkgplnhfaagreat", sum := "43c6aa26ade7f0f2fcc115f465ca15ed31778164506ad1fd95f4e759a5d38793", func := "lychgate/lychgatelaw06.AutoPatterns", spec := "autoPatterns", inPlace := ["internal/bytealg.IndexByteString"], unfollowed := true, recurses := true, plainKeys := false, apart := false, narrowed := true }
def AutoPatternsUptoSaid : Prop := autoPatternsUptoRow.holds Tryz.pinned (OpenSpec.upto autoPatternsSpec)

/-- 'lychgatelaw06.AutoShort', WHERE WHAT IT READS IS OF BULK AT MOST 1048576: true; the input reads as it did. -/
def autoShortUptoRow : OpenClaim := { program := "ytdgoilkgplnhfaagreat", sum := "43c6aa26ade7f0f2fcc115f465ca15ed31778164506ad1fd95f4e759a5d38793", func := "lychgate/lychgatelaw06.AutoShort", spec := "autoShort", inPlace := ["internal/bytealg.IndexByteString"], unfollowed := true, recurses := true, plainKeys := false, apart := false, narrowed := true }
def AutoShortUptoSaid : Prop := autoShortUptoRow.holds Tryz.pinned (OpenSpec.upto autoShortSpec)

end Rows
end Go.Proofs.YtdgoilkgplnhfaaGreat
