/-
  DERIVED. GIVEN WITH THE SEED: THE CARDS: each row of YthgikaklcglpiaaGreatDoorRows.lean that lists a variable, with what it lists TIED to the program's text (the seventh form; the later family's looks); each row that meets fmt, with fmt's text TOLD by the authors' own Lean function (tested against real Go, not proved from fmt's source: count such statements apart). THE CARD IS WHAT COUNTS. Prove the row's statement (the work); the ties are given (YthgikaklcglpiaaGreatDoorTie.lean); close each card by the builder's one call (the guide's Derived/Test/ToyasCard.lean, 'card_holds'). Laid BY PROGRAM, IN A SANDBOX (cutbox-door.mjs). By AI agents, Wed Nov 11 2026. No macro, syntax, notation, axiom, sorry.
-/
import Derived.Test.YthgikaklcglpiaaGreatDoorRows
import GoSem.ClaimSeven
namespace Go.Proofs.YthgikaklcglpiaaGreatDoor
namespace Rows

/-- THE TIED CARD OF 'lychgatelaw10.AtomMakes'. -/
def atomMakesCard : Claim7 := { stood := { row := atomMakesRow, standIns := [], harness := (true, "bb5023f56fdcc793c4bf5af8b8e490c03e4b8c43be5b7dfc64a95305daa010bb"), looks := true }, kinds := [], alts := [], laidByText := true, laidKinds := [.data, .data, .data, .data, .pinned, .pinned], laidTests := true, laidLooks := .later }
def AtomMakesCardSaid : Prop := Claim7.holds Tryz.pinned (.plain (OpenSpec.ofChange atomMakesSpec)) atomMakesCard

/-- THE TIED CARD OF 'lychgatelaw10.AtomRights'. -/
def atomRightsCard : Claim7 := { stood := { row := atomRightsRow, standIns := [], harness := (true, "bb5023f56fdcc793c4bf5af8b8e490c03e4b8c43be5b7dfc64a95305daa010bb"), looks := true }, kinds := [], alts := [], laidByText := true, laidKinds := [.data, .data, .data, .data, .pinned, .pinned], laidTests := true, laidLooks := .later }
def AtomRightsCardSaid : Prop := Claim7.holds Tryz.pinned (.plain (OpenSpec.ofChange atomRightsSpec)) atomRightsCard

/-- THE TIED CARD OF 'lychgatelaw10.AtomTests'. -/
def atomTestsCard : Claim7 := { stood := { row := atomTestsRow, standIns := [], harness := (true, "bb5023f56fdcc793c4bf5af8b8e490c03e4b8c43be5b7dfc64a95305daa010bb"), looks := true }, kinds := [], alts := [], laidByText := true, laidKinds := [.data, .data, .data, .data, .pinned, .pinned], laidTests := true, laidLooks := .later }
def AtomTestsCardSaid : Prop := Claim7.holds Tryz.pinned (.plain (OpenSpec.ofChange atomTestsSpec)) atomTestsCard

/-- THE TIED CARD OF 'lychgatelaw10.AtomLists'. -/
def atomListsCard : Claim7 := { stood := { row := atomListsRow, standIns := [], harness := (true, "bb5023f56fdcc793c4bf5af8b8e490c03e4b8c43be5b7dfc64a95305daa010bb"), looks := true }, kinds := [], alts := [], laidByText := true, laidKinds := [.data, .data, .data, .data, .pinned, .pinned], laidTests := true, laidLooks := .later }
def AtomListsCardSaid : Prop := Claim7.holds Tryz.pinned (.plain (OpenSpec.ofChange atomListsSpec)) atomListsCard

/-- THE TIED CARD OF 'lychgatelaw10.AtomSays'. -/
def atomSaysCard : Claim7 := { stood := { row := atomSaysRow, standIns := [], harness := (true, "bb5023f56fdcc793c4bf5af8b8e490c03e4b8c43be5b7dfc64a95305daa010bb"), looks := true }, kinds := [], alts := [], laidByText := true, laidKinds := [.data, .data, .data, .data, .pinned, .pinned], laidTests := true, laidLooks := .later }
def AtomSaysCardSaid : Prop := Claim7.holds Tryz.pinned (.plain (OpenSpec.ofChange atomSaysSpec)) atomSaysCard

/-- THE TIED CARD OF 'lychgatelaw10.AtomOne'. -/
def atomOneCard : Claim7 := { stood := { row := atomOneRow, standIns := [], harness := (true, "bb5023f56fdcc793c4bf5af8b8e490c03e4b8c43be5b7dfc64a95305daa010bb"), looks := true }, kinds := [], alts := [], laidByText := true, laidKinds := [.data, .data, .data, .data, .pinned, .pinned], laidTests := true, laidLooks := .later }
def AtomOneCardSaid : Prop := Claim7.holds Tryz.pinned (.plain (OpenSpec.ofChange atomOneSpec)) atomOneCard

/-- THE SECOND FORM's CARD OF 'lychgatelaw10.AtomMakes'. -/
def atomMakesUptoCard : Claim7 := { stood := { row := atomMakesUptoRow, standIns := [], harness := (true, "bb5023f56fdcc793c4bf5af8b8e490c03e4b8c43be5b7dfc64a95305daa010bb"), looks := true }, kinds := [], alts := [], laidByText := true, laidKinds := [.data, .data, .data, .data, .pinned, .pinned], laidTests := true, laidLooks := .later }
def AtomMakesUptoCardSaid : Prop := Claim7.holds Tryz.pinned (.plain (OpenSpec.upto atomMakesSpec)) atomMakesUptoCard

/-- THE SECOND FORM's CARD OF 'lychgatelaw10.AtomRights'. -/
def atomRightsUptoCard : Claim7 := { stood := { row := atomRightsUptoRow, standIns := [], harness := (true, "bb5023f56fdcc793c4bf5af8b8e490c03e4b8c43be5b7dfc64a95305daa010bb"), looks := true }, kinds := [], alts := [], laidByText := true, laidKinds := [.data, .data, .data, .data, .pinned, .pinned], laidTests := true, laidLooks := .later }
def AtomRightsUptoCardSaid : Prop := Claim7.holds Tryz.pinned (.plain (OpenSpec.upto atomRightsSpec)) atomRightsUptoCard

/-- THE SECOND FORM's CARD OF 'lychgatelaw10.AtomTests'. -/
def atomTestsUptoCard : Claim7 := { stood := { row := atomTestsUptoRow, standIns := [], harness := (true, "bb5023f56fdcc793c4bf5af8b8e490c03e4b8c43be5b7dfc64a95305daa010bb"), looks := true }, kinds := [], alts := [], laidByText := true, laidKinds := [.data, .data, .data, .data, .pinned, .pinned], laidTests := true, laidLooks := .later }
def AtomTestsUptoCardSaid : Prop := Claim7.holds Tryz.pinned (.plain (OpenSpec.upto atomTestsSpec)) atomTestsUptoCard

/-- THE SECOND FORM's CARD OF 'lychgatelaw10.AtomLists'. -/
def atomListsUptoCard : Claim7 := { stood := { row := atomListsUptoRow, standIns := [], harness := (true, "bb5023f56fdcc793c4bf5af8b8e490c03e4b8c43be5b7dfc64a95305daa010bb"), looks := true }, kinds := [], alts := [], laidByText := true, laidKinds := [.data, .data, .data, .data, .pinned, .pinned], laidTests := true, laidLooks := .later }
def AtomListsUptoCardSaid : Prop := Claim7.holds Tryz.pinned (.plain (OpenSpec.upto atomListsSpec)) atomListsUptoCard

/-- THE SECOND FORM's CARD OF 'lychgatelaw10.AtomSays'. -/
def atomSaysUptoCard : Claim7 := { stood := { row := atomSaysUptoRow, standIns := [], harness := (true, "bb5023f56fdcc793c4bf5af8b8e490c03e4b8c43be5b7dfc64a95305daa010bb"), looks := true }, kinds := [], alts := [], laidByText := true, laidKinds := [.data, .data, .data, .data, .pinned, .pinned], laidTests := true, laidLooks := .later }
def AtomSaysUptoCardSaid : Prop := Claim7.holds Tryz.pinned (.plain (OpenSpec.upto atomSaysSpec)) atomSaysUptoCard

/-- THE SECOND FORM's CARD OF 'lychgatelaw10.AtomOne'. -/
def atomOneUptoCard : Claim7 := { stood := { row := atomOneUptoRow, standIns := [], harness := (true, "bb5023f56fdcc793c4bf5af8b8e490c03e4b8c43be5b7dfc64a95305daa010bb"), looks := true }, kinds := [], alts := [], laidByText := true, laidKinds := [.data, .data, .data, .data, .pinned, .pinned], laidTests := true, laidLooks := .later }
def AtomOneUptoCardSaid : Prop := Claim7.holds Tryz.pinned (.plain (OpenSpec.upto atomOneSpec)) atomOneUptoCard
end Rows
end Go.Proofs.YthgikaklcglpiaaGreatDoor
