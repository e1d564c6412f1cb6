/-
  DERIVED. GIVEN WITH THE SEED: THE CARDS: each row of YtfjifedfenpbbaaDoorRows.lean that lists a variable, with what it lists TIED to the program's text (the seventh form; the later family's looks); each row that meets fmt, with fmt's text TOLD by the authors' own Lean function (tested against real Go, not proved from fmt's source: count such statements apart). THE CARD IS WHAT COUNTS. Prove the row's statement (the work); the ties are given (YtfjifedfenpbbaaDoorTie.lean); close each card by the builder's one call (the guide's Derived/Test/ToyasCard.lean, 'card_holds'). Laid BY PROGRAM, IN A SANDBOX (cutbox-door.mjs). By AI agents, Wed Nov 11 2026. No macro, syntax, notation, axiom, sorry.
-/
import Derived.Test.YtfjifedfenpbbaaDoorRows
import GoSem.ClaimSeven
namespace Go.Proofs.YtfjifedfenpbbaaDoor
namespace Rows

/-- THE TIED CARD OF 'lychgatelaw03.AddrReads'. -/
def addrReadsCard : Claim7 := { stood := { row := addrReadsRow, standIns := [], harness := (true, "fdeb132bee6e0c45067cb04b1652ddd5fec33a0ff2ba4ada4b7cb49a5f55b85d"), looks := false }, kinds := [], alts := [], laidByText := true, laidKinds := [.data, .data, .data, .data, .pinned], laidTests := true, laidLooks := .later }
def AddrReadsCardSaid : Prop := Claim7.holds Tryd.pinned (.plain (OpenSpec.ofChange addrReadsSpec)) addrReadsCard

/-- THE TIED CARD OF 'lychgatelaw03.AddrPrints'. -/
def addrPrintsCard : Claim7 := { stood := { row := addrPrintsRow, standIns := [], harness := (true, "fdeb132bee6e0c45067cb04b1652ddd5fec33a0ff2ba4ada4b7cb49a5f55b85d"), looks := false }, kinds := [], alts := [], laidByText := true, laidKinds := [.data, .data, .data, .data, .pinned], laidTests := true, laidLooks := .later }
def AddrPrintsCardSaid : Prop := Claim7.holds Tryd.pinned (.plain (OpenSpec.ofChange addrPrintsSpec)) addrPrintsCard

/-- THE TIED CARD OF 'lychgatelaw03.AddrCovers'. -/
def addrCoversCard : Claim7 := { stood := { row := addrCoversRow, standIns := [], harness := (true, "fdeb132bee6e0c45067cb04b1652ddd5fec33a0ff2ba4ada4b7cb49a5f55b85d"), looks := false }, kinds := [], alts := [], laidByText := true, laidKinds := [.data, .data, .data, .data, .pinned], laidTests := true, laidLooks := .later }
def AddrCoversCardSaid : Prop := Claim7.holds Tryd.pinned (.plain (OpenSpec.ofChange addrCoversSpec)) addrCoversCard

/-- THE TIED CARD OF 'lychgatelaw03.AddrBack'. -/
def addrBackCard : Claim7 := { stood := { row := addrBackRow, standIns := [], harness := (true, "fdeb132bee6e0c45067cb04b1652ddd5fec33a0ff2ba4ada4b7cb49a5f55b85d"), looks := false }, kinds := [], alts := [], laidByText := true, laidKinds := [.data, .data, .data, .data, .pinned], laidTests := true, laidLooks := .later }
def AddrBackCardSaid : Prop := Claim7.holds Tryd.pinned (.plain (OpenSpec.ofChange addrBackSpec)) addrBackCard

/-- THE TIED CARD OF 'lychgatelaw03.AddrLeast'. -/
def addrLeastCard : Claim7 := { stood := { row := addrLeastRow, standIns := [], harness := (true, "fdeb132bee6e0c45067cb04b1652ddd5fec33a0ff2ba4ada4b7cb49a5f55b85d"), looks := false }, kinds := [], alts := [], laidByText := true, laidKinds := [.data, .data, .data, .data, .pinned], laidTests := true, laidLooks := .later }
def AddrLeastCardSaid : Prop := Claim7.holds Tryd.pinned (.plain (OpenSpec.ofChange addrLeastSpec)) addrLeastCard

/-- THE SECOND FORM's CARD OF 'lychgatelaw03.AddrReads'. -/
def addrReadsUptoCard : Claim7 := { stood := { row := addrReadsUptoRow, standIns := [], harness := (true, "fdeb132bee6e0c45067cb04b1652ddd5fec33a0ff2ba4ada4b7cb49a5f55b85d"), looks := false }, kinds := [], alts := [], laidByText := true, laidKinds := [.data, .data, .data, .data, .pinned], laidTests := true, laidLooks := .later }
def AddrReadsUptoCardSaid : Prop := Claim7.holds Tryd.pinned (.plain (OpenSpec.upto addrReadsSpec)) addrReadsUptoCard

/-- THE SECOND FORM's CARD OF 'lychgatelaw03.AddrPrints'. -/
def addrPrintsUptoCard : Claim7 := { stood := { row := addrPrintsUptoRow, standIns := [], harness := (true, "fdeb132bee6e0c45067cb04b1652ddd5fec33a0ff2ba4ada4b7cb49a5f55b85d"), looks := false }, kinds := [], alts := [], laidByText := true, laidKinds := [.data, .data, .data, .data, .pinned], laidTests := true, laidLooks := .later }
def AddrPrintsUptoCardSaid : Prop := Claim7.holds Tryd.pinned (.plain (OpenSpec.upto addrPrintsSpec)) addrPrintsUptoCard

/-- THE SECOND FORM's CARD OF 'lychgatelaw03.AddrCovers'. -/
def addrCoversUptoCard : Claim7 := { stood := { row := addrCoversUptoRow, standIns := [], harness := (true, "fdeb132bee6e0c45067cb04b1652ddd5fec33a0ff2ba4ada4b7cb49a5f55b85d"), looks := false }, kinds := [], alts := [], laidByText := true, laidKinds := [.data, .data, .data, .data, .pinned], laidTests := true, laidLooks := .later }
def AddrCoversUptoCardSaid : Prop := Claim7.holds Tryd.pinned (.plain (OpenSpec.upto addrCoversSpec)) addrCoversUptoCard

/-- THE SECOND FORM's CARD OF 'lychgatelaw03.AddrBack'. -/
def addrBackUptoCard : Claim7 := { stood := { row := addrBackUptoRow, standIns := [], harness := (true, "fdeb132bee6e0c45067cb04b1652ddd5fec33a0ff2ba4ada4b7cb49a5f55b85d"), looks := false }, kinds := [], alts := [], laidByText := true, laidKinds := [.data, .data, .data, .data, .pinned], laidTests := true, laidLooks := .later }
def AddrBackUptoCardSaid : Prop := Claim7.holds Tryd.pinned (.plain (OpenSpec.upto addrBackSpec)) addrBackUptoCard

/-- THE SECOND FORM's CARD OF 'lychgatelaw03.AddrLeast'. -/
def addrLeastUptoCard : Claim7 := { stood := { row := addrLeastUptoRow, standIns := [], harness := (true, "fdeb132bee6e0c45067cb04b1652ddd5fec33a0ff2ba4ada4b7cb49a5f55b85d"), looks := false }, kinds := [], alts := [], laidByText := true, laidKinds := [.data, .data, .data, .data, .pinned], laidTests := true, laidLooks := .later }
def AddrLeastUptoCardSaid : Prop := Claim7.holds Tryd.pinned (.plain (OpenSpec.upto addrLeastSpec)) addrLeastUptoCard
end Rows
end Go.Proofs.YtfjifedfenpbbaaDoor
