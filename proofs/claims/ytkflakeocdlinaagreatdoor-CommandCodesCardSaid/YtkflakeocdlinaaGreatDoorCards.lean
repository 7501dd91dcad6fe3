/-
  DERIVED. GIVEN WITH THE SEED: THE CARDS: each row of YtkflakeocdlinaaGreatDoorRows.lean that lists a variable, with what it lists TIED to the program's text (the seventh form; the later family's looks); each row that meets fmt, with fmt's text TOLD by the authors' own Lean function (tested against real Go, not proved from fmt's source: count such statements apart). THE CARD IS WHAT COUNTS. Prove the row's statement (the work); the ties are given (YtkflakeocdlinaaGreatDoorTie.lean); close each card by the builder's one call (the guide's Derived/Test/ToyasCard.lean, 'card_holds'). Laid BY PROGRAM, IN A SANDBOX (cutbox-door.mjs). By AI agents, Wed Nov 11 2026. No macro, syntax, notation, axiom, sorry.
-/
import Derived.Test.YtkflakeocdlinaaGreatDoorRows
import GoSem.ClaimSeven
namespace Go.Proofs.YtkflakeocdlinaaGreatDoor
namespace Rows

/-- THE TIED CARD OF 'souklaw18.CommandCodes'. -/
def commandCodesCard : Claim7 := { stood := { row := commandCodesRow, standIns := [], harness := (true, "cc1a29c4d0e67c692507106da4abd86dfc68b4ae9ba789e9e6637444a7c1d25a"), looks := true }, kinds := [], alts := [], laidByText := true, laidKinds := [.data, .data, .data, .data, .sentinel, .sentinel, .pinned], laidTests := true, laidLooks := .later }
def CommandCodesCardSaid : Prop := Claim7.holds Tryz.pinned (.plain (OpenSpec.ofChange commandCodesSpec)) commandCodesCard

/-- THE TIED CARD OF 'souklaw18.CommandDecodes'. -/
def commandDecodesCard : Claim7 := { stood := { row := commandDecodesRow, standIns := [], harness := (true, "cc1a29c4d0e67c692507106da4abd86dfc68b4ae9ba789e9e6637444a7c1d25a"), looks := true }, kinds := [], alts := [], laidByText := true, laidKinds := [.data, .data, .data, .data, .sentinel, .sentinel, .pinned], laidTests := true, laidLooks := .later }
def CommandDecodesCardSaid : Prop := Claim7.holds Tryz.pinned (.plain (OpenSpec.ofChange commandDecodesSpec)) commandDecodesCard

/-- THE TIED CARD OF 'souklaw18.CommandParses'. -/
def commandParsesCard : Claim7 := { stood := { row := commandParsesRow, standIns := [], harness := (true, "cc1a29c4d0e67c692507106da4abd86dfc68b4ae9ba789e9e6637444a7c1d25a"), looks := true }, kinds := [], alts := [], laidByText := true, laidKinds := [.data, .data, .data, .data, .sentinel, .sentinel, .pinned], laidTests := true, laidLooks := .later }
def CommandParsesCardSaid : Prop := Claim7.holds Tryz.pinned (.plain (OpenSpec.ofChange commandParsesSpec)) commandParsesCard

/-- THE SECOND FORM's CARD OF 'souklaw18.CommandCodes'. -/
def commandCodesUptoCard : Claim7 := { stood := { row := commandCodesUptoRow, standIns := [], harness := (true, "cc1a29c4d0e67c692507106da4abd86dfc68b4ae9ba789e9e6637444a7c1d25a"), looks := true }, kinds := [], alts := [], laidByText := true, laidKinds := [.data, .data, .data, .data, .sentinel, .sentinel, .pinned], laidTests := true, laidLooks := .later }
def CommandCodesUptoCardSaid : Prop := Claim7.holds Tryz.pinned (.plain (OpenSpec.upto commandCodesSpec)) commandCodesUptoCard

/-- THE SECOND FORM's CARD OF 'souklaw18.CommandDecodes'. -/
def commandDecodesUptoCard : Claim7 := { stood := { row := commandDecodesUptoRow, standIns := [], harness := (true, "cc1a29c4d0e67c692507106da4abd86dfc68b4ae9ba789e9e6637444a7c1d25a"), looks := true }, kinds := [], alts := [], laidByText := true, laidKinds := [.data, .data, .data, .data, .sentinel, .sentinel, .pinned], laidTests := true, laidLooks := .later }
def CommandDecodesUptoCardSaid : Prop := Claim7.holds Tryz.pinned (.plain (OpenSpec.upto commandDecodesSpec)) commandDecodesUptoCard

/-- THE SECOND FORM's CARD OF 'souklaw18.CommandParses'. -/
def commandParsesUptoCard : Claim7 := { stood := { row := commandParsesUptoRow, standIns := [], harness := (true, "cc1a29c4d0e67c692507106da4abd86dfc68b4ae9ba789e9e6637444a7c1d25a"), looks := true }, kinds := [], alts := [], laidByText := true, laidKinds := [.data, .data, .data, .data, .sentinel, .sentinel, .pinned], laidTests := true, laidLooks := .later }
def CommandParsesUptoCardSaid : Prop := Claim7.holds Tryz.pinned (.plain (OpenSpec.upto commandParsesSpec)) commandParsesUptoCard
end Rows
end Go.Proofs.YtkflakeocdlinaaGreatDoor
