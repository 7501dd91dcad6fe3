/-
  DERIVED. GIVEN WITH THE SEED: THE CARDS: each row of YtiigpkbgapegoaaDoorRows.lean that lists a variable, with what it lists TIED to the program's text (the seventh form; the later family's looks); each row that meets fmt, with fmt's text TOLD by the authors' own Lean function (tested against real Go, not proved from fmt's source: count such statements apart). THE CARD IS WHAT COUNTS. Prove the row's statement (the work); the ties are given (YtiigpkbgapegoaaDoorTie.lean); close each card by the builder's one call (the guide's Derived/Test/ToyasCard.lean, 'card_holds'). Laid BY PROGRAM, IN A SANDBOX (cutbox-door.mjs). By AI agents, Wed Nov 11 2026. No macro, syntax, notation, axiom, sorry.
-/
import Derived.Test.YtiigpkbgapegoaaDoorRows
import GoSem.ClaimSeven
namespace Go.Proofs.YtiigpkbgapegoaaDoor
namespace Rows

/-- THE TIED CARD OF 'souklaw08.LexRates'. -/
def lexRatesCard : Claim7 := { stood := { row := lexRatesRow, standIns := [], harness := (true, "c5508ec202e7080d56c3d7ea59cef4857741b12c3ab7f653066c6ae9602d5a96"), looks := false }, kinds := [], alts := [], laidByText := true, laidKinds := [.data, .pinned], laidTests := true, laidLooks := .later }
def LexRatesCardSaid : Prop := Claim7.holds Tryd.pinned (.plain (OpenSpec.ofChange lexRatesSpec)) lexRatesCard

/-- THE SECOND FORM's CARD OF 'souklaw08.LexRates'. -/
def lexRatesUptoCard : Claim7 := { stood := { row := lexRatesUptoRow, standIns := [], harness := (true, "c5508ec202e7080d56c3d7ea59cef4857741b12c3ab7f653066c6ae9602d5a96"), looks := false }, kinds := [], alts := [], laidByText := true, laidKinds := [.data, .pinned], laidTests := true, laidLooks := .later }
def LexRatesUptoCardSaid : Prop := Claim7.holds Tryd.pinned (.plain (OpenSpec.upto lexRatesSpec)) lexRatesUptoCard
end Rows
end Go.Proofs.YtiigpkbgapegoaaDoor
