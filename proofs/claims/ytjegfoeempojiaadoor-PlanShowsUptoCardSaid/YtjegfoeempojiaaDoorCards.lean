/-
  DERIVED. GIVEN WITH THE SEED: THE CARDS: each row of YtjegfoeempojiaaDoorRows.lean that lists a variable, with what it lists TIED to the program's text (the seventh form; the later family's looks); each row that meets fmt, with fmt's text TOLD by the authors' own Lean function (tested against real Go, not proved from fmt's source: count such statements apart). THE CARD IS WHAT COUNTS. Prove the row's statement (the work); the ties are given (YtjegfoeempojiaaDoorTie.lean); close each card by the builder's one call (the guide's Derived/Test/ToyasCard.lean, 'card_holds'). Laid BY PROGRAM, IN A SANDBOX (cutbox-door.mjs). By AI agents, Wed Nov 11 2026. No macro, syntax, notation, axiom, sorry.
-/
import Derived.Test.YtjegfoeempojiaaDoorRows
import GoSem.ClaimSeven
namespace Go.Proofs.YtjegfoeempojiaaDoor
namespace Rows

/-- THE TIED CARD OF 'souklaw09.PlanShows'. -/
def planShowsCard : Claim7 := { stood := { row := planShowsRow, standIns := [], harness := (true, "83a1d9e4430f78f6f542cab63e2c36957fd03e224e2c7b7fb12f4bb02fe9f234"), looks := false }, kinds := [], alts := [], laidByText := true, laidKinds := [.data, .data, .data, .data, .pinned], laidTests := true, laidLooks := .later }
def PlanShowsCardSaid : Prop := Claim7.holds Tryd.pinned (.plain (OpenSpec.ofChange planShowsSpec)) planShowsCard

/-- THE SECOND FORM's CARD OF 'souklaw09.PlanShows'. -/
def planShowsUptoCard : Claim7 := { stood := { row := planShowsUptoRow, standIns := [], harness := (true, "83a1d9e4430f78f6f542cab63e2c36957fd03e224e2c7b7fb12f4bb02fe9f234"), looks := false }, kinds := [], alts := [], laidByText := true, laidKinds := [.data, .data, .data, .data, .pinned], laidTests := true, laidLooks := .later }
def PlanShowsUptoCardSaid : Prop := Claim7.holds Tryd.pinned (.plain (OpenSpec.upto planShowsSpec)) planShowsUptoCard
end Rows
end Go.Proofs.YtjegfoeempojiaaDoor
