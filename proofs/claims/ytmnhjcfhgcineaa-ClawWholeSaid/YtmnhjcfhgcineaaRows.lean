/-
  No cell of these rows narrows 'for every input' (looked for: loops, veiled, ifaces, maps, wideKeys, modest, calm, conditions, laid).
  DERIVED. THE GIVEN ROWS OF THIS SEAT. 3 by the template 'for every input the law returns true; each argument reads behind the call as it read before'; 0 by the template 'total and deterministic' (their statements: YtmnhjcfhgcineaaTotals.lean).
  GIVEN WITH THE SEED: the statements are not yours to turn. If you find one false, say at which input.
  Laid BY PROGRAM, IN A SANDBOX (cutbox-rows.mjs): the forced cells as the released guide's own fill.sh prints them over the translation 74fb47b5054421b1… (all of the seat's roots in one cut). By AI agents, Wed Nov 11 2026. No macro, syntax, notation, axiom, sorry.
-/
import Derived.Test.YtmnhjcfhgcineaaChecked
import GoSem.Claim
import GoSem.ClaimJoined
import GoSem.ClaimMapViews
import Derived.JoinedTies
import Derived.KernelRfl
namespace Go.Proofs.Ytmnhjcfhgcineaa
/- THE CELL 'sum', in the pinned program and in every row, IS THE sha256 OF THE DUMP (.gsa) THAT YtmnhjcfhgcineaaProg.lean LOADS. Nothing in Lean hashes anything: it is a label: what it is worth is what the hold of that sum in a sandbox is worth. -/
noncomputable def Try.pinned : Pinned := { name := "ytmnhjcfhgcineaa", sum := "74fb47b5054421b17625b429e1698510512c90caf066dc36af94d75eebe3db02", checked := Try.checked }
namespace Rows
def none {H : Type} : Left H := { results := [], args := [] }

/-- 'souklaw13.ClawTakes': WHATEVER THE INPUT: true; the input reads as it did. -/
def clawTakesSpec : ChangeSpec := { name := "clawTakes", fn := fun _ => fun
  | [d1, d2] => { results := [.lit (.bool true)], args := [d1, d2] }
  | _ => none }
def clawTakesRow : OpenClaim := { program := "ytmnhjcfhgcineaa", sum := "74fb47b5054421b17625b429e1698510512c90caf066dc36af94d75eebe3db02", func := "souk/souklaw13.ClawTakes", spec := "clawTakes", unfollowed := true, recurses := true, named := ["math/bits.divideError", "math/bits.overflowError"], apart := false }
def ClawTakesSaid : Prop := clawTakesRow.holds Try.pinned (OpenSpec.ofChange clawTakesSpec)

/-- ITS FALSE NEIGHBOUR: 'it returns false'. Refute it at one input. -/
def clawTakesWrong : ChangeSpec := { name := "clawTakes", fn := fun _ => fun
  | [d1, d2] => { results := [.lit (.bool false)], args := [d1, d2] }
  | _ => none }
def ClawTakesWrongFalsely : Prop := clawTakesRow.holds Try.pinned (OpenSpec.ofChange clawTakesWrong)

/-- 'souklaw13.ClawRefunds': WHATEVER THE INPUT: true; the input reads as it did. -/
def clawRefundsSpec : ChangeSpec := { name := "clawRefunds", fn := fun _ => fun
  | [d1, d2, d3] => { results := [.lit (.bool true)], args := [d1, d2, d3] }
  | _ => none }
def clawRefundsRow : OpenClaim := { program := "ytmnhjcfhgcineaa", sum := "74fb47b5054421b17625b429e1698510512c90caf066dc36af94d75eebe3db02", func := "souk/souklaw13.ClawRefunds", spec := "clawRefunds", unfollowed := true, recurses := true, named := ["math/bits.divideError", "math/bits.overflowError"], apart := false }
def ClawRefundsSaid : Prop := clawRefundsRow.holds Try.pinned (OpenSpec.ofChange clawRefundsSpec)

/-- ITS FALSE NEIGHBOUR: 'it returns false'. Refute it at one input. -/
def clawRefundsWrong : ChangeSpec := { name := "clawRefunds", fn := fun _ => fun
  | [d1, d2, d3] => { results := [.lit (.bool false)], args := [d1, d2, d3] }
  | _ => none }
def ClawRefundsWrongFalsely : Prop := clawRefundsRow.holds Try.pinned (OpenSpec.ofChange clawRefundsWrong)

/-- 'souklaw13.ClawWhole': WHATEVER THE INPUT: true; the input reads as it did. -/
def clawWholeSpec : ChangeSpec := { name := "clawWhole", fn := fun _ => fun
  | [d1, d2] => { results := [.lit (.bool true)], args := [d1, d2] }
  | _ => none }
def clawWholeRow : OpenClaim := { program := "ytmnhjcfhgcineaa", sum := "74fb47b5054421b17625b429e1698510512c90caf066dc36af94d75eebe3db02", func := "souk/souklaw13.ClawWhole", spec := "clawWhole", unfollowed := true, recurses := true, named := ["math/bits.divideError", "math/bits.overflowError"], apart := false }
def ClawWholeSaid : Prop := clawWholeRow.holds Try.pinned (OpenSpec.ofChange clawWholeSpec)

/-- ITS FALSE NEIGHBOUR: 'it returns false'. Refute it at one input. -/
def clawWholeWrong : ChangeSpec := { name := "clawWhole", fn := fun _ => fun
  | [d1, d2] => { results := [.lit (.bool false)], args := [d1, d2] }
  | _ => none }
def ClawWholeWrongFalsely : Prop := clawWholeRow.holds Try.pinned (OpenSpec.ofChange clawWholeWrong)

/- THE SECOND FORM. 'bulk': how many values and letters a reading holds, each counted each time it is reached (what is shared counts as often as it is met; a slice's spare places count too). A statement '..UptoSaid' is the law's where the arguments, and the package variables that the reading takes, are together of bulk at most 1048576: NARROWER than '..Said'. Prove '..Said' where nothing that the law and all that it calls make is longer than what came in: it says more and counts as full. Else prove '..UptoSaid'. A law counts once. -/
mutual
def uptoBulk {H : Type} : DataW H → Nat
  | .lit (.string bytes) => bytes.length + 1
  | .lit _ => 1
  | .nil => 1
  | .ptr d => uptoBulk d + 1
  | .slice elems spare => uptoBulkAll elems + uptoBulkAll spare + 1
  | .agg parts => uptoBulkAll parts + 1
  | .iface _ d => uptoBulk d + 1
  | .map entries => uptoBulkEntries entries + 1
  | .held _ => 1
def uptoBulkAll {H : Type} : List (DataW H) → Nat
  | [] => 0
  | d :: r => uptoBulk d + uptoBulkAll r
def uptoBulkEntries {H : Type} : List (Lit × DataW H) → Nat
  | [] => 0
  | x :: r => uptoBulkEntry x + uptoBulkEntries r
def uptoBulkEntry {H : Type} : Lit × DataW H → Nat
  | (.string bytes, d) => bytes.length + uptoBulk d + 1
  | (_, d) => uptoBulk d + 1
 end
def uptoSmall : (H : Type) → List (DataW H) → Bool := fun _ ds => decide (uptoBulkAll ds ≤ 1048576)
def OpenSpec.upto (s : _root_.Go.ChangeSpec) : _root_.Go.OpenSpec := { _root_.Go.OpenSpec.ofChange s with cond := some uptoSmall }

/-- 'souklaw13.ClawTakes', WHERE WHAT IT READS IS OF BULK AT MOST 1048576: true; the input reads as it did. -/
def clawTakesUptoRow : OpenClaim := { program := "ytmnhjcfhgcineaa", sum := "74fb47b5054421b17625b429e1698510512c90caf066dc36af94d75eebe3db02", func := "souk/souklaw13.ClawTakes", spec := "clawTakes", unfollowed := true, recurses := true, named := ["math/bits.divideError", "math/bits.overflowError"], apart := false, narrowed := true }
def ClawTakesUptoSaid : Prop := clawTakesUptoRow.holds Try.pinned (OpenSpec.upto clawTakesSpec)

/-- 'souklaw13.ClawRefunds', WHERE WHAT IT READS IS OF BULK AT MOST 1048576: true; the input reads as it did. -/
def clawRefundsUptoRow : OpenClaim := { program := "ytmnhjcfhgcineaa", sum := "74fb47b5054421b17625b429e1698510512c90caf066dc36af94d75eebe3db02", func := "souk/souklaw13.ClawRefunds", spec := "clawRefunds", unfollowed := true, recurses := true, named := ["math/bits.divideError", "math/bits.overflowError"], apart := false, narrowed := true }
def ClawRefundsUptoSaid : Prop := clawRefundsUptoRow.holds Try.pinned (OpenSpec.upto clawRefundsSpec)

/-- 'souklaw13.ClawWhole', WHERE WHAT IT READS IS OF BULK AT MOST 1048576: true; the input reads as it did. -/
def clawWholeUptoRow : OpenClaim := { program := "ytmnhjcfhgcineaa", sum := "74fb47b5054421b17625b429e1698510512c90caf066dc36af94d75eebe3db02", func := "souk/souklaw13.ClawWhole", spec := "clawWhole", unfollowed := true, recurses := true, named := ["math/bits.divideError", "math/bits.overflowError"], apart := false, narrowed := true }
def ClawWholeUptoSaid : Prop := clawWholeUptoRow.holds Try.pinned (OpenSpec.upto clawWholeSpec)

end Rows
end Go.Proofs.Ytmnhjcfhgcineaa
