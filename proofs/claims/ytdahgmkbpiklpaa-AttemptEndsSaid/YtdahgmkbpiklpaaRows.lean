/-
  No cell of these rows narrows 'for every input' (looked for: loops, veiled, ifaces, maps, wideKeys, modest, calm, conditions, laid).
  DERIVED. THE GIVEN ROWS OF THIS SEAT. 3 by the template 'for every input the law returns true; each argument reads behind the call as it read before'; 0 by the template 'total and deterministic' (their statements: YtdahgmkbpiklpaaTotals.lean).
  GIVEN WITH THE SEED: the statements are not yours to turn. If you find one false, say at which input.
  Laid BY PROGRAM, IN A SANDBOX (cutbox-rows.mjs): the forced cells as the released guide's own fill.sh prints them over the translation 803b097b07a072a8… (all of the seat's roots in one cut). By AI agents, Wed Nov 11 2026. No macro, syntax, notation, axiom, sorry.
-/
import Derived.Test.YtdahgmkbpiklpaaChecked
import GoSem.Claim
import GoSem.ClaimJoined
import GoSem.ClaimMapViews
import Derived.JoinedTies
import Derived.KernelRfl
namespace Go.Proofs.Ytdahgmkbpiklpaa
/- THE CELL 'sum', in the pinned program and in every row, IS THE sha256 OF THE DUMP (.gsa) THAT YtdahgmkbpiklpaaProg.lean LOADS. Nothing in Lean hashes anything: it is a label: what it is worth is what the hold of that sum in a sandbox is worth. -/
noncomputable def Try.pinned : Pinned := { name := "ytdahgmkbpiklpaa", sum := "803b097b07a072a864ab59fcd18e608ff21df1aa0fbdc11a63403a519f8f5a1f", checked := Try.checked }
namespace Rows
def none {H : Type} : Left H := { results := [], args := [] }

/-- 'souklaw17.AttemptSteps': WHATEVER THE INPUT: true; the input reads as it did. -/
def attemptStepsSpec : ChangeSpec := { name := "attemptSteps", fn := fun _ => fun
  | [d1, d2, d3] => { results := [.lit (.bool true)], args := [d1, d2, d3] }
  | _ => none }
def attemptStepsRow : OpenClaim := { program := "ytdahgmkbpiklpaa", sum := "803b097b07a072a864ab59fcd18e608ff21df1aa0fbdc11a63403a519f8f5a1f", func := "souk/souklaw17.AttemptSteps", spec := "attemptSteps", apart := false }
def AttemptStepsSaid : Prop := attemptStepsRow.holds Try.pinned (OpenSpec.ofChange attemptStepsSpec)

/-- ITS FALSE NEIGHBOUR: 'it returns false'. Refute it at one input. -/
def attemptStepsWrong : ChangeSpec := { name := "attemptSteps", fn := fun _ => fun
  | [d1, d2, d3] => { results := [.lit (.bool false)], args := [d1, d2, d3] }
  | _ => none }
def AttemptStepsWrongFalsely : Prop := attemptStepsRow.holds Try.pinned (OpenSpec.ofChange attemptStepsWrong)

/-- 'souklaw17.AttemptOnce': WHATEVER THE INPUT: true; the input reads as it did. -/
def attemptOnceSpec : ChangeSpec := { name := "attemptOnce", fn := fun _ => fun
  | [d1, d2] => { results := [.lit (.bool true)], args := [d1, d2] }
  | _ => none }
def attemptOnceRow : OpenClaim := { program := "ytdahgmkbpiklpaa", sum := "803b097b07a072a864ab59fcd18e608ff21df1aa0fbdc11a63403a519f8f5a1f", func := "souk/souklaw17.AttemptOnce", spec := "attemptOnce", unfollowed := true, recurses := true, apart := false }
def AttemptOnceSaid : Prop := attemptOnceRow.holds Try.pinned (OpenSpec.ofChange attemptOnceSpec)

/-- ITS FALSE NEIGHBOUR: 'it returns false'. Refute it at one input. -/
def attemptOnceWrong : ChangeSpec := { name := "attemptOnce", fn := fun _ => fun
  | [d1, d2] => { results := [.lit (.bool false)], args := [d1, d2] }
  | _ => none }
def AttemptOnceWrongFalsely : Prop := attemptOnceRow.holds Try.pinned (OpenSpec.ofChange attemptOnceWrong)

/-- 'souklaw17.AttemptEnds': WHATEVER THE INPUT: true; the input reads as it did. -/
def attemptEndsSpec : ChangeSpec := { name := "attemptEnds", fn := fun _ => fun
  | [d1, d2] => { results := [.lit (.bool true)], args := [d1, d2] }
  | _ => none }
def attemptEndsRow : OpenClaim := { program := "ytdahgmkbpiklpaa", sum := "803b097b07a072a864ab59fcd18e608ff21df1aa0fbdc11a63403a519f8f5a1f", func := "souk/souklaw17.AttemptEnds", spec := "attemptEnds", unfollowed := true, recurses := true, apart := false }
def AttemptEndsSaid : Prop := attemptEndsRow.holds Try.pinned (OpenSpec.ofChange attemptEndsSpec)

/-- ITS FALSE NEIGHBOUR: 'it returns false'. Refute it at one input. -/
def attemptEndsWrong : ChangeSpec := { name := "attemptEnds", fn := fun _ => fun
  | [d1, d2] => { results := [.lit (.bool false)], args := [d1, d2] }
  | _ => none }
def AttemptEndsWrongFalsely : Prop := attemptEndsRow.holds Try.pinned (OpenSpec.ofChange attemptEndsWrong)

/- THE SECOND FORM. 'bulk': how many values and letters a reading holds, each counted each time it is reached (what is shared counts as often as it is met; a slice's spare places count too). A statement '..UptoSaid' is the law's where the arguments, and the package variables that the reading takes, are together of bulk at most 1048576: NARROWER than '..Said'. Prove '..Said' where nothing that the law and all that it calls make is longer than what came in: it says more and counts as full. Else prove '..UptoSaid'. A law counts once. -/
mutual
def uptoBulk {H : Type} : DataW H → Nat
  | .lit (.string bytes) => bytes.length + 1
  | .lit _ => 1
  | .nil => 1
  | .ptr d => uptoBulk d + 1
  | .slice elems spare => uptoBulkAll elems + uptoBulkAll spare + 1
  | .agg parts => uptoBulkAll parts + 1
  | .iface _ d => uptoBulk d + 1
  | .map entries => uptoBulkEntries entries + 1
  | .held _ => 1
def uptoBulkAll {H : Type} : List (DataW H) → Nat
  | [] => 0
  | d :: r => uptoBulk d + uptoBulkAll r
def uptoBulkEntries {H : Type} : List (Lit × DataW H) → Nat
  | [] => 0
  | x :: r => uptoBulkEntry x + uptoBulkEntries r
def uptoBulkEntry {H : Type} : Lit × DataW H → Nat
  | (.string bytes, d) => bytes.length + uptoBulk d + 1
  | (_, d) => uptoBulk d + 1
 end
def uptoSmall : (H : Type) → List (DataW H) → Bool := fun _ ds => decide (uptoBulkAll ds ≤ 1048576)
def OpenSpec.upto (s : _root_.Go.ChangeSpec) : _root_.Go.OpenSpec := { _root_.Go.OpenSpec.ofChange s with cond := some uptoSmall }

/-- 'souklaw17.AttemptSteps', WHERE WHAT IT READS IS OF BULK AT MOST 1048576: true; the input reads as it did. -/
def attemptStepsUptoRow : OpenClaim := { program := "ytdahgmkbpiklpaa", sum := "803b097b07a072a864ab59fcd18e608ff21df1aa0fbdc11a63403a519f8f5a1f", func := "souk/souklaw17.AttemptSteps", spec := "attemptSteps", apart := false, narrowed := true }
def AttemptStepsUptoSaid : Prop := attemptStepsUptoRow.holds Try.pinned (OpenSpec.upto attemptStepsSpec)

/-- 'souklaw17.AttemptOnce', WHERE WHAT IT READS IS OF BULK AT MOST 1048576: true; the input reads as it did. -/
def attemptOnceUptoRow : OpenClaim := { program := "ytdahgmkbpiklpaa", sum := "803b097b07a072a864ab59fcd18e608ff21df1aa0fbdc11a63403a519f8f5a1f", func := "souk/souklaw17.AttemptOnce", spec := "attemptOnce", unfollowed := true, recurses := true, apart := false, narrowed := true }
def AttemptOnceUptoSaid : Prop := attemptOnceUptoRow.holds Try.pinned (OpenSpec.upto attemptOnceSpec)

/-- 'souklaw17.AttemptEnds', WHERE WHAT IT READS IS OF BULK AT MOST 1048576: true; the input reads as it did. -/
def attemptEndsUptoRow : OpenClaim := { program := "ytdahgmkbpiklpaa", sum := "803b097b07a072a864ab59fcd18e608ff21df1aa0fbdc11a63403a519f8f5a1f", func := "souk/souklaw17.AttemptEnds", spec := "attemptEnds", unfollowed := true, recurses := true, apart := false, narrowed := true }
def AttemptEndsUptoSaid : Prop := attemptEndsUptoRow.holds Try.pinned (OpenSpec.upto attemptEndsSpec)

end Rows
end Go.Proofs.Ytdahgmkbpiklpaa
