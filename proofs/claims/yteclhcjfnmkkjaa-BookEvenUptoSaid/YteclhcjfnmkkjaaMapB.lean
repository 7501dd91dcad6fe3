/-
  A step of a range over a map, for the walk: what is known of it stays shut.
-/
import Derived.Test.YteclhcjfnmkkjaaMapF
import Derived.Lib.Hide
namespace Go.Proofs.Yteclhcjfnmkkjaa
open Go.RowKit Go.Maps Go.Lib

/-- something, in a box of its own -/
structure Bx (α : Type) where
  val : α

/-- nothing is left to come -/
def NoLeft {α : Type} (left : α → Bool) : Prop := ∀ c, left c = false

section
variable {P : Program} {T K E : TypeId} {α : Type} {mk : α → Value} {ok : α → Prop} {kl : α → Lit} [DecidableEq α]
variable (w : World) {ops : Array Oper} {rest : List Oper} {o : Oper} {a : Act} {Q : Exit → Act → World → Prop}

/-- an entry has come -/
structure Came (P : Program) (K E : TypeId) (ok : α → Prop) (kl : α → Lit) (w w' : World) (b r n : Nat) (f : α → Option Int) (left : α → Bool) (cnt' : Nat) (c : α) (v : Int) : Prop where
  oks : ok c
  was : left c = true
  val : f c = some v
  amt : Amt v
  rng : RngF P K E ok kl w' b r n f (fun d => left d && !decide (d = c)) cnt'
  stp : Stp [r] w w'

theorem wpList_nextB (M : KM P T K E mk ok kl) (hg : o.guard = none) (it : Operand) (hop : o.op = Op.next it false) (b r n : Nat) (f : α → Option Int) (left : α → Bool) (cnt : Nat) (hit : a.eval it = .pointer (some ⟨r, 0, none⟩)) (h : RngF P K E ok kl w b r n f left cnt)
    (hDone : Hid (NoLeft left) → wpList P ops Q rest (a.put o.dst (.tuple #[.bool false])) w)
    (hMore : ∀ (c : Bx α) (v : Int) (w' : World) (cnt' : Nat), Came P K E ok kl w w' b r n f left cnt' c.val v → cnt' < cnt →
      (Instr.entry (.pointer (some ⟨r, 0, none⟩))).run P w' = .ok (.tuple #[mk c.val, .int .i64 v]) w' → wpList P ops Q rest (a.put o.dst (.tuple #[.bool true, mk c.val, .int .i64 v])) w') : wpList P ops Q (o :: rest) a w :=
  wpList_nextF w M hg it hop b r n f left cnt hit h (fun _ hl => hDone hl) (fun c v w' cnt' h1 h2 h3 h4 h5 h6 h7 h8 => hMore ⟨c⟩ v w' cnt' ⟨h1, h2, h3, h4, h5, h7⟩ h6 h8)
end
end Go.Proofs.Yteclhcjfnmkkjaa
