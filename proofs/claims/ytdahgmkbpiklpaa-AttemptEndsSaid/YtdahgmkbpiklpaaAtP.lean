/-
  Plain: a payout; what it does at a tick, and what it hears.
-/
import Derived.Test.YtdahgmkbpiklpaaGtP
import Derived.Test.YtdahgmkbpiklpaaDlB
namespace Go.Proofs.Ytdahgmkbpiklpaa
open Go.RowKit

/-- a payout -/
structure Py where
  key : List UInt8
  party : List UInt8
  cur : List UInt8
  amt : Int
  state : List UInt8
  next : Int
  tries : Int
  att : Int
def cPy (x : Py) : List Value := [.string (st x.key), .string (st x.party), .string (st x.cur), .int .i64 x.amt, .string (st x.state), .int .i64 x.next, .int .i64 x.tries, .int .i64 x.att]

def kReady : List UInt8 := [114, 101, 97, 100, 121]
def kAsked : List UInt8 := [97, 115, 107, 101, 100]
def kQueried : List UInt8 := [113, 117, 101, 114, 105, 101, 100]
def kPaid : List UInt8 := [112, 97, 105, 100]
def kBack : List UInt8 := [98, 97, 99, 107]

/-- is it over? -/
def overB (s : List UInt8) : Bool := decide (s = kPaid) || decide (s = kBack)
/-- is nothing done at that tick? -/
def idleB (p : Py) (now : Int) : Bool := overB p.state || decide (now < p.next)
def putP (p : Py) (from' : Int) : Py := { p with next := from' + bkoI p.tries, tries := p.tries + 1 }
/-- a payout behind a tick -/
def goP (p : Py) (now : Int) : Py :=
  if p.state = kReady then { p with att := p.att + 1, next := now + 2, state := kAsked }
  else if p.state = kAsked then { p with att := p.att + 1, next := now + 2, state := kQueried }
  else { p with att := p.att + 1, next := now + 2 + bkoI p.tries, tries := p.tries + 1 }
def goR (p : Py) : Rq := (if p.state = kReady then kPay else kQuery, p.key, p.party, p.cur, p.amt, p.att + 1)
def stepP (p : Py) (now : Int) : Py := if idleB p now then p else goP p now
def stepR (p : Py) (now : Int) : Rq := if idleB p now then ([], [], [], [], 0, 0) else goR p
/-- is it made ready by that reply? -/
def redoB (p : Py) (kind : List UInt8) (att : Int) : Bool := decide (kind = kUnk) && (decide (p.state = kQueried) && decide (p.att = att))
/-- a payout behind a reply -/
def hearP (p : Py) (kind : List UInt8) (att now : Int) : Py :=
  if overB p.state then p
  else if kind = kAcc then { p with state := kPaid }
  else if kind = kDec then { p with state := kBack }
  else if redoB p kind att then { p with state := kReady, next := now + bkoI p.tries, tries := p.tries + 1 }
  else p
def hearB (p : Py) (kind : List UInt8) (att : Int) : Bool := !overB p.state && (decide (kind = kAcc) || (decide (kind = kDec) || redoB p kind att))

/-- a number that can be counted on from -/
def Sm (n : Int) : Prop := -4611686018427387904 ≤ n ∧ n ≤ 4611686018427387904
theorem Sm.tk {n : Int} (h : Sm n) : Tk n := by unfold Sm at h; unfold Tk; omega

theorem infoPy : (Try.prog.info? 23).map (·.size) = some 8 := by kernel_rfl
theorem infoReq : (Try.prog.info? 29).map (·.size) = some 6 := by kernel_rfl

/-- eight cells that are laid into a block of eight -/
theorem Blk.put8 {w : World} {b : Nat} {t : TypeId} {a0 a1 a2 a3 a4 a5 a6 a7 : Value} (h : Blk w b t #[a0, a1, a2, a3, a4, a5, a6, a7]) (v0 v1 v2 v3 v4 v5 v6 v7 : Value) :
    Blk ((((((((w.setCell ⟨b, 0, none⟩ v0).setCell ⟨b, 1, none⟩ v1).setCell ⟨b, 2, none⟩ v2).setCell ⟨b, 3, none⟩ v3).setCell ⟨b, 4, none⟩ v4).setCell ⟨b, 5, none⟩ v5).setCell ⟨b, 6, none⟩ v6).setCell ⟨b, 7, none⟩ v7) b t #[v0, v1, v2, v3, v4, v5, v6, v7] := by
  have h0 := h.set 0 v0
  have h1 := h0.set 1 v1
  have h2 := h1.set 2 v2
  have h3 := h2.set 3 v3
  have h4 := h3.set 4 v4
  have h5 := h4.set 5 v5
  have h6 := h5.set 6 v6
  have h7 := h6.set 7 v7
  simp only [List.setIfInBounds_toArray, List.set_cons_zero, List.set_cons_succ] at h7
  exact h7
/-- six cells that are laid into a block of six -/
theorem Blk.put6 {w : World} {b : Nat} {t : TypeId} {a0 a1 a2 a3 a4 a5 : Value} (h : Blk w b t #[a0, a1, a2, a3, a4, a5]) (v0 v1 v2 v3 v4 v5 : Value) :
    Blk ((((((w.setCell ⟨b, 0, none⟩ v0).setCell ⟨b, 1, none⟩ v1).setCell ⟨b, 2, none⟩ v2).setCell ⟨b, 3, none⟩ v3).setCell ⟨b, 4, none⟩ v4).setCell ⟨b, 5, none⟩ v5) b t #[v0, v1, v2, v3, v4, v5] := by
  have h0 := h.set 0 v0
  have h1 := h0.set 1 v1
  have h2 := h1.set 2 v2
  have h3 := h2.set 3 v3
  have h4 := h3.set 4 v4
  have h5 := h4.set 5 v5
  simp only [List.setIfInBounds_toArray, List.set_cons_zero, List.set_cons_succ] at h5
  exact h5
theorem Blk.cells8 {w : World} {b : Nat} {t : TypeId} {a0 a1 a2 a3 a4 a5 a6 a7 : Value} (h : Blk w b t #[a0, a1, a2, a3, a4, a5, a6, a7]) :
    w.cell? ⟨b, 0, none⟩ = some a0 ∧ w.cell? ⟨b, 1, none⟩ = some a1 ∧ w.cell? ⟨b, 2, none⟩ = some a2 ∧ w.cell? ⟨b, 3, none⟩ = some a3 ∧ w.cell? ⟨b, 4, none⟩ = some a4 ∧ w.cell? ⟨b, 5, none⟩ = some a5 ∧ w.cell? ⟨b, 6, none⟩ = some a6 ∧ w.cell? ⟨b, 7, none⟩ = some a7 :=
  ⟨h.cell 0, h.cell 1, h.cell 2, h.cell 3, h.cell 4, h.cell 5, h.cell 6, h.cell 7⟩
theorem Blk.cells6 {w : World} {b : Nat} {t : TypeId} {a0 a1 a2 a3 a4 a5 : Value} (h : Blk w b t #[a0, a1, a2, a3, a4, a5]) :
    w.cell? ⟨b, 0, none⟩ = some a0 ∧ w.cell? ⟨b, 1, none⟩ = some a1 ∧ w.cell? ⟨b, 2, none⟩ = some a2 ∧ w.cell? ⟨b, 3, none⟩ = some a3 ∧ w.cell? ⟨b, 4, none⟩ = some a4 ∧ w.cell? ⟨b, 5, none⟩ = some a5 :=
  ⟨h.cell 0, h.cell 1, h.cell 2, h.cell 3, h.cell 4, h.cell 5⟩
theorem Blk.cells2 {w : World} {b : Nat} {t : TypeId} {a0 a1 : Value} (h : Blk w b t #[a0, a1]) :
    w.cell? ⟨b, 0, none⟩ = some a0 ∧ w.cell? ⟨b, 1, none⟩ = some a1 :=
  ⟨h.cell 0, h.cell 1⟩
theorem Blk.cells3 {w : World} {b : Nat} {t : TypeId} {a0 a1 a2 : Value} (h : Blk w b t #[a0, a1, a2]) :
    w.cell? ⟨b, 0, none⟩ = some a0 ∧ w.cell? ⟨b, 1, none⟩ = some a1 ∧ w.cell? ⟨b, 2, none⟩ = some a2 :=
  ⟨h.cell 0, h.cell 1, h.cell 2⟩
end Go.Proofs.Ytdahgmkbpiklpaa
