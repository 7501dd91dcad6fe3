/-
  Plain: the tokens of a plan, as lists of bytes.
-/
import Derived.Test.YtjegfoeempojiaaDoorOctP
import Derived.Lib.SlTrimSet
namespace Go.Proofs.YtjegfoeempojiaaDoor

def isFig (c : UInt8) : Bool := decide (48 ≤ c.toNat) && decide (c.toNat ≤ 57)
def isLet (c : UInt8) : Bool := decide (97 ≤ c.toNat) && decide (c.toNat ≤ 122)
def isBlk (c : UInt8) : Bool := decide (c.toNat = 32) || (decide (c.toNat = 10) || decide (c.toNat = 9))

/-- the number that figures say -/
def woL (l : List UInt8) : Nat := l.foldl (fun n c => n * 10 + (c.toNat - 48)) 0

theorem foldl_wo_snoc (l : List UInt8) (c : UInt8) : woL (l ++ [c]) = woL l * 10 + (c.toNat - 48) := by simp [woL]

theorem woL_lt : ∀ (n : Nat) (l : List UInt8), l.length = n → (∀ c ∈ l, isFig c = true) → woL l < 10 ^ n := by
  intro n
  induction n with
  | zero => intro l hl _; rw [List.length_eq_zero_iff.1 hl]; decide
  | succ n ih =>
    intro l hl h
    have hne : l ≠ [] := by intro e; rw [e] at hl; simp at hl
    have e := List.dropLast_concat_getLast hne
    have h1 := ih l.dropLast (by simp [hl]) (fun c hc => h c (by rw [← e]; exact List.mem_append_left _ hc))
    have h2 := h _ (List.getLast_mem hne)
    rw [← e, foldl_wo_snoc, Nat.pow_succ]
    simp [isFig] at h2
    omega

/-- what makes figures ahead of a text a rate -/
def rEnd (l : List UInt8) : List UInt8 :=
  match l with
  | [] => []
  | c :: r =>
    if c = 37 then [37]
    else if c = 46 then
      let n := (r.takeWhile isFig).length
      if n < 1 ∨ 2 < n ∨ (r.drop n).head? ≠ some 37 then [] else (c :: r).take (n + 2)
    else []

/-- how many hundredths a rate's end says -/
def huL (e : List UInt8) : Nat := woL ((Go.Lib.trimS e [46, 37] ++ [48, 48]).take 2)

/-- a token: its kind, its text, its number -/
abbrev Tk := Nat × List UInt8 × Nat

/-- the name that begins a text -/
def nmL (l : List UInt8) : Option Tk := if 20 < (l.takeWhile isLet).length then none else some (0, l.takeWhile isLet, 0)

/-- the number, or the rate, that begins a text -/
def nrL (l : List UInt8) : Option Tk :=
  let f := l.takeWhile isFig
  if 16 < f.length then none
  else
    let e := rEnd (l.drop f.length)
    if e = [] then some (1, f, woL f)
    else if 1000000 < woL f then none
    else some (2, l.take (f.length + e.length), woL f * 100 + huL e)

/-- what begins a text: a token; 'over' (2); or nothing (3) -/
def oneL (c : UInt8) (l : List UInt8) : Except Nat Tk :=
  if c = 59 then .ok (3, [59], 0)
  else if isLet c then (match nmL l with | some t => .ok t | none => .error 2)
  else if isFig c then (match nrL l with | some t => .ok t | none => .error 2)
  else .error 3

/-- a text's tokens, each with its place; or where it is wrong, and how -/
def tksL : Nat → List UInt8 → Nat → Except (Nat × Nat) (List (Tk × Nat))
  | 0, _, _ => .ok []
  | _ + 1, [], _ => .ok []
  | f + 1, c :: r, at_ =>
    if isBlk c then tksL f r (at_ + 1)
    else match oneL c (c :: r) with
      | .error e => .error (at_, e)
      | .ok t => match tksL f ((c :: r).drop t.2.1.length) (at_ + t.2.1.length) with
        | .error e => .error e
        | .ok ts => .ok ((t, at_) :: ts)

def tokL (l : List UInt8) : Except (Nat × Nat) (List (Tk × Nat)) := tksL l.length l 0
end Go.Proofs.YtjegfoeempojiaaDoor
