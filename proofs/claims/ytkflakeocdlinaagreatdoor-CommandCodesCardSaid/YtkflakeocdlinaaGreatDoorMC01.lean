/-
  Whole blocks of cells (the memory of a boxed struct), and what steps keep of them.
-/
import Derived.Below
import Derived.Lib.BufferOwn
import Derived.RangeFuncBox
import Derived.Deep.OwnRows
import Derived.Test.YtkflakeocdlinaaGreatDoorOctPMC
namespace Go.Proofs.YtkflakeocdlinaaGreatDoor
open Go.RowKit

/-- block b holds these cells, of a variable of type t -/
def Blk (w : World) (b : Nat) (t : TypeId) (cs : Array Value) : Prop := w.heap[b]? = some (.cells cs t (0, 0))

theorem Blk.lt {w : World} {b : Nat} {t : TypeId} {cs : Array Value} (h : Blk w b t cs) : b < w.heap.size := (Array.getElem?_eq_some_iff.1 h).1
theorem Blk.cell {w : World} {b : Nat} {t : TypeId} {cs : Array Value} (h : Blk w b t cs) (i : Nat) : w.cell? ⟨b, i, none⟩ = cs[i]? := by simp [World.cell?, show w.heap[b]? = _ from h]
theorem Blk.frozen {w : World} {b : Nat} {t : TypeId} {cs : Array Value} (h : Blk w b t cs) (i : Nat) : w.frozen? ⟨b, i, none⟩ = false := by simp [World.frozen?, show w.heap[b]? = _ from h]
theorem Blk.new (w : World) (t : TypeId) (cs : Array Value) : Blk (w.alloc (.cells cs t)) w.heap.size t cs := World.alloc_heap_new w _
theorem Blk.kept {w w' : World} {row : Option Nat} {b : Nat} {t : TypeId} {cs : Array Value} (h : Blk w b t cs) (hg : w.grownBy w' row) (hne : some b ≠ row) : Blk w' b t cs := (hg.block b h.lt hne).trans h
theorem Blk.alloc {w : World} {b : Nat} {t : TypeId} {cs : Array Value} (h : Blk w b t cs) (o : Obj) : Blk (w.alloc o) b t cs := h.kept (World.grownBy_alloc w o none) (by simp)
theorem Blk.set {w : World} {b : Nat} {t : TypeId} {cs : Array Value} (h : Blk w b t cs) (i : Nat) (v : Value) : Blk (w.setCell ⟨b, i, none⟩ v) b t (cs.setIfInBounds i v) := by
  obtain ⟨hlt, hk⟩ := Array.getElem?_eq_some_iff.1 h
  show (w.heap.modify b _)[b]? = _
  rw [Array.getElem?_eq_getElem (by rw [Array.size_modify]; exact hlt), Array.getElem_modify_self, hk]
  rfl
theorem Blk.other {w : World} {b : Nat} {t : TypeId} {cs : Array Value} (h : Blk w b t cs) {a : Addr} (hne : b ≠ a.block) (v : Value) : Blk (w.setCell a v) b t cs := (Below.heap_setCell w a v b hne).trans h
theorem Blk.below {B : Nat} {w w' : World} {b : Nat} {t : TypeId} {cs : Array Value} (h : Blk w b t cs) (hb : Below B w w') (hlt : b < B) : Blk w' b t cs := (hb.block b hlt).trans h
theorem Blk.since {w w' : World} {b : Nat} {t : TypeId} {cs : Array Value} (h : Blk w b t cs) (hb : Below w.heap.size w w') : Blk w' b t cs := h.below hb h.lt
theorem Blk.drewN {w : World} {b : Nat} {t : TypeId} {cs : Array Value} (h : Blk w b t cs) (n : Nat) : Blk (w.drewN n) b t cs := h
theorem Blk.ne {w : World} {b b' : Nat} {t t' : TypeId} {cs cs' : Array Value} (h : Blk w b t cs) (h' : Blk w b' t' cs') (ht : t ≠ t') : b ≠ b' := by
  rintro rfl
  have e := (show w.heap[b]? = _ from h).symm.trans h'
  simp at e
  exact ht e.2
theorem Blk.inj {w : World} {b : Nat} {t t' : TypeId} {cs cs' : Array Value} (h : Blk w b t cs) (h' : Blk w b t' cs') : cs = cs' := by
  have e := (show w.heap[b]? = _ from h).symm.trans h'
  simp at e
  exact e.1

/-- a step that writes at most block b, said of what lies below a base -/
theorem Below.of_grown {B : Nat} {a w w' : World} {b : Nat} (h : Below B a w) (hg : w.grownBy w' (some b)) (hB : B ≤ w.heap.size) (hb : B ≤ b) : Below B a w' :=
  h.grown hg hB (fun k e => by injection e with e; omega)
theorem Below.of_grown_none {B : Nat} {a w w' : World} (h : Below B a w) (hg : w.grownBy w' none) (hB : B ≤ w.heap.size) : Below B a w' :=
  h.grown hg hB (fun k e => by cases e)
theorem grown_since {w w' : World} {b : Nat} (h : Below w.heap.size w w') : w.grownBy w' (some b) :=
  ⟨h.os, h.tape, h.output, h.size, fun k hk _ => h.block k hk⟩
end Go.Proofs.YtkflakeocdlinaaGreatDoor
/-
  Plain: shares, and what is wrong with them; parts; rows of structs of a given number of cells.
-/
namespace Go.Proofs.YtkflakeocdlinaaGreatDoor
open Go.RowKit

/-- a share: its party, its weight -/
abbrev Sh := List UInt8 × Int
/-- a part: its party, its net, what is held of that -/
abbrev Prt := List UInt8 × Int × Int

/-- a share that may not be -/
def badS (s : Sh) : Bool := decide (s.1.length = 0 ∨ 20 < s.1.length ∨ s.2 < 1 ∨ 1125899906842624 < s.2)
/-- is there a share of that party? -/
def hasP (p : List UInt8) (xs : List Sh) : Bool := xs.any fun a => decide (a.1 = p)
/-- what is wrong with a share behind others -/
def rbF (s : Sh) (xs : List Sh) : Int := if badS s then 1 else if hasP s.1 xs then 9 else 0
/-- what is wrong with the first so many shares -/
def rgTo (l : List Sh) : Nat → Int
  | 0 => 0
  | k + 1 => if rgTo l k = 0 then (match l[k]? with | some s => rbF s (l.take k) | none => 0) else rgTo l k
/-- what is wrong with shares -/
def rgF (l : List Sh) : Int := if l.length = 0 ∨ 8 < l.length then 1 else rgTo l l.length

theorem rgTo_stop {l : List Sh} {k : Nat} (h : rgTo l k ≠ 0) : ∀ d, rgTo l (k + d) = rgTo l k
  | 0 => rfl
  | d + 1 => by
    have ih := rgTo_stop h d
    rw [← Nat.add_assoc, rgTo, ih, if_neg h]
theorem rgTo_from {l : List Sh} {k n : Nat} (h : rgTo l k ≠ 0) (hk : k ≤ n) : rgTo l n = rgTo l k := by
  have := rgTo_stop h (n - k)
  rwa [show k + (n - k) = n by omega] at this
theorem rgTo_next {l : List Sh} {k : Nat} {s : Sh} (h : rgTo l k = 0) (hs : l[k]? = some s) : rgTo l (k + 1) = rbF s (l.take k) := by
  rw [rgTo, if_pos h, hs]
theorem rgTo_zero {l : List Sh} {n : Nat} (h : rgTo l n = 0) {k : Nat} (hk : k ≤ n) : rgTo l k = 0 := by
  by_cases e : rgTo l k = 0
  · exact e
  · rw [rgTo_from e hk] at h; exact absurd h e
theorem rgTo_good {l : List Sh} {n : Nat} (h : rgTo l n = 0) {k : Nat} {s : Sh} (hk : k < n) (hs : l[k]? = some s) : badS s = false := by
  have h1 := rgTo_zero h (show k + 1 ≤ n by omega)
  rw [rgTo_next (rgTo_zero h (by omega)) hs] at h1
  unfold rbF at h1
  cases hb : badS s with
  | false => rfl
  | true => rw [hb] at h1; simp at h1
theorem badS_not {s : Sh} (h : badS s = false) : 1 ≤ s.1.length ∧ s.1.length ≤ 20 ∧ 1 ≤ s.2 ∧ s.2 ≤ 1125899906842624 := by
  have := of_decide_eq_false h
  omega

/-- is there such a one among the first so many? -/
def anyTo (p : List UInt8) (xs : List Sh) (k : Nat) : Bool := hasP p (xs.take k)
theorem hasP_none {p : List UInt8} {xs : List Sh} (h : ∀ (k : Nat) (s : Sh), xs[k]? = some s → s.1 ≠ p) : hasP p xs = false := by
  unfold hasP
  rw [List.any_eq_false]
  intro x hx
  obtain ⟨k, hk⟩ := List.mem_iff_getElem?.1 hx
  simpa using h k x hk
theorem hasP_some {p : List UInt8} {xs : List Sh} {k : Nat} {s : Sh} (h : xs[k]? = some s) (e : s.1 = p) : hasP p xs = true := by
  unfold hasP
  rw [List.any_eq_true]
  exact ⟨s, List.mem_of_getElem? h, decide_eq_true e⟩

/-- a share's cells; a part's -/
def cSh (x : Sh) : List Value := [.string (st x.1), .int .i64 x.2]
def cPt (x : Prt) : List Value := [.string (st x.1), .int .i64 x.2.1, .int .i64 x.2.2]
theorem cSh_len (x : Sh) : (cSh x).length = 2 := rfl
theorem cPt_len (x : Prt) : (cPt x).length = 3 := rfl

/-- a row of structs of z cells that can be read -/
def RowG {α : Type} (z : Nat) (c : α → List Value) (w : World) (a : Option Addr) (xs : List α) : Prop :=
  0 < xs.length → ∃ b off, a = some ⟨b, off, none⟩ ∧ ∀ (i : Nat) (x : α), xs[i]? = some x → ∀ (j : Nat) (u : Value), (c x)[j]? = some u → w.cell? ⟨b, off + i * z + j, none⟩ = some u

section
variable {α : Type} {z : Nat} {c : α → List Value}

theorem RowG.nil (w : World) (a : Option Addr) : RowG z c w a [] := fun h => absurd h (by simp)
theorem RowG.keep {w w' : World} {a : Option Addr} {xs : List α} (h : RowG z c w a xs) (hb : Below w.heap.size w w') : RowG z c w' a xs := by
  intro h0
  obtain ⟨b, off, e, hc⟩ := h h0
  refine ⟨b, off, e, fun i x hx j u hu => ?_⟩
  have q := hc i x hx j u hu
  rw [hb.cell (p := ⟨b, off + i * z + j, none⟩) (World.block_lt_of_cell? w _ q)]
  exact q
theorem RowG.take {w : World} {a : Option Addr} {xs : List α} (h : RowG z c w a xs) (n : Nat) : RowG z c w a (xs.take n) := by
  intro h0
  rw [List.length_take] at h0
  obtain ⟨b, off, e, hc⟩ := h (by omega)
  refine ⟨b, off, e, fun i x hx j u hu => hc i x ?_ j u hu⟩
  rw [List.getElem?_take] at hx
  split at hx
  · exact hx
  · cases hx
theorem RowG.form {w : World} {a : Option Addr} {xs : List α} (h : RowG z c w a xs) (h0 : 0 < xs.length) : ∃ b off, a = some ⟨b, off, none⟩ := by
  obtain ⟨b, off, e, _⟩ := h h0
  exact ⟨b, off, e⟩
theorem RowG.at {w : World} {b off : Nat} {xs : List α} (h : RowG z c w (some ⟨b, off, none⟩) xs) {i : Nat} {x : α} (hx : xs[i]? = some x) : ∀ (j : Nat) (u : Value), (c x)[j]? = some u → w.cell? ⟨b, off + i * z + j, none⟩ = some u := by
  have hlt := (List.getElem?_eq_some_iff.1 hx).1
  obtain ⟨b', off', e, hc⟩ := h (by omega)
  simp only [Option.some.injEq, Addr.mk.injEq, and_true] at e
  obtain ⟨rfl, rfl⟩ := e
  exact hc i x hx

theorem flat_getG (h4 : ∀ x, (c x).length = z) : ∀ (ss : List α) (i j : Nat) (x : α) (u : Value), ss[i]? = some x → (c x)[j]? = some u → (ss.flatMap c)[i * z + j]? = some u
  | [], i, j, x, u, h, _ => by simp at h
  | y :: r, 0, j, x, u, h, hu => by
    simp only [List.getElem?_cons_zero, Option.some.injEq] at h
    subst h
    have hj : j < (c y).length := (List.getElem?_eq_some_iff.1 hu).1
    rw [List.flatMap_cons, Nat.zero_mul, Nat.zero_add, List.getElem?_append_left hj]
    exact hu
  | y :: r, i + 1, j, x, u, h, hu => by
    simp only [List.getElem?_cons_succ] at h
    have e : (i + 1) * z + j = (c y).length + (i * z + j) := by rw [h4, Nat.succ_mul]; omega
    rw [List.flatMap_cons, e, List.getElem?_append_right (by omega), Nat.add_sub_cancel_left]
    exact flat_getG h4 r i j x u h hu

/-- an own row of them: where it lies, that it can be read -/
theorem RowG.own (h4 : ∀ x, (c x).length = z) {w : World} {B : Nat} {e : TypeId} {v : Value} {n : Nat} {ls : List α} (h : w.ownsRow B e z v n (ls.flatMap c)) (hn : n = ls.length) : ∃ a cp, v = .slice a ls.length cp ∧ RowG z c w a ls ∧ (∀ p, a = some p → B ≤ p.block) ∧ ls.length ≤ cp := by
  rcases h.2 with ⟨hv, h0⟩ | ⟨g, cap, cur, hv, hB, hg, h1, h2, h3, h5⟩
  · refine ⟨none, 0, by rw [hv, ← hn, h0], fun hp => by omega, (fun p hp => by cases hp), by omega⟩
  · refine ⟨some ⟨g, 0, none⟩, cap, by rw [hv, hn], fun _ => ⟨g, 0, rfl, fun i x hx j u hu => ?_⟩, (fun p hp => by injection hp with hp; rw [← hp]; exact hB), ?_⟩
    · have hb : Blk w g e cur := hg
      have hf := flat_getG h4 ls i j x u hx hu
      have hi : i < ls.length := (List.getElem?_eq_some_iff.1 hx).1
      have hj : j < z := by have := (List.getElem?_eq_some_iff.1 hu).1; rwa [h4] at this
      have hm : i * z + j < ls.length * z := by
        have : (i + 1) * z ≤ ls.length * z := Nat.mul_le_mul_right _ hi
        rw [Nat.succ_mul] at this; omega
      rw [← h5, List.getElem?_take_of_lt (by rw [hn]; exact hm)] at hf
      rw [Nat.zero_add, hb.cell, ← Array.getElem?_toList]
      exact hf
    · omega
end

theorem bel_lessG {B B' : Nat} {a b : World} (h : Below B' a b) (hB : B ≤ B') : Below B a b := ⟨h.os, h.tape, h.output, h.size, fun k hk => h.block k (Nat.lt_of_lt_of_le hk hB)⟩
/-- what comes behind -/
theorem bel_onG {B : Nat} {w wr w1 : World} (h : Below B w wr) (hB : B ≤ wr.heap.size) (hb : Below wr.heap.size wr w1) : Below B w w1 := h.trans (bel_lessG hb hB)
end Go.Proofs.YtkflakeocdlinaaGreatDoor
/-
  Plain: a command; what is wrong with it, by the program and by the document; its bytes.
-/
namespace Go.Proofs.YtkflakeocdlinaaGreatDoor
set_option linter.unusedSimpArgs false
set_option linter.unusedVariables false

structure Cm where
  kind : List UInt8
  id : List UInt8
  about : List UInt8
  cur : List UInt8
  cat : List UInt8
  amt : Int
  sh : List Sh

def kSale : List UInt8 := [115, 97, 108, 101]
def kRefund : List UInt8 := [114, 101, 102, 117, 110, 100]
def kCharge : List UInt8 := [99, 104, 97, 114, 103, 101, 98, 97, 99, 107]
def kReverse : List UInt8 := [114, 101, 118, 101, 114, 115, 101]
def kHold : List UInt8 := [104, 111, 108, 100]
def kFree : List UInt8 := [102, 114, 101, 101]
def kTick : List UInt8 := [116, 105, 99, 107]
def kReply : List UInt8 := [114, 101, 112, 108, 121]

def capB (n : Int) : Bool := decide (65 ≤ n ∧ n ≤ 90)
def nlB (n : Int) : Bool := decide (n = 95 ∨ n = 46 ∨ n = 47 ∨ n = 45) || decide ((97 ≤ n ∧ n ≤ 122) ∨ (65 ≤ n ∧ n ≤ 90) ∨ (48 ≤ n ∧ n ≤ 57))
/-- is a text a name, of so many bytes at most? -/
def nameB (s : List UInt8) (m : Nat) : Bool := decide (s ≠ [] ∧ s ≠ [45] ∧ s.length ≤ m) && s.all fun b => nlB b.toNat
def curB (s : List UInt8) : Bool := decide (s.length = 3) && s.all fun b => capB b.toNat
def amtB (n least : Int) : Bool := decide (least ≤ n ∧ n ≤ 1125899906842624)
def namesB (l : List Sh) : Bool := l.all fun s => nameB s.1 20

/-- which fields a kind has -/
def formC (k : List UInt8) : Option (List Nat) :=
  if k = kSale then some [0, 3, 4, 6, 8]
  else if k = kRefund then some [0, 1, 6]
  else if k = kCharge then some [0, 1, 6]
  else if k = kReverse then some [0, 1]
  else if k = kHold then some [0, 1]
  else if k = kFree then some [0, 1]
  else if k = kTick then some []
  else if k = kReply then some [2, 5, 7]
  else none

theorem formC_nine (k : List UInt8) : (k = kSale ∧ formC k = some [0, 3, 4, 6, 8]) ∨ (k = kRefund ∧ formC k = some [0, 1, 6]) ∨ (k = kCharge ∧ formC k = some [0, 1, 6]) ∨ (k = kReverse ∧ formC k = some [0, 1]) ∨
    (k = kHold ∧ formC k = some [0, 1]) ∨ (k = kFree ∧ formC k = some [0, 1]) ∨ (k = kTick ∧ formC k = some []) ∨ (k = kReply ∧ formC k = some [2, 5, 7]) ∨
    (formC k = none ∧ k ≠ kSale ∧ k ≠ kRefund ∧ k ≠ kCharge ∧ k ≠ kReverse ∧ k ≠ kHold ∧ k ≠ kFree ∧ k ≠ kTick ∧ k ≠ kReply) := by
  by_cases h1 : k = kSale
  · exact .inl ⟨h1, by rw [h1]; rfl⟩
  by_cases h2 : k = kRefund
  · exact .inr (.inl ⟨h2, by rw [h2]; rfl⟩)
  by_cases h3 : k = kCharge
  · exact .inr (.inr (.inl ⟨h3, by rw [h3]; rfl⟩))
  by_cases h4 : k = kReverse
  · exact .inr (.inr (.inr (.inl ⟨h4, by rw [h4]; rfl⟩)))
  by_cases h5 : k = kHold
  · exact .inr (.inr (.inr (.inr (.inl ⟨h5, by rw [h5]; rfl⟩))))
  by_cases h6 : k = kFree
  · exact .inr (.inr (.inr (.inr (.inr (.inl ⟨h6, by rw [h6]; rfl⟩)))))
  by_cases h7 : k = kTick
  · exact .inr (.inr (.inr (.inr (.inr (.inr (.inl ⟨h7, by rw [h7]; rfl⟩))))))
  by_cases h8 : k = kReply
  · exact .inr (.inr (.inr (.inr (.inr (.inr (.inr (.inl ⟨h8, by rw [h8]; rfl⟩)))))))
  · refine .inr (.inr (.inr (.inr (.inr (.inr (.inr (.inr ⟨?_, h1, h2, h3, h4, h5, h6, h7, h8⟩)))))))
    unfold formC
    rw [if_neg h1, if_neg h2, if_neg h3, if_neg h4, if_neg h5, if_neg h6, if_neg h7, if_neg h8]

/-- is a field what it must be? -/
def isR (c : Cm) (f : Nat) : Bool :=
  match f with
  | 0 => nameB c.id 20
  | 1 => nameB c.about 20
  | 2 => nameB c.about 60
  | 3 => curB c.cur
  | 4 => decide (c.cat = []) || nameB c.cat 20
  | 5 => nameB c.cat 20
  | 6 => amtB c.amt 1
  | 7 => amtB c.amt 0
  | 8 => namesB c.sh
  | _ => false
/-- without a field -/
def woF (c : Cm) (f : Nat) : Cm :=
  match f with
  | 0 => { c with id := [] }
  | 1 => { c with about := [] }
  | 2 => { c with about := [] }
  | 3 => { c with cur := [] }
  | 4 => { c with cat := [] }
  | 5 => { c with cat := [] }
  | 6 => { c with amt := 0 }
  | 7 => { c with amt := 0 }
  | 8 => { c with sh := [] }
  | _ => c
def bareB (c : Cm) : Bool := decide (c.id = [] ∧ c.about = [] ∧ c.cur = [] ∧ c.cat = [] ∧ c.amt = 0 ∧ c.sh.length = 0)
/-- what is wrong with a command, as the program says it -/
def rightC (c : Cm) : Int :=
  match formC c.kind with
  | none => 1
  | some f => if f.all (isR c) = true then (if bareB (f.foldl woF c) = true then (if f.contains 8 = true then rgF c.sh else 0) else 1) else 1

/-- what is wrong with one, as the document says it -/
def plainD (c : Cm) : Bool :=
  if c.cur ≠ [] ∨ 0 < c.sh.length then false
  else if c.kind = kRefund ∨ c.kind = kCharge then nameB c.id 20 && (nameB c.about 20 && (decide (c.cat = []) && amtB c.amt 1))
  else if c.kind = kReverse ∨ c.kind = kHold ∨ c.kind = kFree then nameB c.id 20 && (nameB c.about 20 && (decide (c.cat = []) && decide (c.amt = 0)))
  else if c.kind = kTick then decide (c.id = []) && (decide (c.about = []) && (decide (c.cat = []) && decide (c.amt = 0)))
  else if c.kind = kReply then decide (c.id = []) && (nameB c.about 60 && (nameB c.cat 20 && amtB c.amt 0))
  else false
def saleD (c : Cm) : Bool := nameB c.id 20 && ((decide (c.cat = []) || nameB c.cat 20) && (curB c.cur && (decide (c.about = []) && amtB c.amt 1)))
def rightD (c : Cm) : Int :=
  if c.kind ≠ kSale then (if plainD c = true then 0 else 1)
  else if saleD c = true then (if namesB c.sh = true then rgF c.sh else 1) else 1

theorem all_five (c : Cm) (a b d e f : Nat) : [a, b, d, e, f].all (isR c) = (isR c a && (isR c b && (isR c d && (isR c e && isR c f)))) := by simp
theorem all_three (c : Cm) (a b d : Nat) : [a, b, d].all (isR c) = (isR c a && (isR c b && isR c d)) := by simp
theorem all_two (c : Cm) (a b : Nat) : [a, b].all (isR c) = (isR c a && isR c b) := by simp

theorem rightD_eq (c : Cm) : rightD c = rightC c := by
  obtain ⟨kind, id, about, cur, cat, amt, sh⟩ := c
  unfold rightD rightC
  simp only
  rcases formC_nine kind with ⟨h, e⟩ | ⟨h, e⟩ | ⟨h, e⟩ | ⟨h, e⟩ | ⟨h, e⟩ | ⟨h, e⟩ | ⟨h, e⟩ | ⟨h, e⟩ | ⟨e, n1, n2, n3, n4, n5, n6, n7, n8⟩
  · have hs : saleD ⟨kind, id, about, cur, cat, amt, sh⟩ = (nameB id 20 && ((decide (cat = []) || nameB cat 20) && (curB cur && (decide (about = []) && amtB amt 1)))) := rfl
    have hb : bareB ([0, 3, 4, 6, 8].foldl woF ⟨kind, id, about, cur, cat, amt, sh⟩) = decide (about = []) := by simp [bareB, woF]
    have ha : [0, 3, 4, 6, 8].all (isR ⟨kind, id, about, cur, cat, amt, sh⟩) = (nameB id 20 && (curB cur && ((decide (cat = []) || nameB cat 20) && (amtB amt 1 && namesB sh)))) := all_five _ _ _ _ _ _
    rw [e, if_neg (by rw [h]; simp)]
    simp only
    rw [hs, hb, ha, if_pos (show ([0, 3, 4, 6, 8] : List Nat).contains 8 = true by decide)]
    generalize nameB id 20 = b1
    generalize curB cur = b2
    generalize (decide (cat = []) || nameB cat 20) = b3
    generalize amtB amt 1 = b4
    generalize namesB sh = b5
    generalize decide (about = []) = b6
    generalize rgF sh = r
    cases b1 <;> cases b2 <;> cases b3 <;> cases b4 <;> cases b5 <;> cases b6 <;> rfl
  iterate 2
    · have hs : plainD ⟨kind, id, about, cur, cat, amt, sh⟩ = (decide (cur = []) && (decide (sh.length = 0) && (nameB id 20 && (nameB about 20 && (decide (cat = []) && amtB amt 1))))) := by
        unfold plainD
        by_cases hc : cur = [] <;> by_cases hl : sh.length = 0 <;> simp [hc, hl, h] <;> omega
      have hb : bareB ([0, 1, 6].foldl woF ⟨kind, id, about, cur, cat, amt, sh⟩) = (decide (cur = []) && (decide (sh.length = 0) && decide (cat = []))) := by
        by_cases hc : cur = [] <;> by_cases hl : sh.length = 0 <;> by_cases ht : cat = [] <;> simp [bareB, woF, hc, hl, ht]
      have ha : [0, 1, 6].all (isR ⟨kind, id, about, cur, cat, amt, sh⟩) = (nameB id 20 && (nameB about 20 && amtB amt 1)) := all_three _ _ _ _
      rw [e, if_pos (by rw [h]; decide)]
      simp only
      rw [hs, hb, ha, if_neg (show ¬ ([0, 1, 6] : List Nat).contains 8 = true by decide)]
      generalize nameB id 20 = b1
      generalize nameB about 20 = b2
      generalize amtB amt 1 = b3
      generalize decide (cur = []) = b4
      generalize decide (cat = []) = b5
      generalize decide (sh.length = 0) = b6
      cases b1 <;> cases b2 <;> cases b3 <;> cases b4 <;> cases b5 <;> cases b6 <;> rfl
  iterate 3
    · have hs : plainD ⟨kind, id, about, cur, cat, amt, sh⟩ = (decide (cur = []) && (decide (sh.length = 0) && (nameB id 20 && (nameB about 20 && (decide (cat = []) && decide (amt = 0)))))) := by
        have q1 : ¬ (kReverse = kRefund ∨ kReverse = kCharge) := by decide
        have q2 : ¬ (kHold = kRefund ∨ kHold = kCharge) := by decide
        have q3 : ¬ (kFree = kRefund ∨ kFree = kCharge) := by decide
        unfold plainD
        by_cases hc : cur = [] <;> by_cases hl : sh.length = 0 <;> simp [hc, hl, h, q1, q2, q3] <;> omega
      have hb : bareB ([0, 1].foldl woF ⟨kind, id, about, cur, cat, amt, sh⟩) = (decide (cur = []) && (decide (sh.length = 0) && (decide (cat = []) && decide (amt = 0)))) := by
        by_cases hc : cur = [] <;> by_cases hl : sh.length = 0 <;> by_cases ht : cat = [] <;> by_cases hm : amt = 0 <;> simp [bareB, woF, hc, hl, ht, hm]
      have ha : [0, 1].all (isR ⟨kind, id, about, cur, cat, amt, sh⟩) = (nameB id 20 && nameB about 20) := all_two _ _ _
      rw [e, if_pos (by rw [h]; decide)]
      simp only
      rw [hs, hb, ha, if_neg (show ¬ ([0, 1] : List Nat).contains 8 = true by decide)]
      generalize nameB id 20 = b1
      generalize nameB about 20 = b2
      generalize decide (amt = 0) = b3
      generalize decide (cur = []) = b4
      generalize decide (cat = []) = b5
      generalize decide (sh.length = 0) = b6
      cases b1 <;> cases b2 <;> cases b3 <;> cases b4 <;> cases b5 <;> cases b6 <;> rfl
  · have hs : plainD ⟨kind, id, about, cur, cat, amt, sh⟩ = bareB ⟨kind, id, about, cur, cat, amt, sh⟩ := by
      have q1 : ¬ (kTick = kRefund ∨ kTick = kCharge) := by decide
      have q2 : ¬ (kTick = kReverse ∨ kTick = kHold ∨ kTick = kFree) := by decide
      unfold plainD bareB
      by_cases hi : id = [] <;> by_cases hb : about = [] <;> by_cases hc : cur = [] <;> by_cases hl : sh.length = 0 <;> by_cases ht : cat = [] <;> by_cases hm : amt = 0 <;> simp [hi, hb, hc, hl, ht, hm, h, q1, q2] <;> omega
    rw [e, if_pos (by rw [h]; decide)]
    simp only
    rw [hs, if_neg (show ¬ ([] : List Nat).contains 8 = true by decide)]
    rfl
  · have hs : plainD ⟨kind, id, about, cur, cat, amt, sh⟩ = (decide (cur = []) && (decide (sh.length = 0) && (decide (id = []) && (nameB about 60 && (nameB cat 20 && amtB amt 0))))) := by
      have q1 : ¬ (kReply = kRefund ∨ kReply = kCharge) := by decide
      have q2 : ¬ (kReply = kReverse ∨ kReply = kHold ∨ kReply = kFree) := by decide
      have q3 : ¬ kReply = kTick := by decide
      unfold plainD
      by_cases hc : cur = [] <;> by_cases hl : sh.length = 0 <;> simp [hc, hl, h, q1, q2, q3] <;> omega
    have hb : bareB ([2, 5, 7].foldl woF ⟨kind, id, about, cur, cat, amt, sh⟩) = (decide (cur = []) && (decide (sh.length = 0) && decide (id = []))) := by
      by_cases hc : cur = [] <;> by_cases hl : sh.length = 0 <;> by_cases ht : id = [] <;> simp [bareB, woF, hc, hl, ht]
    have ha : [2, 5, 7].all (isR ⟨kind, id, about, cur, cat, amt, sh⟩) = (nameB about 60 && (nameB cat 20 && amtB amt 0)) := all_three _ _ _ _
    rw [e, if_pos (by rw [h]; decide)]
    simp only
    rw [hs, hb, ha, if_neg (show ¬ ([2, 5, 7] : List Nat).contains 8 = true by decide)]
    generalize nameB about 60 = b1
    generalize nameB cat 20 = b2
    generalize amtB amt 0 = b3
    generalize decide (cur = []) = b4
    generalize decide (id = []) = b5
    generalize decide (sh.length = 0) = b6
    cases b1 <;> cases b2 <;> cases b3 <;> cases b4 <;> cases b5 <;> cases b6 <;> rfl
  · rw [e, if_pos n1]
    have : plainD ⟨kind, id, about, cur, cat, amt, sh⟩ = false := by
      unfold plainD
      split
      · rfl
      · simp [n2, n3, n4, n5, n6, n7, n8]
    rw [this]; rfl

/-- a command that may be -/
inductive GoodC : Cm → Prop
  | sale (i c t : List UInt8) (a : Int) (s : List Sh) (h1 : nameB i 20 = true) (h2 : curB c = true) (h3 : t = [] ∨ nameB t 20 = true) (h4 : 1 ≤ a ∧ a ≤ 1125899906842624) (h5 : namesB s = true) (h6 : rgF s = 0) : GoodC ⟨kSale, i, [], c, t, a, s⟩
  | take (k i b : List UInt8) (a : Int) (hk : k = kRefund ∨ k = kCharge) (h1 : nameB i 20 = true) (h2 : nameB b 20 = true) (h4 : 1 ≤ a ∧ a ≤ 1125899906842624) : GoodC ⟨k, i, b, [], [], a, []⟩
  | two (k i b : List UInt8) (hk : k = kReverse ∨ k = kHold ∨ k = kFree) (h1 : nameB i 20 = true) (h2 : nameB b 20 = true) : GoodC ⟨k, i, b, [], [], 0, []⟩
  | tick : GoodC ⟨kTick, [], [], [], [], 0, []⟩
  | reply (b t : List UInt8) (a : Int) (h1 : nameB b 60 = true) (h2 : nameB t 20 = true) (h4 : 0 ≤ a ∧ a ≤ 1125899906842624) : GoodC ⟨kReply, [], b, [], t, a, []⟩

theorem good_of {c : Cm} (hr : rightC c = 0) : GoodC c := by
  rw [← rightD_eq] at hr
  obtain ⟨kind, id, about, cur, cat, amt, sh⟩ := c
  unfold rightD at hr
  simp only at hr
  by_cases h1 : kind = kSale
  · rw [if_neg (by simp [h1])] at hr
    by_cases h2 : saleD ⟨kind, id, about, cur, cat, amt, sh⟩ = true
    · rw [if_pos h2] at hr
      by_cases h3 : namesB sh = true
      · rw [if_pos h3] at hr
        unfold saleD at h2
        simp only [Bool.and_eq_true, Bool.or_eq_true, decide_eq_true_eq, amtB] at h2
        obtain ⟨a1, a2, a3, a4, a5⟩ := h2
        subst h1 a4
        exact GoodC.sale id cur cat amt sh a1 a3 a2 a5 h3 hr
      · rw [if_neg h3] at hr; cases hr
    · rw [if_neg h2] at hr; cases hr
  · rw [if_pos h1] at hr
    by_cases h2 : plainD ⟨kind, id, about, cur, cat, amt, sh⟩ = true
    · unfold plainD at h2
      simp only at h2
      split at h2
      · cases h2
      · rename_i g1
        have gc : cur = [] := by
          by_cases e : cur = []
          · exact e
          · exact absurd (.inl e) g1
        have gs : sh = [] := by
          cases sh with
          | nil => rfl
          | cons x r => exact absurd (.inr (by simp)) g1
        subst gc gs
        split at h2
        · rename_i g2
          simp only [Bool.and_eq_true, decide_eq_true_eq, amtB] at h2
          obtain ⟨a1, a2, a3, a4⟩ := h2
          subst a3
          exact GoodC.take kind id about amt g2 a1 a2 a4
        · split at h2
          · rename_i g2
            simp only [Bool.and_eq_true, decide_eq_true_eq] at h2
            obtain ⟨a1, a2, a3, a4⟩ := h2
            subst a3 a4
            exact GoodC.two kind id about g2 a1 a2
          · split at h2
            · rename_i g2
              simp only [Bool.and_eq_true, decide_eq_true_eq] at h2
              obtain ⟨a1, a2, a3, a4⟩ := h2
              subst a1 a2 a3 a4 g2
              exact GoodC.tick
            · split at h2
              · rename_i g2
                simp only [Bool.and_eq_true, decide_eq_true_eq, amtB] at h2
                obtain ⟨a1, a2, a3, a4⟩ := h2
                subst a1 g2
                exact GoodC.reply about cat amt a2 a3 a4
              · cases h2
    · rw [if_neg h2] at hr; cases hr

theorem nameB_some {s : List UInt8} {m : Nat} (h : nameB s m = true) : s ≠ [] ∧ s ≠ [45] ∧ s.length ≤ m ∧ ∀ b ∈ s, nlB b.toNat = true := by
  unfold nameB at h
  simp only [Bool.and_eq_true, decide_eq_true_eq, List.all_eq_true] at h
  exact ⟨h.1.1, h.1.2.1, h.1.2.2, h.2⟩
theorem curB_some {s : List UInt8} (h : curB s = true) : s.length = 3 ∧ ∀ b ∈ s, capB b.toNat = true := by
  unfold curB at h
  simp only [Bool.and_eq_true, decide_eq_true_eq, List.all_eq_true] at h
  exact h
theorem rgF_few8 {l : List Sh} (h : rgF l = 0) : 1 ≤ l.length ∧ l.length ≤ 8 ∧ ∀ s ∈ l, badS s = false := by
  unfold rgF at h
  split at h
  · cases h
  · rename_i hn
    refine ⟨by omega, by omega, fun s hs => ?_⟩
    obtain ⟨i, hi⟩ := List.mem_iff_getElem?.1 hs
    exact rgTo_good h ((List.getElem?_eq_some_iff.1 hi).1) hi

/-- how long a command is that may be -/
theorem good_small {c : Cm} (h : GoodC c) : c.kind.length ≤ 10 ∧ c.id.length ≤ 20 ∧ c.about.length ≤ 60 ∧ c.cur.length ≤ 3 ∧ c.cat.length ≤ 20 ∧ 0 ≤ c.amt ∧ c.amt ≤ 1125899906842624 ∧ c.sh.length ≤ 8 ∧ (∀ s ∈ c.sh, badS s = false) ∧ namesB c.sh = true := by
  cases h with
  | sale i c t a s h1 h2 h3 h4 h5 h6 =>
    have q1 := (nameB_some h1).2.2.1
    have q2 := (curB_some h2).1
    have q3 : t.length ≤ 20 := by
      rcases h3 with h3 | h3
      · rw [h3]; simp
      · exact (nameB_some h3).2.2.1
    obtain ⟨r1, r2, r3⟩ := rgF_few8 h6
    exact ⟨show kSale.length ≤ 10 by decide, q1, by simp, by simp only; omega, q3, by simp only; omega, by simp only; omega, r2, r3, h5⟩
  | take k i b a hk h1 h2 h4 =>
    have q1 := (nameB_some h1).2.2.1
    have q2 := (nameB_some h2).2.2.1
    refine ⟨show k.length ≤ 10 by rcases hk with rfl | rfl <;> decide, q1, by simp only; omega, by simp, by simp, by simp only; omega, by simp only; omega, by simp, by simp, rfl⟩
  | two k i b hk h1 h2 =>
    have q1 := (nameB_some h1).2.2.1
    have q2 := (nameB_some h2).2.2.1
    refine ⟨show k.length ≤ 10 by rcases hk with rfl | rfl | rfl <;> decide, q1, by simp only; omega, by simp, by simp, by simp, by simp, by simp, by simp, rfl⟩
  | tick => exact ⟨show kTick.length ≤ 10 by decide, by simp, by simp, by simp, by simp, by simp, by simp, by simp, by simp, rfl⟩
  | reply b t a h1 h2 h4 =>
    have q1 := (nameB_some h1).2.2.1
    have q2 := (nameB_some h2).2.2.1
    exact ⟨show kReply.length ≤ 10 by decide, by simp, by simp only; omega, by simp, q2, h4.1, h4.2, by simp, by simp, rfl⟩
end Go.Proofs.YtkflakeocdlinaaGreatDoor
/-
  Steps that may change the blocks of a list alone, and make others; what they keep.
-/
namespace Go.Proofs.YtkflakeocdlinaaGreatDoor
open Go.RowKit

structure Stp (fp : List Nat) (w w' : World) : Prop where
  os : w'.os = w.os
  tape : w'.tape = w.tape
  output : w'.output = w.output
  size : w.heap.size ≤ w'.heap.size
  block : ∀ k, k < w.heap.size → k ∉ fp → w'.heap[k]? = w.heap[k]?

theorem Stp.refl (fp : List Nat) (w : World) : Stp fp w w := ⟨rfl, rfl, rfl, Nat.le_refl _, fun _ _ _ => rfl⟩
theorem Stp.of_below {fp : List Nat} {w w' : World} (h : Below w.heap.size w w') : Stp fp w w' := ⟨h.os, h.tape, h.output, h.size, fun k hk _ => h.block k hk⟩
theorem Stp.of_grown {fp : List Nat} {w w' : World} {b : Nat} (h : w.grownBy w' (some b)) (hb : b ∈ fp) : Stp fp w w' :=
  ⟨h.os, h.tape, h.output, h.size, fun k hk hn => h.block k hk (fun e => by injection e with e; subst e; exact hn hb)⟩
theorem Stp.of_grown_row {fp : List Nat} {w w' : World} {r : Option Nat} (h : w.grownBy w' r) (hb : ∀ b, r = some b → b ∈ fp) : Stp fp w w' :=
  ⟨h.os, h.tape, h.output, h.size, fun k hk hn => h.block k hk (fun e => hn (hb k e.symm))⟩
theorem Stp.trans {fp fp' : List Nat} {w w1 w2 : World} (h : Stp fp w w1) (h2 : Stp fp' w1 w2) (hf : ∀ k ∈ fp', k ∈ fp ∨ w.heap.size ≤ k) : Stp fp w w2 :=
  ⟨h2.os.trans h.os, h2.tape.trans h.tape, h2.output.trans h.output, Nat.le_trans h.size h2.size, fun k hk hn =>
    (h2.block k (Nat.lt_of_lt_of_le hk h.size) (fun hm => by rcases hf k hm with h' | h'; exact hn h'; omega)).trans (h.block k hk hn)⟩
theorem Stp.wider {fp fp' : List Nat} {w w' : World} (h : Stp fp w w') (hf : ∀ k ∈ fp, k ∈ fp') : Stp fp' w w' :=
  ⟨h.os, h.tape, h.output, h.size, fun k hk hn => h.block k hk (fun hm => hn (hf k hm))⟩
theorem Stp.below {fp : List Nat} {w w' : World} (h : Stp fp w w') {B : Nat} (hf : ∀ k ∈ fp, B ≤ k) (hB : B ≤ w.heap.size) : Below B w w' :=
  ⟨h.os, h.tape, h.output, h.size, fun k hk => h.block k (Nat.lt_of_lt_of_le hk hB) (fun hm => by have := hf k hm; omega)⟩
theorem Stp.alloc {fp : List Nat} {a w : World} (h : Stp fp a w) (o : Obj) : Stp fp a (w.alloc o) := h.trans (fp' := []) (Stp.of_below ((Below.refl _ _).alloc (Nat.le_refl _) o)) (fun k hk => by cases hk)
theorem Stp.setCell {fp : List Nat} {a w : World} (h : Stp fp a w) {x : Addr} (hx : x.block ∈ fp ∨ a.heap.size ≤ x.block) (v : Value) : Stp fp a (w.setCell x v) :=
  h.trans (fp' := [x.block]) ⟨rfl, rfl, rfl, by simp [World.setCell], fun k hk hn => Below.heap_setCell w x v k (by simpa using hn)⟩ (fun k hk => by rw [List.mem_singleton] at hk; rw [hk]; exact hx)
theorem Stp.drewN {fp : List Nat} {a w : World} (h : Stp fp a w) (n : Nat) : Stp fp a (w.drewN n) := ⟨h.os, h.tape, h.output, h.size, h.block⟩
theorem Stp.drew {fp : List Nat} {a w : World} (h : Stp fp a w) : Stp fp a w.drew := ⟨h.os, h.tape, h.output, h.size, h.block⟩
theorem Stp.setRow {fp : List Nat} {a w : World} (h : Stp fp a w) {g : Nat} (hx : g ∈ fp ∨ a.heap.size ≤ g) (cs : Array Value) : Stp fp a (w.setRow g cs) :=
  h.trans (fp' := [g]) ⟨rfl, rfl, rfl, by rw [setRow_size]; exact Nat.le_refl _, fun k hk hn => setRow_other w g k cs (fun e => hn (by simp [e]))⟩ (fun k hk => by rw [List.mem_singleton] at hk; rw [hk]; exact hx)

theorem Blk.stp {fp : List Nat} {w w' : World} {b : Nat} {t : TypeId} {cs : Array Value} (h : Blk w b t cs) (hs : Stp fp w w') (hn : b ∉ fp) : Blk w' b t cs := (hs.block b h.lt hn).trans h
theorem own_stp {fp : List Nat} {w w' : World} {base : Nat} {e : TypeId} {size : Nat} {v : Value} {n : Nat} {xs : List Value} (h : w.ownsRow base e size v n xs) (hs : Stp fp w w') (hn : ∀ k, v.ownBlock = some k → k ∉ fp) : w'.ownsRow base e size v n xs := by
  refine ⟨h.1, ?_⟩
  rcases h.2 with h0 | ⟨g, cap, cur, hv, hb, hg, hr⟩
  · exact .inl h0
  · refine .inr ⟨g, cap, cur, hv, hb, ?_, hr⟩
    rw [hs.block g (Array.getElem?_eq_some_iff.1 hg).1 (hn g (by rw [hv]; rfl))]
    exact hg

/-- what is left behind such a step: what P says of a list of blocks, none of which was another's -/
def After (fp : List Nat) (w w' : World) (P : List Nat → Prop) : Prop := ∃ fp', P fp' ∧ Stp fp w w' ∧ ∀ k ∈ fp', k ∈ fp ∨ w.heap.size ≤ k

theorem After.step {fp fp1 : List Nat} {w w1 w2 : World} {P : List Nat → Prop} (h1 : Stp fp w w1) (hf : ∀ k ∈ fp1, k ∈ fp ∨ w.heap.size ≤ k) (h2 : After fp1 w1 w2 P) : After fp w w2 P := by
  obtain ⟨fp', hp, hs, hn⟩ := h2
  refine ⟨fp', hp, h1.trans hs hf, fun k hk => ?_⟩
  rcases hn k hk with h | h
  · exact hf k h
  · exact .inr (Nat.le_trans h1.size h)
theorem After.of {fp : List Nat} {w w' : World} {P : List Nat → Prop} (hs : Stp fp w w') (h : P fp) : After fp w w' P := ⟨fp, h, hs, fun _ hk => .inl hk⟩

theorem After.apart {fp fp2 fp' : List Nat} {w : World} (hd : ∀ k ∈ fp, k ∉ fp2) (h2 : ∀ k ∈ fp2, k < w.heap.size) (hf : ∀ k ∈ fp', k ∈ fp ∨ w.heap.size ≤ k) : ∀ k ∈ fp', k ∉ fp2 := fun k hk hm => by
  rcases hf k hk with h | h
  · exact hd k h hm
  · have := h2 k hm; omega
end Go.Proofs.YtkflakeocdlinaaGreatDoor
