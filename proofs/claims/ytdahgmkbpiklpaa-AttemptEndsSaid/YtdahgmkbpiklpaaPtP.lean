/-
  Plain: shares, and what is wrong with them; parts; rows of structs of a given number of cells.
-/
import Derived.Test.YtdahgmkbpiklpaaOctP
import Derived.Test.YtdahgmkbpiklpaaHeap
namespace Go.Proofs.Ytdahgmkbpiklpaa
open Go.RowKit

/-- a share: its party, its weight -/
abbrev Sh := List UInt8 × Int
/-- a part: its party, its net, what is held of that -/
abbrev Prt := List UInt8 × Int × Int

/-- a share that may not be -/
def badS (s : Sh) : Bool := decide (s.1.length = 0 ∨ 20 < s.1.length ∨ s.2 < 1 ∨ 1125899906842624 < s.2)
/-- is there a share of that party? -/
def hasP (p : List UInt8) (xs : List Sh) : Bool := xs.any fun a => decide (a.1 = p)
/-- what is wrong with a share behind others -/
def rbF (s : Sh) (xs : List Sh) : Int := if badS s then 1 else if hasP s.1 xs then 9 else 0
/-- what is wrong with the first so many shares -/
def rgTo (l : List Sh) : Nat → Int
  | 0 => 0
  | k + 1 => if rgTo l k = 0 then (match l[k]? with | some s => rbF s (l.take k) | none => 0) else rgTo l k
/-- what is wrong with shares -/
def rgF (l : List Sh) : Int := if l.length = 0 ∨ 8 < l.length then 1 else rgTo l l.length

theorem rgTo_stop {l : List Sh} {k : Nat} (h : rgTo l k ≠ 0) : ∀ d, rgTo l (k + d) = rgTo l k
  | 0 => rfl
  | d + 1 => by
    have ih := rgTo_stop h d
    rw [← Nat.add_assoc, rgTo, ih, if_neg h]
theorem rgTo_from {l : List Sh} {k n : Nat} (h : rgTo l k ≠ 0) (hk : k ≤ n) : rgTo l n = rgTo l k := by
  have := rgTo_stop h (n - k)
  rwa [show k + (n - k) = n by omega] at this
theorem rgTo_next {l : List Sh} {k : Nat} {s : Sh} (h : rgTo l k = 0) (hs : l[k]? = some s) : rgTo l (k + 1) = rbF s (l.take k) := by
  rw [rgTo, if_pos h, hs]
theorem rgTo_zero {l : List Sh} {n : Nat} (h : rgTo l n = 0) {k : Nat} (hk : k ≤ n) : rgTo l k = 0 := by
  by_cases e : rgTo l k = 0
  · exact e
  · rw [rgTo_from e hk] at h; exact absurd h e
theorem rgTo_good {l : List Sh} {n : Nat} (h : rgTo l n = 0) {k : Nat} {s : Sh} (hk : k < n) (hs : l[k]? = some s) : badS s = false := by
  have h1 := rgTo_zero h (show k + 1 ≤ n by omega)
  rw [rgTo_next (rgTo_zero h (by omega)) hs] at h1
  unfold rbF at h1
  cases hb : badS s with
  | false => rfl
  | true => rw [hb] at h1; simp at h1
theorem badS_not {s : Sh} (h : badS s = false) : 1 ≤ s.1.length ∧ s.1.length ≤ 20 ∧ 1 ≤ s.2 ∧ s.2 ≤ 1125899906842624 := by
  have := of_decide_eq_false h
  omega

/-- is there such a one among the first so many? -/
def anyTo (p : List UInt8) (xs : List Sh) (k : Nat) : Bool := hasP p (xs.take k)
theorem hasP_none {p : List UInt8} {xs : List Sh} (h : ∀ (k : Nat) (s : Sh), xs[k]? = some s → s.1 ≠ p) : hasP p xs = false := by
  unfold hasP
  rw [List.any_eq_false]
  intro x hx
  obtain ⟨k, hk⟩ := List.mem_iff_getElem?.1 hx
  simpa using h k x hk
theorem hasP_some {p : List UInt8} {xs : List Sh} {k : Nat} {s : Sh} (h : xs[k]? = some s) (e : s.1 = p) : hasP p xs = true := by
  unfold hasP
  rw [List.any_eq_true]
  exact ⟨s, List.mem_of_getElem? h, decide_eq_true e⟩

/-- a share's cells; a part's -/
def cSh (x : Sh) : List Value := [.string (st x.1), .int .i64 x.2]
def cPt (x : Prt) : List Value := [.string (st x.1), .int .i64 x.2.1, .int .i64 x.2.2]
theorem cSh_len (x : Sh) : (cSh x).length = 2 := rfl
theorem cPt_len (x : Prt) : (cPt x).length = 3 := rfl

/-- a row of structs of z cells that can be read -/
def RowG {α : Type} (z : Nat) (c : α → List Value) (w : World) (a : Option Addr) (xs : List α) : Prop :=
  0 < xs.length → ∃ b off, a = some ⟨b, off, none⟩ ∧ ∀ (i : Nat) (x : α), xs[i]? = some x → ∀ (j : Nat) (u : Value), (c x)[j]? = some u → w.cell? ⟨b, off + i * z + j, none⟩ = some u

section
variable {α : Type} {z : Nat} {c : α → List Value}

theorem RowG.nil (w : World) (a : Option Addr) : RowG z c w a [] := fun h => absurd h (by simp)
theorem RowG.keep {w w' : World} {a : Option Addr} {xs : List α} (h : RowG z c w a xs) (hb : Below w.heap.size w w') : RowG z c w' a xs := by
  intro h0
  obtain ⟨b, off, e, hc⟩ := h h0
  refine ⟨b, off, e, fun i x hx j u hu => ?_⟩
  have q := hc i x hx j u hu
  rw [hb.cell (p := ⟨b, off + i * z + j, none⟩) (World.block_lt_of_cell? w _ q)]
  exact q
theorem RowG.take {w : World} {a : Option Addr} {xs : List α} (h : RowG z c w a xs) (n : Nat) : RowG z c w a (xs.take n) := by
  intro h0
  rw [List.length_take] at h0
  obtain ⟨b, off, e, hc⟩ := h (by omega)
  refine ⟨b, off, e, fun i x hx j u hu => hc i x ?_ j u hu⟩
  rw [List.getElem?_take] at hx
  split at hx
  · exact hx
  · cases hx
theorem RowG.form {w : World} {a : Option Addr} {xs : List α} (h : RowG z c w a xs) (h0 : 0 < xs.length) : ∃ b off, a = some ⟨b, off, none⟩ := by
  obtain ⟨b, off, e, _⟩ := h h0
  exact ⟨b, off, e⟩
theorem RowG.at {w : World} {b off : Nat} {xs : List α} (h : RowG z c w (some ⟨b, off, none⟩) xs) {i : Nat} {x : α} (hx : xs[i]? = some x) : ∀ (j : Nat) (u : Value), (c x)[j]? = some u → w.cell? ⟨b, off + i * z + j, none⟩ = some u := by
  have hlt := (List.getElem?_eq_some_iff.1 hx).1
  obtain ⟨b', off', e, hc⟩ := h (by omega)
  simp only [Option.some.injEq, Addr.mk.injEq, and_true] at e
  obtain ⟨rfl, rfl⟩ := e
  exact hc i x hx

theorem flat_getG (h4 : ∀ x, (c x).length = z) : ∀ (ss : List α) (i j : Nat) (x : α) (u : Value), ss[i]? = some x → (c x)[j]? = some u → (ss.flatMap c)[i * z + j]? = some u
  | [], i, j, x, u, h, _ => by simp at h
  | y :: r, 0, j, x, u, h, hu => by
    simp only [List.getElem?_cons_zero, Option.some.injEq] at h
    subst h
    have hj : j < (c y).length := (List.getElem?_eq_some_iff.1 hu).1
    rw [List.flatMap_cons, Nat.zero_mul, Nat.zero_add, List.getElem?_append_left hj]
    exact hu
  | y :: r, i + 1, j, x, u, h, hu => by
    simp only [List.getElem?_cons_succ] at h
    have e : (i + 1) * z + j = (c y).length + (i * z + j) := by rw [h4, Nat.succ_mul]; omega
    rw [List.flatMap_cons, e, List.getElem?_append_right (by omega), Nat.add_sub_cancel_left]
    exact flat_getG h4 r i j x u h hu

/-- an own row of them: where it lies, that it can be read -/
theorem RowG.own (h4 : ∀ x, (c x).length = z) {w : World} {B : Nat} {e : TypeId} {v : Value} {n : Nat} {ls : List α} (h : w.ownsRow B e z v n (ls.flatMap c)) (hn : n = ls.length) : ∃ a cp, v = .slice a ls.length cp ∧ RowG z c w a ls ∧ (∀ p, a = some p → B ≤ p.block) ∧ ls.length ≤ cp := by
  rcases h.2 with ⟨hv, h0⟩ | ⟨g, cap, cur, hv, hB, hg, h1, h2, h3, h5⟩
  · refine ⟨none, 0, by rw [hv, ← hn, h0], fun hp => by omega, (fun p hp => by cases hp), by omega⟩
  · refine ⟨some ⟨g, 0, none⟩, cap, by rw [hv, hn], fun _ => ⟨g, 0, rfl, fun i x hx j u hu => ?_⟩, (fun p hp => by injection hp with hp; rw [← hp]; exact hB), ?_⟩
    · have hb : Blk w g e cur := hg
      have hf := flat_getG h4 ls i j x u hx hu
      have hi : i < ls.length := (List.getElem?_eq_some_iff.1 hx).1
      have hj : j < z := by have := (List.getElem?_eq_some_iff.1 hu).1; rwa [h4] at this
      have hm : i * z + j < ls.length * z := by
        have : (i + 1) * z ≤ ls.length * z := Nat.mul_le_mul_right _ hi
        rw [Nat.succ_mul] at this; omega
      rw [← h5, List.getElem?_take_of_lt (by rw [hn]; exact hm)] at hf
      rw [Nat.zero_add, hb.cell, ← Array.getElem?_toList]
      exact hf
    · omega
end

theorem bel_lessG {B B' : Nat} {a b : World} (h : Below B' a b) (hB : B ≤ B') : Below B a b := ⟨h.os, h.tape, h.output, h.size, fun k hk => h.block k (Nat.lt_of_lt_of_le hk hB)⟩
/-- what comes behind -/
theorem bel_onG {B : Nat} {w wr w1 : World} (h : Below B w wr) (hB : B ≤ wr.heap.size) (hb : Below wr.heap.size wr w1) : Below B w w1 := h.trans (bel_lessG hb hB)
end Go.Proofs.Ytdahgmkbpiklpaa
