/-
  The library's table of tens, kept.
-/
import Derived.Test.YtkflakeocdlinaaGreatDoorProg
import Derived.Test.YtkflakeocdlinaaGreatDoorMP03
import Derived.Sort.Grow
import Derived.Lib.LaidTab
import Derived.Lib.ItoaMem
import Derived.Test.YtkflakeocdlinaaGreatDoorRowPMP
namespace Go.Proofs.YtkflakeocdlinaaGreatDoor
open Go.RowKit Go.Maps

/-- the library's table of tens lies in memory -/
def Tab (w : World) : Prop := Lib.TabIs Tryz.prog w "internal/strconv.uint64pow10" .u64 Lib.pow10Tab
theorem Tab.keep {w w' : World} (h : Tab w) (hb : Below w.heap.size w w') : Tab w' := by
  have hg : Tryz.prog.globalNamed "internal/strconv.uint64pow10" = some 1 := by kernel_rfl
  unfold Tab Lib.TabIs World.var? at h ⊢
  rw [hg] at h ⊢
  simp only [Option.bind_some] at h ⊢
  have hlt : 1 < w.heap.size := by
    rcases Nat.lt_or_ge 1 w.heap.size with h' | h'
    · exact h'
    · rw [Array.getElem?_eq_none h'] at h; cases h
  rw [hb.block 1 hlt]
  exact h

theorem bel_grow {w : World} (k : Nat) (os : Array Obj) : Below w.heap.size w (Go.Sort.grow (w.drewN k) os) := by
  refine ⟨rfl, rfl, rfl, ?_, fun i hi => ?_⟩
  · show w.heap.size ≤ (w.heap ++ os).size
    rw [Array.size_append]; omega
  · show (w.heap ++ os)[i]? = w.heap[i]?
    rw [Array.getElem?_append_left hi]
end Go.Proofs.YtkflakeocdlinaaGreatDoor
/-
  The library's variables, kept; rows that are made, and filled by stores.
-/
namespace Go.Proofs.YtkflakeocdlinaaGreatDoor
open Go.RowKit Go.Deep

/-- the library's variables: a table of tens, two errors, a number -/
structure Vars (w : World) : Prop where
  tab : Tab w
  max : ∃ m, w.cell? ⟨0, 0, none⟩ = some (.int .i64 m)
  syn : ∃ tp p, w.cell? ⟨4, 0, none⟩ = some (.iface tp p)
  ran : ∃ tp p, w.cell? ⟨5, 0, none⟩ = some (.iface tp p)
theorem cell_keepV {w w' : World} {p : Addr} {v : Value} (h : w.cell? p = some v) (hb : Below w.heap.size w w') : w'.cell? p = some v := by
  rw [hb.cell (World.block_lt_of_cell? w p h)]; exact h
theorem Vars.keep {w w' : World} (h : Vars w) (hb : Below w.heap.size w w') : Vars w' := by
  obtain ⟨m, hm⟩ := h.max
  obtain ⟨t1, p1, h1⟩ := h.syn
  obtain ⟨t2, p2, h2⟩ := h.ran
  exact ⟨h.tab.keep hb, ⟨m, cell_keepV hm hb⟩, ⟨t1, p1, cell_keepV h1 hb⟩, ⟨t2, p2, cell_keepV h2 hb⟩⟩

section
variable {α : Type} {z : Nat} {c : α → List Value} {ty : TypeId}
/-- a new row of n structs of z cells, of which the first k are laid -/
structure MadeAt (z : Nat) (c : α → List Value) (ty : TypeId) (L : List α) (n g : Nat) (w wr : World) (k : Nat) : Prop where
  below : Below w.heap.size w wr
  new : w.heap.size ≤ g
  blk : ∃ cs, Blk wr g ty cs ∧ cs.size = n * z ∧ ∀ (i : Nat) (x : α), i < k → L[i]? = some x → ∀ (j : Nat) (u : Value), (c x)[j]? = some u → cs[i * z + j]? = some u

theorem MadeAt.keep {L : List α} {n g k : Nat} {w wr wr' : World} (h : MadeAt z c ty L n g w wr k) (hb : Below wr.heap.size wr wr') : MadeAt z c ty L n g w wr' k := by
  obtain ⟨cs, h1, h2, h3⟩ := h.blk
  exact ⟨bel_onG h.below h.below.size hb, h.new, cs, h1.since hb, h2, h3⟩
theorem MadeAt.start (L : List α) (n : Nat) (w : World) (q : Array Value) (N : Nat) (hN : N = n * z) : MadeAt z c ty L n w.heap.size w (w.alloc (.cells (madeCells q N) ty)) 0 :=
  ⟨(Below.refl _ w).alloc (Nat.le_refl _) _, Nat.le_refl _, _, Blk.new w _ _, by rw [size_madeCells, hN], fun i x hi => by omega⟩
theorem MadeAt.row {L : List α} {n g : Nat} {w wr : World} (h : MadeAt z c ty L n g w wr n) (hl : L.length = n) : RowG z c wr (some ⟨g, 0, none⟩) L := fun _ => by
  obtain ⟨cs, h1, h2, h3⟩ := h.blk
  refine ⟨g, 0, rfl, fun i x hx j u hu => ?_⟩
  rw [Nat.zero_add, h1.cell]
  exact h3 i x (by have := (List.getElem?_eq_some_iff.1 hx).1; omega) hx j u hu
theorem MadeAt.lt {L : List α} {n g k : Nat} {w wr : World} (h : MadeAt z c ty L n g w wr k) : g < wr.heap.size := by
  obtain ⟨cs, h1, _⟩ := h.blk
  exact h1.lt
end
/-- a text -/
def cTx (x : List UInt8) : List Value := [.string (st x)]
theorem MadeAt.step1 {ty : TypeId} {L : List (List UInt8)} {n g k : Nat} {w wr : World} {x : List UInt8} (h : MadeAt 1 cTx ty L n g w wr k) (hk : k < n) (hx : L[k]? = some x) :
    MadeAt 1 cTx ty L n g w (wr.setCell ⟨g, k, none⟩ (.string (st x))) (k + 1) := by
  obtain ⟨cs, h1, h2, h3⟩ := h.blk
  refine ⟨h.below.setCell h.new _, h.new, _, h1.set k _, by simp [h2], fun i y hi hy j u hu => ?_⟩
  have hj : j < 1 := (List.getElem?_eq_some_iff.1 hu).1
  obtain rfl : j = 0 := by omega
  by_cases e : i = k
  · subst e
    rw [hx] at hy
    injection hy with hy
    subst hy
    have hu' : Value.string (st x) = u := by simpa [cTx] using hu
    rw [Nat.mul_one, Nat.add_zero, Array.getElem?_setIfInBounds_self_of_lt (by omega), hu']
  · rw [Array.getElem?_setIfInBounds_ne (by omega)]
    exact h3 i y (by omega) hy 0 u hu
theorem MadeAt.room1 {ty : TypeId} {L : List (List UInt8)} {n g k : Nat} {w wr : World} (h : MadeAt 1 cTx ty L n g w wr k) (hk : k < n) :
    ∃ v0, wr.cell? ⟨g, k, none⟩ = some v0 ∧ wr.frozen? ⟨g, k, none⟩ = false := by
  obtain ⟨cs, h1, h2, h3⟩ := h.blk
  exact ⟨cs[k], by rw [h1.cell]; exact Array.getElem?_eq_getElem (by omega), h1.frozen _⟩
theorem MadeAt.step2 {ty : TypeId} {L : List Sh} {n g k : Nat} {w wr : World} {x : Sh} (h : MadeAt 2 cSh ty L n g w wr k) (hk : k < n) (hx : L[k]? = some x) :
    MadeAt 2 cSh ty L n g w ((wr.setCell ⟨g, k * 2, none⟩ (.string (st x.1))).setCell ⟨g, k * 2 + 1, none⟩ (.int .i64 x.2)) (k + 1) := by
  obtain ⟨cs, h1, h2, h3⟩ := h.blk
  refine ⟨(h.below.setCell h.new _).setCell h.new _, h.new, _, (h1.set (k * 2) _).set (k * 2 + 1) _, by simp [h2], fun i y hi hy j u hu => ?_⟩
  have hj : j < 2 := (List.getElem?_eq_some_iff.1 hu).1
  by_cases e : i = k
  · subst e
    rw [hx] at hy
    injection hy with hy
    subst hy
    match j, hj with
    | 0, _ =>
      have hu' : Value.string (st x.1) = u := by simpa [cSh] using hu
      rw [Array.getElem?_setIfInBounds_ne (by omega), Nat.add_zero, Array.getElem?_setIfInBounds_self_of_lt (by omega), hu']
    | 1, _ =>
      have hu' : Value.int .i64 x.2 = u := by simpa [cSh] using hu
      rw [Array.getElem?_setIfInBounds_self_of_lt (by simp; omega), hu']
  · rw [Array.getElem?_setIfInBounds_ne (by omega), Array.getElem?_setIfInBounds_ne (by omega)]
    exact h3 i y (by omega) hy j u hu
theorem MadeAt.room2 {ty : TypeId} {L : List Sh} {n g k : Nat} {w wr : World} (h : MadeAt 2 cSh ty L n g w wr k) (hk : k < n) :
    ∃ v0 v1, wr.cell? ⟨g, k * 2, none⟩ = some v0 ∧ wr.cell? ⟨g, k * 2 + 1, none⟩ = some v1 ∧ wr.frozen? ⟨g, k * 2, none⟩ = false ∧ wr.frozen? ⟨g, k * 2 + 1, none⟩ = false := by
  obtain ⟨cs, h1, h2, h3⟩ := h.blk
  exact ⟨cs[k * 2], cs[k * 2 + 1], by rw [h1.cell]; exact Array.getElem?_eq_getElem (by omega), by rw [h1.cell]; exact Array.getElem?_eq_getElem (by omega), h1.frozen _, h1.frozen _⟩
end Go.Proofs.YtkflakeocdlinaaGreatDoor
