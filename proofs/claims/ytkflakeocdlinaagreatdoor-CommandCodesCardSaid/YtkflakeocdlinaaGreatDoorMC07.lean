/-
  The library's table of tens, kept.
-/
import Derived.Test.YtkflakeocdlinaaGreatDoorProg
import Derived.Test.YtkflakeocdlinaaGreatDoorMC03
import Derived.Sort.Grow
import Derived.Lib.LaidTab
import Derived.Lib.ItoaMem
import Derived.Test.YtkflakeocdlinaaGreatDoorMC06
import Derived.Test.YtkflakeocdlinaaGreatDoorCmCMC
import Derived.Test.YtkflakeocdlinaaGreatDoorShelfMC
import Derived.Test.YtkflakeocdlinaaGreatDoorMC01
import Derived.Deep.LoopGhost
import Derived.Deep.RegionHeld3
import Derived.Deep.CutRange
import Derived.BigRegion
import Derived.Lib.ItoaLen
namespace Go.Proofs.YtkflakeocdlinaaGreatDoor
open Go.RowKit Go.Maps

/-- the library's table of tens lies in memory -/
def Tab (w : World) : Prop := Lib.TabIs Tryz.prog w "internal/strconv.uint64pow10" .u64 Lib.pow10Tab
theorem Tab.keep {w w' : World} (h : Tab w) (hb : Below w.heap.size w w') : Tab w' := by
  have hg : Tryz.prog.globalNamed "internal/strconv.uint64pow10" = some 1 := by kernel_rfl
  unfold Tab Lib.TabIs World.var? at h ⊢
  rw [hg] at h ⊢
  simp only [Option.bind_some] at h ⊢
  have hlt : 1 < w.heap.size := by
    rcases Nat.lt_or_ge 1 w.heap.size with h' | h'
    · exact h'
    · rw [Array.getElem?_eq_none h'] at h; cases h
  rw [hb.block 1 hlt]
  exact h

theorem bel_grow {w : World} (k : Nat) (os : Array Obj) : Below w.heap.size w (Go.Sort.grow (w.drewN k) os) := by
  refine ⟨rfl, rfl, rfl, ?_, fun i hi => ?_⟩
  · show w.heap.size ≤ (w.heap ++ os).size
    rw [Array.size_append]; omega
  · show (w.heap ++ os)[i]? = w.heap[i]?
    rw [Array.getElem?_append_left hi]
end Go.Proofs.YtkflakeocdlinaaGreatDoor
/-
  The library's variables, kept; rows that are made, and filled by stores.
-/
namespace Go.Proofs.YtkflakeocdlinaaGreatDoor
open Go.RowKit Go.Deep

/-- the library's variables: a table of tens, two errors, a number -/
structure Vars (w : World) : Prop where
  tab : Tab w
  max : ∃ m, w.cell? ⟨0, 0, none⟩ = some (.int .i64 m)
  syn : ∃ tp p, w.cell? ⟨4, 0, none⟩ = some (.iface tp p)
  ran : ∃ tp p, w.cell? ⟨5, 0, none⟩ = some (.iface tp p)
theorem cell_keepV {w w' : World} {p : Addr} {v : Value} (h : w.cell? p = some v) (hb : Below w.heap.size w w') : w'.cell? p = some v := by
  rw [hb.cell (World.block_lt_of_cell? w p h)]; exact h
theorem Vars.keep {w w' : World} (h : Vars w) (hb : Below w.heap.size w w') : Vars w' := by
  obtain ⟨m, hm⟩ := h.max
  obtain ⟨t1, p1, h1⟩ := h.syn
  obtain ⟨t2, p2, h2⟩ := h.ran
  exact ⟨h.tab.keep hb, ⟨m, cell_keepV hm hb⟩, ⟨t1, p1, cell_keepV h1 hb⟩, ⟨t2, p2, cell_keepV h2 hb⟩⟩

section
variable {α : Type} {z : Nat} {c : α → List Value} {ty : TypeId}
/-- a new row of n structs of z cells, of which the first k are laid -/
structure MadeAt (z : Nat) (c : α → List Value) (ty : TypeId) (L : List α) (n g : Nat) (w wr : World) (k : Nat) : Prop where
  below : Below w.heap.size w wr
  new : w.heap.size ≤ g
  blk : ∃ cs, Blk wr g ty cs ∧ cs.size = n * z ∧ ∀ (i : Nat) (x : α), i < k → L[i]? = some x → ∀ (j : Nat) (u : Value), (c x)[j]? = some u → cs[i * z + j]? = some u

theorem MadeAt.keep {L : List α} {n g k : Nat} {w wr wr' : World} (h : MadeAt z c ty L n g w wr k) (hb : Below wr.heap.size wr wr') : MadeAt z c ty L n g w wr' k := by
  obtain ⟨cs, h1, h2, h3⟩ := h.blk
  exact ⟨bel_onG h.below h.below.size hb, h.new, cs, h1.since hb, h2, h3⟩
theorem MadeAt.start (L : List α) (n : Nat) (w : World) (q : Array Value) (N : Nat) (hN : N = n * z) : MadeAt z c ty L n w.heap.size w (w.alloc (.cells (madeCells q N) ty)) 0 :=
  ⟨(Below.refl _ w).alloc (Nat.le_refl _) _, Nat.le_refl _, _, Blk.new w _ _, by rw [size_madeCells, hN], fun i x hi => by omega⟩
theorem MadeAt.row {L : List α} {n g : Nat} {w wr : World} (h : MadeAt z c ty L n g w wr n) (hl : L.length = n) : RowG z c wr (some ⟨g, 0, none⟩) L := fun _ => by
  obtain ⟨cs, h1, h2, h3⟩ := h.blk
  refine ⟨g, 0, rfl, fun i x hx j u hu => ?_⟩
  rw [Nat.zero_add, h1.cell]
  exact h3 i x (by have := (List.getElem?_eq_some_iff.1 hx).1; omega) hx j u hu
theorem MadeAt.lt {L : List α} {n g k : Nat} {w wr : World} (h : MadeAt z c ty L n g w wr k) : g < wr.heap.size := by
  obtain ⟨cs, h1, _⟩ := h.blk
  exact h1.lt
end
/-- a text -/
def cTx (x : List UInt8) : List Value := [.string (st x)]
theorem MadeAt.step1 {ty : TypeId} {L : List (List UInt8)} {n g k : Nat} {w wr : World} {x : List UInt8} (h : MadeAt 1 cTx ty L n g w wr k) (hk : k < n) (hx : L[k]? = some x) :
    MadeAt 1 cTx ty L n g w (wr.setCell ⟨g, k, none⟩ (.string (st x))) (k + 1) := by
  obtain ⟨cs, h1, h2, h3⟩ := h.blk
  refine ⟨h.below.setCell h.new _, h.new, _, h1.set k _, by simp [h2], fun i y hi hy j u hu => ?_⟩
  have hj : j < 1 := (List.getElem?_eq_some_iff.1 hu).1
  obtain rfl : j = 0 := by omega
  by_cases e : i = k
  · subst e
    rw [hx] at hy
    injection hy with hy
    subst hy
    have hu' : Value.string (st x) = u := by simpa [cTx] using hu
    rw [Nat.mul_one, Nat.add_zero, Array.getElem?_setIfInBounds_self_of_lt (by omega), hu']
  · rw [Array.getElem?_setIfInBounds_ne (by omega)]
    exact h3 i y (by omega) hy 0 u hu
theorem MadeAt.room1 {ty : TypeId} {L : List (List UInt8)} {n g k : Nat} {w wr : World} (h : MadeAt 1 cTx ty L n g w wr k) (hk : k < n) :
    ∃ v0, wr.cell? ⟨g, k, none⟩ = some v0 ∧ wr.frozen? ⟨g, k, none⟩ = false := by
  obtain ⟨cs, h1, h2, h3⟩ := h.blk
  exact ⟨cs[k], by rw [h1.cell]; exact Array.getElem?_eq_getElem (by omega), h1.frozen _⟩
theorem MadeAt.step2 {ty : TypeId} {L : List Sh} {n g k : Nat} {w wr : World} {x : Sh} (h : MadeAt 2 cSh ty L n g w wr k) (hk : k < n) (hx : L[k]? = some x) :
    MadeAt 2 cSh ty L n g w ((wr.setCell ⟨g, k * 2, none⟩ (.string (st x.1))).setCell ⟨g, k * 2 + 1, none⟩ (.int .i64 x.2)) (k + 1) := by
  obtain ⟨cs, h1, h2, h3⟩ := h.blk
  refine ⟨(h.below.setCell h.new _).setCell h.new _, h.new, _, (h1.set (k * 2) _).set (k * 2 + 1) _, by simp [h2], fun i y hi hy j u hu => ?_⟩
  have hj : j < 2 := (List.getElem?_eq_some_iff.1 hu).1
  by_cases e : i = k
  · subst e
    rw [hx] at hy
    injection hy with hy
    subst hy
    match j, hj with
    | 0, _ =>
      have hu' : Value.string (st x.1) = u := by simpa [cSh] using hu
      rw [Array.getElem?_setIfInBounds_ne (by omega), Nat.add_zero, Array.getElem?_setIfInBounds_self_of_lt (by omega), hu']
    | 1, _ =>
      have hu' : Value.int .i64 x.2 = u := by simpa [cSh] using hu
      rw [Array.getElem?_setIfInBounds_self_of_lt (by simp; omega), hu']
  · rw [Array.getElem?_setIfInBounds_ne (by omega), Array.getElem?_setIfInBounds_ne (by omega)]
    exact h3 i y (by omega) hy j u hu
theorem MadeAt.room2 {ty : TypeId} {L : List Sh} {n g k : Nat} {w wr : World} (h : MadeAt 2 cSh ty L n g w wr k) (hk : k < n) :
    ∃ v0 v1, wr.cell? ⟨g, k * 2, none⟩ = some v0 ∧ wr.cell? ⟨g, k * 2 + 1, none⟩ = some v1 ∧ wr.frozen? ⟨g, k * 2, none⟩ = false ∧ wr.frozen? ⟨g, k * 2 + 1, none⟩ = false := by
  obtain ⟨cs, h1, h2, h3⟩ := h.blk
  exact ⟨cs[k * 2], cs[k * 2 + 1], by rw [h1.cell]; exact Array.getElem?_eq_getElem (by omega), by rw [h1.cell]; exact Array.getElem?_eq_getElem (by omega), h1.frozen _, h1.frozen _⟩
end Go.Proofs.YtkflakeocdlinaaGreatDoor
/-
  Contracts of command.figures, cmp.Or of texts, command.written.
-/
namespace Go.Proofs.YtkflakeocdlinaaGreatDoor
open Go.RowKit Go.Deep

/-- figures -/
def digL (n : Nat) : List UInt8 := Go.Lib.decDigits n
theorem digL_len {n : Nat} (h : n ≤ 9223372036854775807) : (digL n).length ≤ 21 := by
  have := Go.Lib.itoa_length_le (n : Int) (by omega) (by omega)
  rw [Go.Lib.itoa_nonneg] at this
  exact this
theorem cfigures_any (n : Nat) (w : World) (hn : n ≤ 9223372036854775807) (ht : Tab w) :
    Calls Tryz.prog 55 #[.int .i64 (n : Int)] w fun e w' => e = .returned (.string (st (digL n))) ∧ Below w.heap.size w w' := by
  have H1 : ∀ W, Tab W → Calls Tryz.prog 73 #[.int .i64 (n : Int), .int .i64 10] W fun e w' => e = .returned (.string (st (digL n))) ∧ Below W.heap.size W w' := fun W hW => by
    refine (Tryz.strconv_FormatInt_10 (n : Int) (by omega) (by omega) W hW).mono ?_
    rintro e w' ⟨he, k, os, rfl⟩
    rw [Go.Lib.itoa_nonneg] at he
    exact ⟨he, bel_grow k os⟩
  go_enter Tryz.func55, Tryz.ntmps55
  go_wp2_with (first | (go_at_call 73; refine (H1 _ ht).mono ?_; rintro e w1 ⟨rfl, hb⟩; have HB := Lib.hid hb; clear hb) | fail)
  go_ret
  exact ⟨rfl, HB.out⟩

/-- the first of two texts that isn't empty, the second being a dash -/
def orD (t : List UInt8) : List UInt8 := if t = [] then [45] else t
set_option maxHeartbeats 1600000 in
theorem or_any (t : List UInt8) (g : Nat) (w : World) (h0 : w.cell? ⟨g, 0, none⟩ = some (.string (st t))) (h1 : w.cell? ⟨g, 1, none⟩ = some (.string ⟨#[45]⟩)) :
    Calls Tryz.prog 54 #[.slice (some ⟨g, 0, none⟩) 2 2] w fun e w' => e = .returned (.string (st (orD t))) ∧ w = w' := by
  have q1 := empty_eqA t
  obtain ⟨X, hX⟩ : ∃ X, X = st (orD t) := ⟨_, rfl⟩
  have HX := Lib.hid hX
  rw [← hX]
  clear hX
  by_cases he : t = []
  · have HV : Hid (X = ⟨#[45]⟩) := by show _ = _; rw [HX.out, orD, if_pos he]; rfl
    rw [decide_eq_true he] at q1
    clear he
    go_enter Tryz.func54, Tryz.ntmps54
    go_wp2
    go_loopg [5, 8] 2 (fun gk _ i wr => w = wr ∧ ((i = .int .i64 0 ∧ gk = 2) ∨ (i = .int .i64 1 ∧ gk = 1)))
    case atStart => exact ⟨rfl, .inl ⟨rfl, rfl⟩⟩
    case round =>
      obtain ⟨rfl, ⟨rfl, rfl⟩ | ⟨rfl, rfl⟩⟩ := hrel
      · go_wp2
        go_roundg 1
        case measure => omega
        case rel => exact ⟨rfl, .inr ⟨by go_num, rfl⟩⟩
      · go_wp2
        go_ret
        exact ⟨by rw [HV.out]; first | done | rfl, rfl⟩
  · have HV : Hid (X = st t) := by show _ = _; rw [HX.out, orD, if_neg he]
    rw [decide_eq_false he] at q1
    clear he
    go_enter Tryz.func54, Tryz.ntmps54
    go_wp2
    go_loopg [5, 8] 2 (fun gk _ i wr => w = wr ∧ i = .int .i64 0)
    case atStart => exact ⟨rfl, rfl⟩
    case round =>
      obtain ⟨rfl, rfl⟩ := hrel
      go_wp2
      go_ret
      exact ⟨by rw [HV.out]; first | done | rfl, rfl⟩

/-- a field's words -/
def wordsF (c : Cm) (f : Nat) : List (List UInt8) :=
  match f with
  | 0 => [c.id]
  | 1 => [c.about]
  | 2 => [c.about]
  | 3 => [c.cur]
  | 4 => [orD c.cat]
  | 5 => [orD c.cat]
  | 6 => [digL c.amt.toNat]
  | 7 => [digL c.amt.toNat]
  | _ => c.sh.map fun s => s.1 ++ [58] ++ digL s.2.toNat
/-- words in a new row -/
def WrPost (W : List (List UInt8)) (w : World) (e : Ending) (w' : World) : Prop :=
  ∃ g, e = .returned (.slice (some ⟨g, 0, none⟩) W.length W.length) ∧ RowG 1 cTx w' (some ⟨g, 0, none⟩) W ∧ w.heap.size ≤ g ∧ Below w.heap.size w w'
theorem row_one_tx (w : World) (s : List UInt8) (t : TypeId) : RowG 1 cTx (w.alloc (.cells #[.string (st s)] t)) (some ⟨w.heap.size, 0, none⟩) [s] := fun _ => by
  refine ⟨w.heap.size, 0, rfl, fun i x hx j u hu => ?_⟩
  match i, hx with
  | 0, hx =>
    injection hx with hx
    subst hx
    have hj : j < 1 := (List.getElem?_eq_some_iff.1 hu).1
    obtain rfl : j = 0 := by omega
    injection hu with hu
    subst hu
    exact (Blk.new w t _).cell 0
  | i + 1, hx => simp at hx
theorem row_one_tx2 (w : World) (o : Obj) (s : List UInt8) (t : TypeId) : RowG 1 cTx ((w.alloc o).alloc (.cells #[.string (st s)] t)) (some ⟨w.heap.size + 1, 0, none⟩) [s] := by
  have h := row_one_tx (w.alloc o) s t
  have e : (w.alloc o).heap.size = w.heap.size + 1 := by show (w.heap.push o).size = _; simp
  rw [e] at h
  exact h

set_option maxHeartbeats 800000 in
theorem wr_0 (k i b u t : List UInt8) (m : Int) (a : Option Addr) (cp : Nat) (xs : List Sh) (w : World) :
    Calls Tryz.prog 27 #[.agg #[.string (st k), .string (st i), .string (st b), .string (st u), .string (st t), .int .i64 m, .slice a xs.length cp], .int .i64 0] w (WrPost [i] w) := by
  have HB : ∀ o p, Hid (Below w.heap.size w ((w.alloc o).alloc p)) := fun o p => ((Below.refl _ w).alloc (Nat.le_refl _) o).alloc (by simp) p
  go_enter Tryz.func27, Tryz.ntmps27
  go_wp2
  go_ret
  exact ⟨_, rfl, row_one_tx2 _ _ _ _, by omega, (HB _ _).out⟩

set_option maxHeartbeats 800000 in
theorem wr_1 (k i b u t : List UInt8) (m : Int) (a : Option Addr) (cp : Nat) (xs : List Sh) (w : World) :
    Calls Tryz.prog 27 #[.agg #[.string (st k), .string (st i), .string (st b), .string (st u), .string (st t), .int .i64 m, .slice a xs.length cp], .int .i64 1] w (WrPost [b] w) := by
  have HB : ∀ o p, Hid (Below w.heap.size w ((w.alloc o).alloc p)) := fun o p => ((Below.refl _ w).alloc (Nat.le_refl _) o).alloc (by simp) p
  go_enter Tryz.func27, Tryz.ntmps27
  go_wp2
  go_ret
  exact ⟨_, rfl, row_one_tx2 _ _ _ _, by omega, (HB _ _).out⟩

set_option maxHeartbeats 800000 in
theorem wr_2 (k i b u t : List UInt8) (m : Int) (a : Option Addr) (cp : Nat) (xs : List Sh) (w : World) :
    Calls Tryz.prog 27 #[.agg #[.string (st k), .string (st i), .string (st b), .string (st u), .string (st t), .int .i64 m, .slice a xs.length cp], .int .i64 2] w (WrPost [b] w) := by
  have HB : ∀ o p, Hid (Below w.heap.size w ((w.alloc o).alloc p)) := fun o p => ((Below.refl _ w).alloc (Nat.le_refl _) o).alloc (by simp) p
  go_enter Tryz.func27, Tryz.ntmps27
  go_wp2
  go_ret
  exact ⟨_, rfl, row_one_tx2 _ _ _ _, by omega, (HB _ _).out⟩

set_option maxHeartbeats 800000 in
theorem wr_3 (k i b u t : List UInt8) (m : Int) (a : Option Addr) (cp : Nat) (xs : List Sh) (w : World) :
    Calls Tryz.prog 27 #[.agg #[.string (st k), .string (st i), .string (st b), .string (st u), .string (st t), .int .i64 m, .slice a xs.length cp], .int .i64 3] w (WrPost [u] w) := by
  have HB : ∀ o p, Hid (Below w.heap.size w ((w.alloc o).alloc p)) := fun o p => ((Below.refl _ w).alloc (Nat.le_refl _) o).alloc (by simp) p
  go_enter Tryz.func27, Tryz.ntmps27
  go_wp2
  go_ret
  exact ⟨_, rfl, row_one_tx2 _ _ _ _, by omega, (HB _ _).out⟩

set_option maxHeartbeats 1600000 in
theorem wr_4 (k i b u t : List UInt8) (m : Int) (a : Option Addr) (cp : Nat) (xs : List Sh) (w : World) :
    Calls Tryz.prog 27 #[.agg #[.string (st k), .string (st i), .string (st b), .string (st u), .string (st t), .int .i64 m, .slice a xs.length cp], .int .i64 4] w (WrPost [orD t] w) := by
  have HB : ∀ o p, Hid (Below w.heap.size w ((w.alloc o).alloc p)) := fun o p => ((Below.refl _ w).alloc (Nat.le_refl _) o).alloc (by simp) p
  have HC : ∀ W g, Hid (W.cell? ⟨g, 0, none⟩ = some (.string (st t)) → W.cell? ⟨g, 1, none⟩ = some (.string ⟨#[45]⟩) → Calls Tryz.prog 54 #[.slice (some ⟨g, 0, none⟩) 2 2] W fun e w' => e = .returned (.string (st (orD t))) ∧ W = w') := fun W g h0 h1 => or_any t g W h0 h1
  obtain ⟨w0, hw0⟩ : ∃ w0, w0 = (w.alloc (.cells #[.string (st k), .string (st i), .string (st b), .string (st u), .string (st t), .int .i64 m, .slice a xs.length cp] 24)).alloc (.cells #[.string (st t), .string ⟨#[45]⟩] 9) := ⟨_, rfl⟩
  have HC2 : Hid (Calls Tryz.prog 54 #[.slice (some ⟨w.heap.size + 1, 0, none⟩) 2 2] w0 fun e w' => e = .returned (.string (st (orD t))) ∧ w0 = w') := by
    have hb := blk_twoC w (.cells #[.string (st k), .string (st i), .string (st b), .string (st u), .string (st t), .int .i64 m, .slice a xs.length cp] 24) 9 #[.string (st t), .string ⟨#[45]⟩]
    rw [← hw0] at hb
    exact (HC w0 _).out (hb.cell 0) (hb.cell 1)
  have HB0 : Hid (Below w.heap.size w w0) := by rw [hw0]; exact (HB _ _).out
  obtain ⟨X, hX⟩ : ∃ X, X = orD t := ⟨_, rfl⟩
  rw [← hX] at HC2 ⊢
  have HW0 := Lib.hid hw0
  clear HC hX hw0
  go_enter Tryz.func27, Tryz.ntmps27
  go_wp2_with fail
  rw [← HW0.out]
  refine HC2.out.mono ?_
  rintro e w1 ⟨rfl, rfl⟩
  go_wp2
  go_ret
  exact ⟨_, rfl, row_one_tx _ _ _, HB0.out.size, HB0.out.alloc HB0.out.size _⟩

set_option maxHeartbeats 1600000 in
theorem wr_5 (k i b u t : List UInt8) (m : Int) (a : Option Addr) (cp : Nat) (xs : List Sh) (w : World) :
    Calls Tryz.prog 27 #[.agg #[.string (st k), .string (st i), .string (st b), .string (st u), .string (st t), .int .i64 m, .slice a xs.length cp], .int .i64 5] w (WrPost [orD t] w) := by
  have HB : ∀ o p, Hid (Below w.heap.size w ((w.alloc o).alloc p)) := fun o p => ((Below.refl _ w).alloc (Nat.le_refl _) o).alloc (by simp) p
  have HC : ∀ W g, Hid (W.cell? ⟨g, 0, none⟩ = some (.string (st t)) → W.cell? ⟨g, 1, none⟩ = some (.string ⟨#[45]⟩) → Calls Tryz.prog 54 #[.slice (some ⟨g, 0, none⟩) 2 2] W fun e w' => e = .returned (.string (st (orD t))) ∧ W = w') := fun W g h0 h1 => or_any t g W h0 h1
  obtain ⟨w0, hw0⟩ : ∃ w0, w0 = (w.alloc (.cells #[.string (st k), .string (st i), .string (st b), .string (st u), .string (st t), .int .i64 m, .slice a xs.length cp] 24)).alloc (.cells #[.string (st t), .string ⟨#[45]⟩] 9) := ⟨_, rfl⟩
  have HC2 : Hid (Calls Tryz.prog 54 #[.slice (some ⟨w.heap.size + 1, 0, none⟩) 2 2] w0 fun e w' => e = .returned (.string (st (orD t))) ∧ w0 = w') := by
    have hb := blk_twoC w (.cells #[.string (st k), .string (st i), .string (st b), .string (st u), .string (st t), .int .i64 m, .slice a xs.length cp] 24) 9 #[.string (st t), .string ⟨#[45]⟩]
    rw [← hw0] at hb
    exact (HC w0 _).out (hb.cell 0) (hb.cell 1)
  have HB0 : Hid (Below w.heap.size w w0) := by rw [hw0]; exact (HB _ _).out
  obtain ⟨X, hX⟩ : ∃ X, X = orD t := ⟨_, rfl⟩
  rw [← hX] at HC2 ⊢
  have HW0 := Lib.hid hw0
  clear HC hX hw0
  go_enter Tryz.func27, Tryz.ntmps27
  go_wp2_with fail
  rw [← HW0.out]
  refine HC2.out.mono ?_
  rintro e w1 ⟨rfl, rfl⟩
  go_wp2
  go_ret
  exact ⟨_, rfl, row_one_tx _ _ _, HB0.out.size, HB0.out.alloc HB0.out.size _⟩

set_option maxHeartbeats 1600000 in
theorem wr_6 (k i b u t : List UInt8) (m : Int) (a : Option Addr) (cp : Nat) (xs : List Sh) (w : World) (ht : Tab w) (hm : 0 ≤ m ∧ m ≤ 1125899906842624) :
    Calls Tryz.prog 27 #[.agg #[.string (st k), .string (st i), .string (st b), .string (st u), .string (st t), .int .i64 m, .slice a xs.length cp], .int .i64 6] w (WrPost [digL m.toNat] w) := by
  have HB0 : Hid (Below w.heap.size w (w.alloc (.cells #[.string (st k), .string (st i), .string (st b), .string (st u), .string (st t), .int .i64 m, .slice a xs.length cp] 24))) := (Below.refl _ w).alloc (Nat.le_refl _) _
  have HC : Hid (Calls Tryz.prog 55 #[.int .i64 m] (w.alloc (.cells #[.string (st k), .string (st i), .string (st b), .string (st u), .string (st t), .int .i64 m, .slice a xs.length cp] 24)) fun e w' => e = .returned (.string (st (digL m.toNat))) ∧ Below (w.alloc (.cells #[.string (st k), .string (st i), .string (st b), .string (st u), .string (st t), .int .i64 m, .slice a xs.length cp] 24)).heap.size (w.alloc (.cells #[.string (st k), .string (st i), .string (st b), .string (st u), .string (st t), .int .i64 m, .slice a xs.length cp] 24)) w') := by
    have h := cfigures_any m.toNat (w.alloc (.cells #[.string (st k), .string (st i), .string (st b), .string (st u), .string (st t), .int .i64 m, .slice a xs.length cp] 24)) (by omega) (ht.keep HB0.out)
    rw [show ((m.toNat : Nat) : Int) = m by omega] at h
    exact h
  obtain ⟨X, hX⟩ : ∃ X, X = digL m.toNat := ⟨_, rfl⟩
  rw [← hX] at HC ⊢
  clear hX ht hm
  go_enter Tryz.func27, Tryz.ntmps27
  go_wp2_with fail
  refine HC.out.mono ?_
  rintro e w1 ⟨rfl, hb⟩
  have HB1 := Lib.hid (bel_onG HB0.out HB0.out.size hb)
  clear hb
  go_wp2
  go_ret
  exact ⟨_, rfl, row_one_tx _ _ _, HB1.out.size, HB1.out.alloc HB1.out.size _⟩

set_option maxHeartbeats 1600000 in
theorem wr_7 (k i b u t : List UInt8) (m : Int) (a : Option Addr) (cp : Nat) (xs : List Sh) (w : World) (ht : Tab w) (hm : 0 ≤ m ∧ m ≤ 1125899906842624) :
    Calls Tryz.prog 27 #[.agg #[.string (st k), .string (st i), .string (st b), .string (st u), .string (st t), .int .i64 m, .slice a xs.length cp], .int .i64 7] w (WrPost [digL m.toNat] w) := by
  have HB0 : Hid (Below w.heap.size w (w.alloc (.cells #[.string (st k), .string (st i), .string (st b), .string (st u), .string (st t), .int .i64 m, .slice a xs.length cp] 24))) := (Below.refl _ w).alloc (Nat.le_refl _) _
  have HC : Hid (Calls Tryz.prog 55 #[.int .i64 m] (w.alloc (.cells #[.string (st k), .string (st i), .string (st b), .string (st u), .string (st t), .int .i64 m, .slice a xs.length cp] 24)) fun e w' => e = .returned (.string (st (digL m.toNat))) ∧ Below (w.alloc (.cells #[.string (st k), .string (st i), .string (st b), .string (st u), .string (st t), .int .i64 m, .slice a xs.length cp] 24)).heap.size (w.alloc (.cells #[.string (st k), .string (st i), .string (st b), .string (st u), .string (st t), .int .i64 m, .slice a xs.length cp] 24)) w') := by
    have h := cfigures_any m.toNat (w.alloc (.cells #[.string (st k), .string (st i), .string (st b), .string (st u), .string (st t), .int .i64 m, .slice a xs.length cp] 24)) (by omega) (ht.keep HB0.out)
    rw [show ((m.toNat : Nat) : Int) = m by omega] at h
    exact h
  obtain ⟨X, hX⟩ : ∃ X, X = digL m.toNat := ⟨_, rfl⟩
  rw [← hX] at HC ⊢
  clear hX ht hm
  go_enter Tryz.func27, Tryz.ntmps27
  go_wp2_with fail
  refine HC.out.mono ?_
  rintro e w1 ⟨rfl, hb⟩
  have HB1 := Lib.hid (bel_onG HB0.out HB0.out.size hb)
  clear hb
  go_wp2
  go_ret
  exact ⟨_, rfl, row_one_tx _ _ _, HB1.out.size, HB1.out.alloc HB1.out.size _⟩

end Go.Proofs.YtkflakeocdlinaaGreatDoor
/-
  Contract of command.written: shares, and any field.
-/
namespace Go.Proofs.YtkflakeocdlinaaGreatDoor
open Go.RowKit Go.Deep

theorem run_makeStr (n : Nat) (h : n ≤ 1000000) (w : World) :
    (Instr.makeSlice 56 (.int .i64 (n : Int)) (.int .i64 (n : Int))).run Tryz.prog w = .ok (.slice (some ⟨w.heap.size, 0, none⟩) n n) (w.alloc (.cells (madeCells #[.string ⟨#[]⟩] n) 9)) := by
  obtain ⟨i, hi, hzz⟩ := Option.map_eq_some_iff.1 infoStr
  simp only [Prod.mk.injEq] at hzz
  obtain ⟨hz, hs, hb⟩ := hzz
  have hr := run_make (P := Tryz.prog) w 56 9 i _ Tryz.underlying56 hi hz .i64 .i64 n n (by omega) (Int.le_refl _) (by rw [hb]; omega) (by omega)
  simp only [Int.toNat_natCast, hs, Nat.mul_one] at hr
  exact hr
theorem cell_one {w : World} {b o g i : Nat} {va v : Value} (h : b ≠ g) (hc : w.cell? ⟨b, o, none⟩ = some v) : (w.setCell ⟨g, i, none⟩ va).cell? ⟨b, o, none⟩ = some v := by
  have h1 : (w.setCell ⟨g, i, none⟩ va).heap[b]? = w.heap[b]? := Below.heap_setCell _ _ _ _ h
  have h2 : ∀ w' : World, w'.heap[b]? = w.heap[b]? → w'.cell? ⟨b, o, none⟩ = w.cell? ⟨b, o, none⟩ := fun w' e => by
    simp only [World.cell?, e]
  rw [h2 _ h1]
  exact hc

set_option maxHeartbeats 6400000 in
set_option maxRecDepth 100000 in
theorem wr_8 (k i b u t : List UInt8) (m : Int) (a : Option Addr) (cp : Nat) (xs : List Sh) (w : World) (ht : Tab w) (hr : RowG 2 cSh w a xs) (hl : xs.length ≤ 8) (hb : ∀ s ∈ xs, badS s = false) :
    Calls Tryz.prog 27 #[.agg #[.string (st k), .string (st i), .string (st b), .string (st u), .string (st t), .int .i64 m, .slice a xs.length cp], .int .i64 8] w (WrPost (xs.map fun s => s.1 ++ [58] ++ digL s.2.toNat) w) := by
  have HBX : Hid (Blk (w.alloc (.cells #[.string (st k), .string (st i), .string (st b), .string (st u), .string (st t), .int .i64 m, .slice a xs.length cp] 24)) w.heap.size 24 #[.string (st k), .string (st i), .string (st b), .string (st u), .string (st t), .int .i64 m, .slice a xs.length cp]) := Blk.new w _ _
  have hb0 : Below w.heap.size w (w.alloc (.cells #[.string (st k), .string (st i), .string (st b), .string (st u), .string (st t), .int .i64 m, .slice a xs.length cp] 24)) := (Below.refl _ w).alloc (Nat.le_refl _) _
  have HB0 := Lib.hid hb0
  have HR := Lib.hid (hr.keep hb0)
  have HT := Lib.hid (ht.keep hb0)
  have HBS := Lib.hid hb
  obtain ⟨L, hL⟩ : ∃ L, L = xs.map fun s => s.1 ++ [58] ++ digL s.2.toNat := ⟨_, rfl⟩
  have HL := Lib.hid hL
  obtain ⟨n, hn⟩ : ∃ n, n = xs.length := ⟨_, rfl⟩
  have HN := Lib.hid hn
  have HLN : Hid (L.length = n) := by show _ = _; rw [hL, List.length_map, hn]
  rw [← hL]
  rw [← hn] at HBX HB0 HR HT hl ⊢
  unfold WrPost
  rw [HLN.out]
  clear hL hn hr ht hb hb0
  go_enter Tryz.func27, Tryz.ntmps27
  go_upto_region 15 with fail
  obtain ⟨bx, hbx⟩ : ∃ bx, bx = w.heap.size := ⟨_, rfl⟩
  have HE := Lib.hid hbx
  rw [← hbx] at HBX HB0 ⊢
  generalize w.alloc (.cells #[.string (st k), .string (st i), .string (st b), .string (st u), .string (st t), .int .i64 m, .slice a n cp] 24) = w0 at HBX HB0 HR HT ⊢
  clear hbx
  have hmk := run_makeStr n (by omega)
  have HP := Lib.hid (MadeAt.start (z := 1) (c := cTx) (ty := 9) L n w0 #[.string ⟨#[]⟩] n (by omega))
  have e6 : (w0.alloc (.cells (madeCells #[.string ⟨#[]⟩] n) 9)).cell? ⟨bx, 6, none⟩ = some (.slice a n cp) := (HBX.out.alloc _).cell 6
  obtain ⟨d0, d1, d2, d3, d4, d5, d6⟩ := cell_seven HBX.out
  go_wp2
  clear hmk d0 d1 d2 d3 d4 d5 d6
  obtain ⟨g, hg⟩ : ∃ g, g = w0.heap.size := ⟨_, rfl⟩
  have HGE := Lib.hid hg
  rw [← hg] at HP ⊢
  generalize w0.alloc (.cells (madeCells #[.string ⟨#[]⟩] n) 9) = w6 at HP e6 ⊢
  clear hg e6
  go_loopg [6, 7, 47] n (fun gk _ _ ix wr => ∃ j : Nat, j ≤ n ∧ ix = .int .i64 j ∧ n - j ≤ gk ∧ Hid (MadeAt 1 cTx 9 L n g w0 wr j))
  case atStart => exact ⟨0, Nat.zero_le _, rfl, by omega, HP.out⟩
  case round =>
    clear HP
    obtain ⟨j, hj, rfl, hgk, HP⟩ := hrel
    by_cases hlt : j < n
    · obtain ⟨x, hx⟩ : ∃ x, xs[j]? = some x := ⟨_, List.getElem?_eq_getElem (by rw [← HN.out]; exact hlt)⟩
      have hbad := badS_not (HBS.out x (List.mem_of_getElem? hx))
      obtain ⟨p, q⟩ := x
      simp only at hbad
      obtain ⟨b1, off, rfl⟩ := HR.out.form (by rw [← HN.out]; omega)
      have hat := (HR.out.keep HP.out.below).at hx
      have c0 : wr.cell? ⟨b1, off + j * 2, none⟩ = some (.string (st p)) := by simpa using hat 0 _ rfl
      have c1 : wr.cell? ⟨b1, off + j * 2 + 1, none⟩ = some (.int .i64 q) := hat 1 _ rfl
      have hLj : L[j]? = some (p ++ [58] ++ digL q.toNat) := by rw [HL.out, List.getElem?_map, hx]; rfl
      obtain ⟨F, hF⟩ : ∃ F, F = digL q.toNat := ⟨_, rfl⟩
      have hFl : F.length ≤ 21 := by rw [hF]; exact digL_len (by omega)
      have HCF : Hid (∀ W, Tab W → Calls Tryz.prog 55 #[.int .i64 q] W fun e w' => e = .returned (.string (st F)) ∧ Below W.heap.size W w') := fun W hW => by
        have h := cfigures_any q.toNat W (by omega) hW
        rw [show ((q.toNat : Nat) : Int) = q by omega, ← hF] at h
        exact h
      rw [← hF] at hLj
      have hST : ∀ W, MadeAt 1 cTx 9 L n g w0 W j → MadeAt 1 cTx 9 L n g w0 (W.setCell ⟨g, j, none⟩ (.string (st (p ++ [58] ++ F)))) (j + 1) := fun W hW => MadeAt.step1 hW hlt hLj
      obtain ⟨T0, hT0⟩ : ∃ T, T = st p := ⟨_, rfl⟩
      obtain ⟨T1, hT1⟩ : ∃ T, T = st (p ++ [58]) := ⟨_, rfl⟩
      obtain ⟨T2, hT2⟩ : ∃ T, T = st (p ++ [58] ++ F) := ⟨_, rfl⟩
      obtain ⟨TF, hTF⟩ : ∃ T, T = st F := ⟨_, rfl⟩
      have q1 : T0 ++ ⟨#[58]⟩ = T1 := by rw [hT0, hT1]; exact st_append p [58]
      have q2 : T1 ++ TF = T2 := by rw [hT1, hT2, hTF]; exact st_append _ _
      have z0 : T0.size ≤ 20 := by rw [hT0, st_size]; omega
      have z1 : T1.size ≤ 21 := by rw [hT1, st_size]; simp; omega
      have zF : TF.size ≤ 21 := by rw [hTF, st_size]; exact hFl
      have b1x : ¬ 9223372036854775807 < T0.size + 1 := by omega
      have b2x : ¬ 9223372036854775807 < T1.size + TF.size := by omega
      rw [← hT2] at hST
      rw [← hT0] at c0
      rw [← hTF] at HCF
      have HST := Lib.hid hST
      have hkz : (0 : Int) ≤ (j : Int) := by omega
      have hkn : (j : Int) < (n : Int) := by omega
      have HGY : Hid (wr.heap.size ≠ g) := by have := HP.out.lt; show _ ≠ _; omega
      clear hx hat hLj hF hFl hST hbad hT0 hT1 hT2 hTF z0 z1 zF
      go_upto_region 19 with fail
      have hbx := Blk.new wr 39 #[.string T0, .int .i64 q]
      have hbd : Below wr.heap.size wr (wr.alloc (.cells #[.string T0, .int .i64 q] 39)) := (Below.refl _ wr).alloc (Nat.le_refl _) _
      have HPa := Lib.hid (HP.out.keep hbd)
      obtain ⟨Y, hY⟩ : ∃ Y, Y = wr.heap.size := ⟨_, rfl⟩
      rw [← hY] at hbx HGY ⊢
      generalize wr.alloc (.cells #[.string T0, .int .i64 q] 39) = wc at hbx hbd HPa ⊢
      have k0 : wc.drew.cell? ⟨Y, 0, none⟩ = some (.string T0) := hbx.cell 0
      have k1 : wc.drew.cell? ⟨Y, 1, none⟩ = some (.int .i64 q) := hbx.cell 1
      have HPd : Hid (MadeAt 1 cTx 9 L n g w0 wc.drew j) := HPa.out.keep (Below.refl _ wc).drew
      have HCD : Hid (Calls Tryz.prog 55 #[.int .i64 q] wc.drew fun e w' => e = .returned (.string TF) ∧ Below wc.drew.heap.size wc.drew w') := HCF.out wc.drew (HT.out.keep HPd.out.below)
      clear c0 c1 hbx hbd hY HPa HCF
      go_region_held3 (fun w' => w'.cell? ⟨Y, 0, none⟩ = some (.string T0) ∧ w'.cell? ⟨Y, 1, none⟩ = some (.int .i64 q))
        (first | with_reducible exact ⟨k0, k1⟩ | with_reducible exact ⟨j0, j1⟩ | with_reducible exact ⟨cell_one HGY.out j0, cell_one HGY.out j1⟩ | go_keep)
        (first
          | (go_at_call 55; ((with_reducible refine HCD.out.mono ?_); rintro e w7 ⟨rfl, hb7⟩; have j0 : w7.cell? ⟨Y, 0, none⟩ = some (.string T0) := (hb7.cell (p := ⟨Y, 0, none⟩) (World.block_lt_of_cell? _ _ k0)).trans k0; have j1 : w7.cell? ⟨Y, 1, none⟩ = some (.int .i64 q) := (hb7.cell (p := ⟨Y, 1, none⟩) (World.block_lt_of_cell? _ _ k1)).trans k1; obtain ⟨v0, r0, z0⟩ := (HPd.out.keep hb7).room1 hlt)))
      have HNX := Lib.hid (HST.out w7 (HPd.out.keep hb7))
      clear k0 k1 j0 j1 r0 z0 hb7 HST HPd HCD
      go_wp2
      go_roundg (n - (j + 1))
      case measure => omega
      case rel => exact ⟨j + 1, by omega, by go_num, by omega, HNX.out⟩
    · have hkn : ¬ ((j : Int) < (n : Int)) := by omega
      have e : j = n := by omega
      have HROW : Hid (RowG 1 cTx wr (some ⟨g, 0, none⟩) L) := by subst e; exact HP.out.row HLN.out
      have HBF : Hid (Below bx w wr) := HB0.out.trans (bel_lessG HP.out.below HB0.out.size |> fun h => ⟨h.os, h.tape, h.output, h.size, fun kk hk => h.block kk (by have := HE.out; omega)⟩)
      have HGB : Hid (w.heap.size ≤ g) := by have h1 := HGE.out; have h2 := HB0.out.size; show _ ≤ _; omega
      clear e
      go_wp2
      go_ret
      exact ⟨g, rfl, HROW.out, HGB.out, by rw [← HE.out]; exact HBF.out⟩

/-- ████ THE CONTRACT OF command.written ████ -/
theorem written_any (c : Cm) (x : Nat) (a : Option Addr) (cp : Nat) (w : World) (hx : x ≤ 8) (ht : Tab w) (hr : RowG 2 cSh w a c.sh) (hl : c.sh.length ≤ 8) (hb : ∀ s ∈ c.sh, badS s = false) (hm : 0 ≤ c.amt ∧ c.amt ≤ 1125899906842624) :
    Calls Tryz.prog 27 #[.agg #[.string (st c.kind), .string (st c.id), .string (st c.about), .string (st c.cur), .string (st c.cat), .int .i64 c.amt, .slice a c.sh.length cp], .int .i64 (x : Int)] w (WrPost (wordsF c x) w) := by
  match x, hx with
  | 0, _ => exact wr_0 _ _ _ _ _ _ _ _ _ _
  | 1, _ => exact wr_1 _ _ _ _ _ _ _ _ _ _
  | 2, _ => exact wr_2 _ _ _ _ _ _ _ _ _ _
  | 3, _ => exact wr_3 _ _ _ _ _ _ _ _ _ _
  | 4, _ => exact wr_4 _ _ _ _ _ _ _ _ _ _
  | 5, _ => exact wr_5 _ _ _ _ _ _ _ _ _ _
  | 6, _ => exact wr_6 _ _ _ _ _ _ _ _ _ _ ht hm
  | 7, _ => exact wr_7 _ _ _ _ _ _ _ _ _ _ ht hm
  | 8, _ => exact wr_8 _ _ _ _ _ _ _ _ _ _ ht hr hl hb
end Go.Proofs.YtkflakeocdlinaaGreatDoor
