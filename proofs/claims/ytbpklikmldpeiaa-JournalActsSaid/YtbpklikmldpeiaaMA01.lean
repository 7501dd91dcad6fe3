/-
  Whole blocks of cells (the memory of a boxed struct), and what steps keep of them.
-/
import Derived.Below
import Derived.Lib.BufferOwn
import Derived.RangeFuncBox
import Derived.Deep.OwnRows
import Derived.Lib.Strings
import Derived.Test.YtbpklikmldpeiaaProg
import Derived.WalkKit
import Derived.Deep.MidRow
import Derived.Deep.WholeRow
import Derived.RegionTactic
import Derived.Deep.DeepAppendWide
import Derived.Lib.BufferWrite
import Derived.StillTailTactics
import Derived.Laws.CopyOwn
namespace Go.Proofs.Ytbpklikmldpeiaa
open Go.RowKit

/-- block b holds these cells, of a variable of type t -/
def Blk (w : World) (b : Nat) (t : TypeId) (cs : Array Value) : Prop := w.heap[b]? = some (.cells cs t (0, 0))

theorem Blk.lt {w : World} {b : Nat} {t : TypeId} {cs : Array Value} (h : Blk w b t cs) : b < w.heap.size := (Array.getElem?_eq_some_iff.1 h).1
theorem Blk.cell {w : World} {b : Nat} {t : TypeId} {cs : Array Value} (h : Blk w b t cs) (i : Nat) : w.cell? ⟨b, i, none⟩ = cs[i]? := by simp [World.cell?, show w.heap[b]? = _ from h]
theorem Blk.frozen {w : World} {b : Nat} {t : TypeId} {cs : Array Value} (h : Blk w b t cs) (i : Nat) : w.frozen? ⟨b, i, none⟩ = false := by simp [World.frozen?, show w.heap[b]? = _ from h]
theorem Blk.new (w : World) (t : TypeId) (cs : Array Value) : Blk (w.alloc (.cells cs t)) w.heap.size t cs := World.alloc_heap_new w _
theorem Blk.kept {w w' : World} {row : Option Nat} {b : Nat} {t : TypeId} {cs : Array Value} (h : Blk w b t cs) (hg : w.grownBy w' row) (hne : some b ≠ row) : Blk w' b t cs := (hg.block b h.lt hne).trans h
theorem Blk.alloc {w : World} {b : Nat} {t : TypeId} {cs : Array Value} (h : Blk w b t cs) (o : Obj) : Blk (w.alloc o) b t cs := h.kept (World.grownBy_alloc w o none) (by simp)
theorem Blk.set {w : World} {b : Nat} {t : TypeId} {cs : Array Value} (h : Blk w b t cs) (i : Nat) (v : Value) : Blk (w.setCell ⟨b, i, none⟩ v) b t (cs.setIfInBounds i v) := by
  obtain ⟨hlt, hk⟩ := Array.getElem?_eq_some_iff.1 h
  show (w.heap.modify b _)[b]? = _
  rw [Array.getElem?_eq_getElem (by rw [Array.size_modify]; exact hlt), Array.getElem_modify_self, hk]
  rfl
theorem Blk.other {w : World} {b : Nat} {t : TypeId} {cs : Array Value} (h : Blk w b t cs) {a : Addr} (hne : b ≠ a.block) (v : Value) : Blk (w.setCell a v) b t cs := (Below.heap_setCell w a v b hne).trans h
theorem Blk.below {B : Nat} {w w' : World} {b : Nat} {t : TypeId} {cs : Array Value} (h : Blk w b t cs) (hb : Below B w w') (hlt : b < B) : Blk w' b t cs := (hb.block b hlt).trans h
theorem Blk.since {w w' : World} {b : Nat} {t : TypeId} {cs : Array Value} (h : Blk w b t cs) (hb : Below w.heap.size w w') : Blk w' b t cs := h.below hb h.lt
theorem Blk.drewN {w : World} {b : Nat} {t : TypeId} {cs : Array Value} (h : Blk w b t cs) (n : Nat) : Blk (w.drewN n) b t cs := h
theorem Blk.ne {w : World} {b b' : Nat} {t t' : TypeId} {cs cs' : Array Value} (h : Blk w b t cs) (h' : Blk w b' t' cs') (ht : t ≠ t') : b ≠ b' := by
  rintro rfl
  have e := (show w.heap[b]? = _ from h).symm.trans h'
  simp at e
  exact ht e.2
theorem Blk.inj {w : World} {b : Nat} {t t' : TypeId} {cs cs' : Array Value} (h : Blk w b t cs) (h' : Blk w b t' cs') : cs = cs' := by
  have e := (show w.heap[b]? = _ from h).symm.trans h'
  simp at e
  exact e.1

/-- a step that writes at most block b, said of what lies below a base -/
theorem Below.of_grown {B : Nat} {a w w' : World} {b : Nat} (h : Below B a w) (hg : w.grownBy w' (some b)) (hB : B ≤ w.heap.size) (hb : B ≤ b) : Below B a w' :=
  h.grown hg hB (fun k e => by injection e with e; omega)
theorem Below.of_grown_none {B : Nat} {a w w' : World} (h : Below B a w) (hg : w.grownBy w' none) (hB : B ≤ w.heap.size) : Below B a w' :=
  h.grown hg hB (fun k e => by cases e)
theorem grown_since {w w' : World} {b : Nat} (h : Below w.heap.size w w') : w.grownBy w' (some b) :=
  ⟨h.os, h.tape, h.output, h.size, fun k hk _ => h.block k hk⟩
end Go.Proofs.Ytbpklikmldpeiaa
/-
  Steps that may change the blocks of a list alone, and make others; what they keep.
-/
namespace Go.Proofs.Ytbpklikmldpeiaa
open Go.RowKit

structure Stp (fp : List Nat) (w w' : World) : Prop where
  os : w'.os = w.os
  tape : w'.tape = w.tape
  output : w'.output = w.output
  size : w.heap.size ≤ w'.heap.size
  block : ∀ k, k < w.heap.size → k ∉ fp → w'.heap[k]? = w.heap[k]?

theorem Stp.refl (fp : List Nat) (w : World) : Stp fp w w := ⟨rfl, rfl, rfl, Nat.le_refl _, fun _ _ _ => rfl⟩
theorem Stp.of_below {fp : List Nat} {w w' : World} (h : Below w.heap.size w w') : Stp fp w w' := ⟨h.os, h.tape, h.output, h.size, fun k hk _ => h.block k hk⟩
theorem Stp.of_grown {fp : List Nat} {w w' : World} {b : Nat} (h : w.grownBy w' (some b)) (hb : b ∈ fp) : Stp fp w w' :=
  ⟨h.os, h.tape, h.output, h.size, fun k hk hn => h.block k hk (fun e => by injection e with e; subst e; exact hn hb)⟩
theorem Stp.of_grown_row {fp : List Nat} {w w' : World} {r : Option Nat} (h : w.grownBy w' r) (hb : ∀ b, r = some b → b ∈ fp) : Stp fp w w' :=
  ⟨h.os, h.tape, h.output, h.size, fun k hk hn => h.block k hk (fun e => hn (hb k e.symm))⟩
theorem Stp.trans {fp fp' : List Nat} {w w1 w2 : World} (h : Stp fp w w1) (h2 : Stp fp' w1 w2) (hf : ∀ k ∈ fp', k ∈ fp ∨ w.heap.size ≤ k) : Stp fp w w2 :=
  ⟨h2.os.trans h.os, h2.tape.trans h.tape, h2.output.trans h.output, Nat.le_trans h.size h2.size, fun k hk hn =>
    (h2.block k (Nat.lt_of_lt_of_le hk h.size) (fun hm => by rcases hf k hm with h' | h'; exact hn h'; omega)).trans (h.block k hk hn)⟩
theorem Stp.wider {fp fp' : List Nat} {w w' : World} (h : Stp fp w w') (hf : ∀ k ∈ fp, k ∈ fp') : Stp fp' w w' :=
  ⟨h.os, h.tape, h.output, h.size, fun k hk hn => h.block k hk (fun hm => hn (hf k hm))⟩
theorem Stp.below {fp : List Nat} {w w' : World} (h : Stp fp w w') {B : Nat} (hf : ∀ k ∈ fp, B ≤ k) (hB : B ≤ w.heap.size) : Below B w w' :=
  ⟨h.os, h.tape, h.output, h.size, fun k hk => h.block k (Nat.lt_of_lt_of_le hk hB) (fun hm => by have := hf k hm; omega)⟩
theorem Stp.alloc {fp : List Nat} {a w : World} (h : Stp fp a w) (o : Obj) : Stp fp a (w.alloc o) := h.trans (fp' := []) (Stp.of_below ((Below.refl _ _).alloc (Nat.le_refl _) o)) (fun k hk => by cases hk)
theorem Stp.setCell {fp : List Nat} {a w : World} (h : Stp fp a w) {x : Addr} (hx : x.block ∈ fp ∨ a.heap.size ≤ x.block) (v : Value) : Stp fp a (w.setCell x v) :=
  h.trans (fp' := [x.block]) ⟨rfl, rfl, rfl, by simp [World.setCell], fun k hk hn => Below.heap_setCell w x v k (by simpa using hn)⟩ (fun k hk => by rw [List.mem_singleton] at hk; rw [hk]; exact hx)
theorem Stp.drewN {fp : List Nat} {a w : World} (h : Stp fp a w) (n : Nat) : Stp fp a (w.drewN n) := ⟨h.os, h.tape, h.output, h.size, h.block⟩
theorem Stp.drew {fp : List Nat} {a w : World} (h : Stp fp a w) : Stp fp a w.drew := ⟨h.os, h.tape, h.output, h.size, h.block⟩
theorem Stp.setRow {fp : List Nat} {a w : World} (h : Stp fp a w) {g : Nat} (hx : g ∈ fp ∨ a.heap.size ≤ g) (cs : Array Value) : Stp fp a (w.setRow g cs) :=
  h.trans (fp' := [g]) ⟨rfl, rfl, rfl, by rw [setRow_size]; exact Nat.le_refl _, fun k hk hn => setRow_other w g k cs (fun e => hn (by simp [e]))⟩ (fun k hk => by rw [List.mem_singleton] at hk; rw [hk]; exact hx)

theorem Blk.stp {fp : List Nat} {w w' : World} {b : Nat} {t : TypeId} {cs : Array Value} (h : Blk w b t cs) (hs : Stp fp w w') (hn : b ∉ fp) : Blk w' b t cs := (hs.block b h.lt hn).trans h
theorem own_stp {fp : List Nat} {w w' : World} {base : Nat} {e : TypeId} {size : Nat} {v : Value} {n : Nat} {xs : List Value} (h : w.ownsRow base e size v n xs) (hs : Stp fp w w') (hn : ∀ k, v.ownBlock = some k → k ∉ fp) : w'.ownsRow base e size v n xs := by
  refine ⟨h.1, ?_⟩
  rcases h.2 with h0 | ⟨g, cap, cur, hv, hb, hg, hr⟩
  · exact .inl h0
  · refine .inr ⟨g, cap, cur, hv, hb, ?_, hr⟩
    rw [hs.block g (Array.getElem?_eq_some_iff.1 hg).1 (hn g (by rw [hv]; rfl))]
    exact hg

/-- what is left behind such a step: what P says of a list of blocks, none of which was another's -/
def After (fp : List Nat) (w w' : World) (P : List Nat → Prop) : Prop := ∃ fp', P fp' ∧ Stp fp w w' ∧ ∀ k ∈ fp', k ∈ fp ∨ w.heap.size ≤ k

theorem After.step {fp fp1 : List Nat} {w w1 w2 : World} {P : List Nat → Prop} (h1 : Stp fp w w1) (hf : ∀ k ∈ fp1, k ∈ fp ∨ w.heap.size ≤ k) (h2 : After fp1 w1 w2 P) : After fp w w2 P := by
  obtain ⟨fp', hp, hs, hn⟩ := h2
  refine ⟨fp', hp, h1.trans hs hf, fun k hk => ?_⟩
  rcases hn k hk with h | h
  · exact hf k h
  · exact .inr (Nat.le_trans h1.size h)
theorem After.of {fp : List Nat} {w w' : World} {P : List Nat → Prop} (hs : Stp fp w w') (h : P fp) : After fp w w' P := ⟨fp, h, hs, fun _ hk => .inl hk⟩

theorem After.apart {fp fp2 fp' : List Nat} {w : World} (hd : ∀ k ∈ fp, k ∉ fp2) (h2 : ∀ k ∈ fp2, k < w.heap.size) (hf : ∀ k ∈ fp', k ∈ fp ∨ w.heap.size ≤ k) : ∀ k ∈ fp', k ∉ fp2 := fun k hk hm => by
  rcases hf k hk with h | h
  · exact hd k h hm
  · have := h2 k hm; omega
end Go.Proofs.Ytbpklikmldpeiaa
/-
  Rows of small numbers that can be read, and what keeps them.
-/
namespace Go.Proofs.Ytbpklikmldpeiaa
open Go.RowKit

/-- a row of small numbers -/
def RowN (w : World) (a : Option Addr) (l : List Nat) : Prop :=
  0 < l.length → ∃ b off, a = some ⟨b, off, none⟩ ∧ ∀ i x, l[i]? = some x → x ≤ 255 ∧ w.cell? ⟨b, off + i, none⟩ = some (.int .u8 (x : Nat))
/-- it lies in none of these blocks -/
def Off (a : Option Addr) (fp : List Nat) : Prop := ∀ A, a = some A → A.block ∉ fp

theorem RowN.stp {w w' : World} {a : Option Addr} {l : List Nat} {fp : List Nat} (h : RowN w a l) (hs : Stp fp w w') (hn : 0 < l.length → Off a fp) : RowN w' a l := by
  intro h0
  obtain ⟨b, off, e, hc⟩ := h h0
  refine ⟨b, off, e, fun i x hx => ?_⟩
  obtain ⟨h255, c0⟩ := hc i x hx
  have hlt := World.block_lt_of_cell? w _ c0
  refine ⟨h255, ?_⟩
  rw [World.cell?_of_block (w := w) (hs.block b hlt (hn h0 _ e))]
  exact c0

theorem RowN.lt {w : World} {a : Option Addr} {l : List Nat} (h : RowN w a l) (h0 : 0 < l.length) : ∀ A, a = some A → A.block < w.heap.size := by
  obtain ⟨b, off, e, hc⟩ := h h0
  intro A hA
  rw [e] at hA
  injection hA with hA
  subst hA
  have h1 := World.block_lt_of_cell? w _ (hc 0 _ (List.getElem?_eq_getElem h0)).2
  exact h1
theorem RowN.below {w w' : World} {a : Option Addr} {l : List Nat} {B : Nat} (h : RowN w a l) (hb : Below B w w') (hlt : 0 < l.length → ∀ A, a = some A → A.block < B) : RowN w' a l := by
  intro h0
  obtain ⟨b, off, e, hc⟩ := h h0
  refine ⟨b, off, e, fun i x hx => ?_⟩
  obtain ⟨h255, c0⟩ := hc i x hx
  refine ⟨h255, ?_⟩
  rw [hb.cell (p := ⟨b, off + i, none⟩) (show b < B from hlt h0 ⟨b, off, none⟩ e)]
  exact c0
end Go.Proofs.Ytbpklikmldpeiaa
/-
  Plain lemmas on numbers as bytes, the lowest first.
-/
namespace Go.Proofs.Ytbpklikmldpeiaa

/-- a number's lowest bytes, n of them -/
def lowL : Nat → Nat → List UInt8
  | 0, _ => []
  | n + 1, x => UInt8.ofNat (x % 256) :: lowL n (x / 256)

/-- the number of bytes -/
def numL : List UInt8 → Nat
  | [] => 0
  | b :: r => b.toNat + 256 * numL r

theorem lowL_length : ∀ (n x : Nat), (lowL n x).length = n
  | 0, _ => rfl
  | n + 1, x => by rw [lowL, List.length_cons, lowL_length n]

theorem lowL_snoc : ∀ (n x : Nat), lowL (n + 1) x = lowL n x ++ [UInt8.ofNat (x / 256 ^ n % 256)]
  | 0, x => by simp [lowL]
  | n + 1, x => by
    have h := lowL_snoc n (x / 256)
    rw [lowL, h, lowL, Nat.div_div_eq_div_mul, ← Nat.pow_succ']
    rfl

theorem numL_lt : ∀ (l : List UInt8), numL l < 256 ^ l.length
  | [] => by simp [numL]
  | b :: r => by
    have h := numL_lt r
    have hb : b.toNat < 256 := b.toNat_lt
    rw [numL, List.length_cons, Nat.pow_succ]
    omega

theorem numL_append : ∀ (a b : List UInt8), numL (a ++ b) = numL a + 256 ^ a.length * numL b
  | [], b => by simp [numL]
  | x :: a, b => by
    rw [List.cons_append, numL, numL, numL_append a b, List.length_cons, Nat.pow_succ, Nat.mul_add, ← Nat.mul_assoc, Nat.mul_comm (256 ^ a.length) 256]
    omega

theorem numL_lowL : ∀ (n x : Nat), x < 256 ^ n → numL (lowL n x) = x
  | 0, x, h => by simp at h; rw [h]; rfl
  | n + 1, x, h => by
    rw [lowL, numL, numL_lowL n (x / 256) (by rw [Nat.pow_succ] at h; omega), UInt8.toNat_ofNat']
    omega

theorem shr_pow (x k : Nat) : x / 2 ^ (8 * k) = x / 256 ^ k := by rw [Nat.pow_mul]

theorem lowL_8 (x : Nat) : lowL 8 x = [UInt8.ofNat (x % 256), UInt8.ofNat (x / 256 % 256), UInt8.ofNat (x / 256 / 256 % 256), UInt8.ofNat (x / 256 / 256 / 256 % 256), UInt8.ofNat (x / 256 / 256 / 256 / 256 % 256), UInt8.ofNat (x / 256 / 256 / 256 / 256 / 256 % 256), UInt8.ofNat (x / 256 / 256 / 256 / 256 / 256 / 256 % 256), UInt8.ofNat (x / 256 / 256 / 256 / 256 / 256 / 256 / 256 % 256)] := rfl

/-- an or of a number and one whose lower places are nothing is their sum -/
theorem or_shift (a b k : Nat) (h : a < 256 ^ k) : a ||| (b * 256 ^ k) = a + 256 ^ k * b := by
  have e : 256 ^ k = 2 ^ (8 * k) := by rw [Nat.pow_mul]
  rw [e] at h ⊢
  rw [Nat.or_comm, ← Nat.shiftLeft_eq, ← Nat.shiftLeft_add_eq_or_of_lt h, Nat.shiftLeft_eq, Nat.mul_comm, Nat.add_comm]

/-- a list's values, as bytes -/
def bv (l : List UInt8) : List Value := l.map fun b => Value.int .u8 (b.toNat : Int)

theorem bv_length (l : List UInt8) : (bv l).length = l.length := by simp [bv]
theorem bv_append (a b : List UInt8) : bv (a ++ b) = bv a ++ bv b := by simp [bv]

/-- a string of bytes -/
def st (l : List UInt8) : ByteArray := ⟨l.toArray⟩
theorem st_size (l : List UInt8) : (st l).size = l.length := by simp [st, ByteArray.size]
theorem st_toList (l : List UInt8) : (st l).data.toList = l := by simp [st]
theorem st_inj {a b : List UInt8} (h : st a = st b) : a = b := by rw [← st_toList a, h, st_toList]
theorem st_append (a b : List UInt8) : st a ++ st b = st (a ++ b) := by
  apply ByteArray.ext
  simp [st]
theorem of_data (s : ByteArray) : s = st s.data.toList := by apply ByteArray.ext; simp [st]
theorem st_extract (l : List UInt8) (i j : Nat) : (st l).extract i j = st ((l.drop i).take (j - i)) := by
  apply ByteArray.ext
  apply Array.toList_inj.1
  rw [Go.Lib.extract_data, st_toList, st_toList]
end Go.Proofs.Ytbpklikmldpeiaa
/-
  Failures in memory.
-/
namespace Go.Proofs.Ytbpklikmldpeiaa
open Go.RowKit

structure Fl6 where
  fu : Nat
  ka : Option Addr
  kc : Nat
  keep : List Nat

def cF (x : Fl6) : Array Value := #[.int .u8 (x.fu : Nat), .slice x.ka x.keep.length x.kc]

/-- a row of failures -/
def RowF (w : World) (a : Option Addr) (l : List Fl6) : Prop :=
  0 < l.length → ∃ b off, a = some ⟨b, off, none⟩ ∧ ∀ i x, l[i]? = some x → ∀ j u, (cF x)[j]? = some u → w.cell? ⟨b, off + i * 2 + j, none⟩ = some u

structure FlOk (w : World) (x : Fl6) : Prop where
  fu : x.fu ≤ 255
  keep : x.keep.length ≤ 4611686018427387904
  row : RowN w x.ka x.keep

theorem RowF.below {w w' : World} {a : Option Addr} {l : List Fl6} (h : RowF w a l) (hb : Below w.heap.size w w') : RowF w' a l := by
  intro h0
  obtain ⟨b, off, e, hc⟩ := h h0
  refine ⟨b, off, e, fun i x hx j u hu => ?_⟩
  have c := hc i x hx j u hu
  rw [hb.cell (p := ⟨b, off + i * 2 + j, none⟩) (World.block_lt_of_cell? w _ c)]
  exact c
end Go.Proofs.Ytbpklikmldpeiaa
/-
  A disk, plain: what stands, what is pending, the fuse, whether it is dead; what its calls make of it.
-/
namespace Go.Proofs.Ytbpklikmldpeiaa

structure DS where
  bl : List (List UInt8)
  pe : List (Nat × List UInt8)
  fu : Int
  dead : Bool

structure DS.Ok (s : DS) : Prop where
  bl : ∀ x ∈ s.bl, x.length = 64
  pe : ∀ p ∈ s.pe, p.1 < s.bl.length ∧ p.2.length = 64
  fu : -1 ≤ s.fu ∧ s.fu ≤ 9223372036854775807
  len : s.bl.length ≤ 65536

def z64 : List UInt8 := List.replicate 64 0
theorem z64_length : z64.length = 64 := by simp [z64]
def newDS (n : Nat) : DS := ⟨List.replicate n z64, [], -1, false⟩

theorem newDS_ok {n : Nat} (h : n ≤ 65536) : (newDS n).Ok :=
  ⟨fun x hx => by rw [(List.mem_replicate.1 hx).2, z64_length], fun p hp => (by cases hp), by simp [newDS], by simpa [newDS] using h⟩

/-! what is read -/

/-- of the writes, the newest first: the place, from 1 on, of the first of this block; 0, if there is none -/
def lastR (k : Nat) : List (Nat × List UInt8) → Nat
  | [] => 0
  | p :: r => if p.1 = k then r.length + 1 else lastR k r
def lastOf (pe : List (Nat × List UInt8)) (k : Nat) : Nat := lastR k pe.reverse
def curR (s0 : List UInt8) (k : Nat) : List (Nat × List UInt8) → List UInt8
  | [] => s0
  | p :: r => if p.1 = k then p.2 else curR s0 k r
def curF (s0 : List UInt8) (pe : List (Nat × List UInt8)) (k : Nat) : List UInt8 := curR s0 k pe.reverse

theorem lastOf_snoc (pe : List (Nat × List UInt8)) (p : Nat × List UInt8) (k : Nat) : lastOf (pe ++ [p]) k = if p.1 = k then pe.length + 1 else lastOf pe k := by
  simp [lastOf, lastR]
theorem curF_snoc (s0 : List UInt8) (pe : List (Nat × List UInt8)) (p : Nat × List UInt8) (k : Nat) : curF s0 (pe ++ [p]) k = if p.1 = k then p.2 else curF s0 pe k := by
  simp [curF, curR]

theorem lastR_le (k : Nat) : ∀ r : List (Nat × List UInt8), lastR k r ≤ r.length
  | [] => Nat.le_refl _
  | p :: r => by
    have := lastR_le k r
    simp only [lastR, List.length_cons]
    split <;> omega
theorem lastOf_le (pe : List (Nat × List UInt8)) (k : Nat) : lastOf pe k ≤ pe.length := by
  have := lastR_le k pe.reverse
  simpa [lastOf] using this

theorem lastR_get (k : Nat) : ∀ r : List (Nat × List UInt8), 0 < lastR k r → ∃ d, r.reverse[lastR k r - 1]? = some (k, d)
  | [], h => by simp [lastR] at h
  | p :: r, h => by
    by_cases e : p.1 = k
    · refine ⟨p.2, ?_⟩
      simp only [lastR, if_pos e, List.reverse_cons]
      rw [List.getElem?_append_right (by simp)]
      simp [← e]
    · simp only [lastR, if_neg e] at h ⊢
      obtain ⟨d, hd⟩ := lastR_get k r h
      refine ⟨d, ?_⟩
      rw [List.reverse_cons, List.getElem?_append_left (by have := (List.getElem?_eq_some_iff.1 hd).1; exact this)]
      exact hd
theorem lastOf_get {pe : List (Nat × List UInt8)} {k : Nat} (h : 0 < lastOf pe k) : ∃ d, pe[lastOf pe k - 1]? = some (k, d) := by
  have := lastR_get k pe.reverse h
  rwa [List.reverse_reverse] at this

theorem curR_last (s0 : List UInt8) (k : Nat) : ∀ r : List (Nat × List UInt8), (lastR k r = 0 → curR s0 k r = s0) ∧ (∀ q, r.reverse[lastR k r - 1]? = some q → 0 < lastR k r → curR s0 k r = q.2)
  | [] => ⟨fun _ => rfl, fun q h => by simp at h⟩
  | p :: r => by
    by_cases e : p.1 = k
    · simp only [lastR, curR, if_pos e]
      refine ⟨fun h => by omega, fun q h _ => ?_⟩
      rw [List.reverse_cons, List.getElem?_append_right (by simp)] at h
      simp at h
      rw [h]
    · simp only [lastR, curR, if_neg e]
      obtain ⟨h1, h2⟩ := curR_last s0 k r
      refine ⟨h1, fun q h hp => ?_⟩
      refine h2 q ?_ hp
      have hl := lastR_le k r
      rw [List.reverse_cons, List.getElem?_append_left (by simp; omega)] at h
      exact h
theorem curF_zero {s0 : List UInt8} {pe : List (Nat × List UInt8)} {k : Nat} (h : lastOf pe k = 0) : curF s0 pe k = s0 := (curR_last s0 k pe.reverse).1 h
theorem curF_last {s0 : List UInt8} {pe : List (Nat × List UInt8)} {k : Nat} {q : Nat × List UInt8} (h : 0 < lastOf pe k) (hq : pe[lastOf pe k - 1]? = some q) : curF s0 pe k = q.2 :=
  (curR_last s0 k pe.reverse).2 q (by rw [List.reverse_reverse]; exact hq) h

/-! what stands -/

/-- a write's first bytes stand -/
def settle1 (bl : List (List UInt8)) (p : Nat × List UInt8) (k : Nat) : List (List UInt8) := bl.set p.1 (p.2.take k ++ (bl.getD p.1 []).drop k)
def settleN (bl : List (List UInt8)) (pe : List (Nat × List UInt8)) (kf : Nat → Nat) : Nat → List (List UInt8)
  | 0 => bl
  | n + 1 => settle1 (settleN bl pe kf n) (pe.getD n (0, [])) (kf n)

theorem settle1_length (bl : List (List UInt8)) (p : Nat × List UInt8) (k : Nat) : (settle1 bl p k).length = bl.length := by simp [settle1]
theorem settleN_length (bl : List (List UInt8)) (pe : List (Nat × List UInt8)) (kf : Nat → Nat) : ∀ n, (settleN bl pe kf n).length = bl.length
  | 0 => rfl
  | n + 1 => by rw [settleN, settle1_length, settleN_length]

theorem settle1_ok {bl : List (List UInt8)} (h : ∀ x ∈ bl, x.length = 64) {p : Nat × List UInt8} (hp : p.2.length = 64) (hlt : p.1 < bl.length) {k : Nat} (hk : k ≤ 64) : ∀ x ∈ settle1 bl p k, x.length = 64 := by
  intro x hx
  rcases List.mem_or_eq_of_mem_set hx with hx | rfl
  · exact h x hx
  · rw [List.getD_eq_getElem?_getD, List.getElem?_eq_getElem hlt]
    have := h _ (List.getElem_mem hlt)
    simp [hp, this]
    omega
theorem settleN_ok {bl : List (List UInt8)} {pe : List (Nat × List UInt8)} {kf : Nat → Nat} (h : ∀ x ∈ bl, x.length = 64) (hp : ∀ p ∈ pe, p.1 < bl.length ∧ p.2.length = 64) (hk : ∀ i, kf i ≤ 64) : ∀ n, n ≤ pe.length → ∀ x ∈ settleN bl pe kf n, x.length = 64
  | 0, _ => h
  | n + 1, hn => by
    have hm : pe.getD n (0, []) ∈ pe := by
      rw [List.getD_eq_getElem?_getD, List.getElem?_eq_getElem (by omega)]
      exact List.getElem_mem _
    exact settle1_ok (settleN_ok h hp hk n (by omega)) (hp _ hm).2 (by rw [settleN_length]; exact (hp _ hm).1) (hk n)

/-- how many bytes are kept -/
def kOf (keep : List Nat) (i : Nat) : Nat := min (keep.getD i 0) 64
theorem kOf_le (keep : List Nat) (i : Nat) : kOf keep i ≤ 64 := Nat.min_le_right _ _

/-! the calls -/

def DS.thing (s : DS) : DS × Bool := if s.fu < 0 then (s, true) else if s.fu = 0 then ({ s with dead := true }, false) else ({ s with fu := s.fu - 1 }, true)
def DS.refusal (s : DS) (k : Int) : Int := if s.dead = true then 7 else if k < 0 ∨ (s.bl.length : Int) ≤ k then 8 else 0
def DS.pend (s : DS) (k : Nat) (d : List UInt8) : DS := { s with pe := s.pe ++ [(k, d)] }
def bit7 (b : Bool) : Int := if b then 0 else 7
def DS.write (s : DS) (k : Int) (d : List UInt8) : DS × Int :=
  if s.refusal k ≠ 0 then (s, s.refusal k) else if d.length ≠ 64 then (s, 1) else ((s.pend k.toNat d).thing.1, bit7 (s.pend k.toNat d).thing.2)
def DS.synced (s : DS) : DS := { s with bl := settleN s.bl s.pe (fun _ => 64) s.pe.length, pe := [] }
def DS.sync (s : DS) : DS × Int := if s.dead = true then (s, 7) else if s.thing.2 = true then (s.thing.1.synced, 0) else (s.thing.1, 7)
def DS.read (s : DS) (k : Int) : List UInt8 × Int := if s.refusal k ≠ 0 then ([], s.refusal k) else (curF (s.bl.getD k.toNat []) s.pe k.toNat, 0)
def DS.fail (s : DS) (n : Int) : DS := { s with fu := max n (-1) }
def DS.restart (s : DS) (keep : List Nat) : DS := ⟨settleN s.bl s.pe (kOf keep) s.pe.length, [], -1, false⟩

theorem DS.thing_bl (s : DS) : s.thing.1.bl = s.bl := by
  unfold DS.thing
  split
  · rfl
  · split <;> rfl
theorem DS.thing_pe (s : DS) : s.thing.1.pe = s.pe := by
  unfold DS.thing
  split
  · rfl
  · split <;> rfl
theorem DS.Ok.thing {s : DS} (h : s.Ok) : s.thing.1.Ok := by
  refine ⟨by rw [s.thing_bl]; exact h.bl, by rw [s.thing_bl, s.thing_pe]; exact h.pe, ?_, by rw [s.thing_bl]; exact h.len⟩
  have := h.fu
  unfold DS.thing
  split
  · exact this
  · split
    · exact this
    · simp only; omega
theorem DS.Ok.pend {s : DS} (h : s.Ok) {k : Nat} (hk : k < s.bl.length) {d : List UInt8} (hd : d.length = 64) : (s.pend k d).Ok :=
  ⟨h.bl, fun p hp => by
    rcases List.mem_append.1 hp with hp | hp
    · exact h.pe p hp
    · rw [List.mem_singleton] at hp; rw [hp]; exact ⟨hk, hd⟩, h.fu, h.len⟩
theorem DS.Ok.synced {s : DS} (h : s.Ok) : s.synced.Ok :=
  ⟨settleN_ok h.bl h.pe (fun _ => Nat.le_refl _) _ (Nat.le_refl _), fun p hp => (by cases hp), h.fu, by show (settleN _ _ _ _).length ≤ _; rw [settleN_length]; exact h.len⟩
theorem DS.Ok.restart {s : DS} (h : s.Ok) (keep : List Nat) : (s.restart keep).Ok :=
  ⟨settleN_ok h.bl h.pe (kOf_le keep) _ (Nat.le_refl _), fun p hp => (by cases hp), (by simp [DS.restart]), by show (settleN _ _ _ _).length ≤ _; rw [settleN_length]; exact h.len⟩
theorem DS.Ok.fail {s : DS} (h : s.Ok) {n : Int} (hn : n ≤ 9223372036854775807) : (s.fail n).Ok := ⟨h.bl, h.pe, by simp only [DS.fail]; omega, h.len⟩

theorem DS.refusal_zero {s : DS} {k : Int} (h : s.refusal k = 0) : s.dead = false ∧ 0 ≤ k ∧ k < (s.bl.length : Int) := by
  unfold DS.refusal at h
  split at h
  · omega
  · split at h
    · omega
    · rename_i h1 h2
      exact ⟨by simpa using h1, by omega, by omega⟩
theorem DS.Ok.write {s : DS} (h : s.Ok) (k : Int) (d : List UInt8) : (s.write k d).1.Ok := by
  unfold DS.write
  split
  · exact h
  · rename_i hr
    have hr' : s.refusal k = 0 := by simpa using hr
    obtain ⟨_, h0, h1⟩ := DS.refusal_zero hr'
    split
    · exact h
    · rename_i hl
      exact (h.pend (by omega) (by simpa using hl)).thing
theorem DS.Ok.sync {s : DS} (h : s.Ok) : s.sync.1.Ok := by
  unfold DS.sync
  split
  · exact h
  · split
    · exact h.thing.synced
    · exact h.thing

/-! rows of pieces of one length -/

theorem flatMap_length {α β : Type} (f : α → List β) (c : Nat) : ∀ l : List α, (∀ x ∈ l, (f x).length = c) → (l.flatMap f).length = l.length * c
  | [], _ => by simp
  | x :: r, hf => by
    rw [List.flatMap_cons, List.length_append, hf x List.mem_cons_self, flatMap_length f c r (fun y hy => hf y (List.mem_cons_of_mem _ hy)), List.length_cons, Nat.succ_mul, Nat.add_comm]

theorem flatMap_get {α β : Type} (f : α → List β) (c : Nat) : ∀ (l : List α), (∀ x ∈ l, (f x).length = c) → ∀ (i j : Nat) (x : α), l[i]? = some x → j < c → (l.flatMap f)[i * c + j]? = (f x)[j]?
  | [], _, _, _, _, h, _ => by simp at h
  | y :: r, hf, 0, j, x, h, hj => by
    simp at h
    subst h
    rw [List.flatMap_cons, Nat.zero_mul, Nat.zero_add, List.getElem?_append_left (by rw [hf y List.mem_cons_self]; exact hj)]
  | y :: r, hf, i + 1, j, x, h, hj => by
    have h0 := hf y List.mem_cons_self
    rw [List.flatMap_cons, List.getElem?_append_right (by rw [h0, Nat.succ_mul]; omega), h0, show (i + 1) * c + j - c = i * c + j by rw [Nat.succ_mul]; omega]
    exact flatMap_get f c r (fun z hz => hf z (List.mem_cons_of_mem _ hz)) i j x (by simpa using h) hj

theorem flatMap_set {α β : Type} (f : α → List β) (c : Nat) : ∀ (l : List α), (∀ x ∈ l, (f x).length = c) → ∀ (i : Nat) (x : α), i < l.length → (l.set i x).flatMap f = (l.flatMap f).take (i * c) ++ f x ++ (l.flatMap f).drop (i * c + c)
  | [], _, _, _, h => by simp at h
  | y :: r, hf, 0, x, _ => by
    have h0 := hf y List.mem_cons_self
    have h1 : (f y ++ r.flatMap f).drop c = r.flatMap f := by rw [List.drop_append_of_le_length (by omega), List.drop_of_length_le (by omega), List.nil_append]
    simp only [List.set_cons_zero, List.flatMap_cons, Nat.zero_mul, Nat.zero_add, List.take_zero, List.nil_append, h1]
  | y :: r, hf, i + 1, x, h => by
    have h0 := hf y List.mem_cons_self
    have ih := flatMap_set f c r (fun z hz => hf z (List.mem_cons_of_mem _ hz)) i x (by simpa using h)
    have h1 : (f y ++ r.flatMap f).take ((i + 1) * c) = f y ++ (r.flatMap f).take (i * c) := by
      rw [List.take_append, List.take_of_length_le (by rw [h0, Nat.succ_mul]; omega), h0, show (i + 1) * c - c = i * c by rw [Nat.succ_mul]; omega]
    have h2 : (f y ++ r.flatMap f).drop ((i + 1) * c + c) = (r.flatMap f).drop (i * c + c) := by
      rw [List.drop_append, List.drop_of_length_le (by rw [h0, Nat.succ_mul]; omega), h0, List.nil_append, show (i + 1) * c + c - c = i * c + c by rw [Nat.succ_mul]; omega]
    simp only [List.set_cons_succ, List.flatMap_cons, h1, h2, ih, List.append_assoc]
end Go.Proofs.Ytbpklikmldpeiaa
/-
  Parts of memory that lie apart: what a call that changes one of them keeps of the others.
-/
namespace Go.Proofs.Ytbpklikmldpeiaa
open Go.RowKit

/-- what is said of a list of blocks stays, if none of them is changed; all of them are there -/
structure Stays (P : World → List Nat → Prop) : Prop where
  keep : ∀ {w w' : World} {fp fp2 : List Nat}, P w fp → Stp fp2 w w' → (∀ k ∈ fp, k ∉ fp2) → P w' fp
  lt : ∀ {w : World} {fp : List Nat}, P w fp → ∀ k ∈ fp, k < w.heap.size

theorem Stays.since {P : World → List Nat → Prop} (hP : Stays P) {w w' : World} {fp : List Nat} (h : P w fp) (hb : Below w.heap.size w w') : P w' fp :=
  hP.keep (fp2 := []) h (Stp.of_below hb) (fun _ _ hk => by cases hk)

/-- one beside the other -/
def Sep (P Q : World → List Nat → Prop) (w : World) (fp : List Nat) : Prop := ∃ f1 f2, P w f1 ∧ Q w f2 ∧ (∀ k ∈ f1, k ∉ f2) ∧ fp = f1 ++ f2

theorem Stays.sep {P Q : World → List Nat → Prop} (hP : Stays P) (hQ : Stays Q) : Stays (Sep P Q) where
  keep := by
    rintro w w' fp fp2 ⟨f1, f2, h1, h2, hd, rfl⟩ hs hn
    exact ⟨f1, f2, hP.keep h1 hs (fun k hk => hn k (List.mem_append_left _ hk)), hQ.keep h2 hs (fun k hk => hn k (List.mem_append_right _ hk)), hd, rfl⟩
  lt := by
    rintro w fp ⟨f1, f2, h1, h2, hd, rfl⟩ k hk
    rcases List.mem_append.1 hk with h | h
    · exact hP.lt h1 k h
    · exact hQ.lt h2 k h

theorem Sep.swap {P Q : World → List Nat → Prop} {w : World} {fp : List Nat} (h : Sep P Q w fp) : ∃ fp', Sep Q P w fp' ∧ ∀ k ∈ fp', k ∈ fp := by
  obtain ⟨f1, f2, h1, h2, hd, rfl⟩ := h
  refine ⟨f2 ++ f1, ⟨f2, f1, h2, h1, fun k hk hk' => hd k hk' hk, rfl⟩, fun k hk => ?_⟩
  rcases List.mem_append.1 hk with h | h
  · exact List.mem_append_right _ h
  · exact List.mem_append_left _ h

theorem Sep.assoc {P Q R : World → List Nat → Prop} {w : World} {fp : List Nat} (h : Sep (Sep P Q) R w fp) : Sep P (Sep Q R) w fp := by
  obtain ⟨f12, f3, ⟨f1, f2, h1, h2, hd, rfl⟩, h3, hd2, rfl⟩ := h
  refine ⟨f1, f2 ++ f3, h1, ⟨f2, f3, h2, h3, fun k hk => hd2 k (List.mem_append_right _ hk), rfl⟩, fun k hk hk' => ?_, by rw [List.append_assoc]⟩
  rcases List.mem_append.1 hk' with h | h
  · exact hd k hk h
  · exact hd2 k (List.mem_append_left _ hk) h

theorem Sep.assoc' {P Q R : World → List Nat → Prop} {w : World} {fp : List Nat} (h : Sep P (Sep Q R) w fp) : Sep (Sep P Q) R w fp := by
  obtain ⟨f1, f23, h1, ⟨f2, f3, h2, h3, hd, rfl⟩, hd2, rfl⟩ := h
  refine ⟨f1 ++ f2, f3, ⟨f1, f2, h1, h2, fun k hk hk' => hd2 k hk (List.mem_append_left _ hk'), rfl⟩, h3, fun k hk hk' => ?_, by rw [List.append_assoc]⟩
  rcases List.mem_append.1 hk with h | h
  · exact hd2 k h (List.mem_append_right _ hk')
  · exact hd k h hk'

/-! what is known since some world -/

section
variable {fp0 : List Nat} {W w w' : World} {P P' Q R : World → List Nat → Prop}

theorem After.below (h : After fp0 W w (P w)) {B : Nat} (hf : ∀ k ∈ fp0, B ≤ k) (hB : B ≤ W.heap.size) : Below B W w := by
  obtain ⟨fp, _, hs, _⟩ := h
  exact hs.below hf hB
theorem After.bel (h : After [] W w (P w)) : Below W.heap.size W w := h.below (fun _ hk => by cases hk) (Nat.le_refl _)

theorem After.start (fp : List Nat) (hp : P w fp) : After fp w w (P w) := After.of (Stp.refl _ _) hp

theorem After.since (hP : Stays P) (h : After fp0 W w (P w)) (hb : Below w.heap.size w w') : After fp0 W w' (P w') := by
  obtain ⟨fp, hp, hs, hn⟩ := h
  exact ⟨fp, hP.since hp hb, hs.trans (Stp.of_below (fp := []) hb) (fun k hk => by cases hk), hn⟩
theorem After.drewN (hP : Stays P) (h : After fp0 W w (P w)) (n : Nat) : After fp0 W (w.drewN n) (P (w.drewN n)) := h.since hP ⟨rfl, rfl, rfl, Nat.le_refl _, fun _ _ => rfl⟩
theorem After.drew (hP : Stays P) (h : After fp0 W w (P w)) : After fp0 W w.drew (P w.drew) := h.since hP (Below.refl _ _).drew

/-- less is known -/
theorem After.less (h : After fp0 W w (P w)) (hl : ∀ fp, P w fp → ∃ fp', P' w fp' ∧ ∀ k ∈ fp', k ∈ fp) : After fp0 W w (P' w) := by
  obtain ⟨fp, hp, hs, hn⟩ := h
  obtain ⟨fp', hp', hm⟩ := hl fp hp
  exact ⟨fp', hp', hs, fun k hk => hn k (hm k hk)⟩
theorem After.into (h : After fp0 W w (P w)) (hl : ∀ fp, P w fp → P' w fp) : After fp0 W w (P' w) := h.less fun fp hp => ⟨fp, hl fp hp, fun _ hk => hk⟩
theorem After.swap (h : After fp0 W w (Sep P Q w)) : After fp0 W w (Sep Q P w) := h.less fun _ hp => hp.swap
theorem After.left (h : After fp0 W w (Sep P Q w)) : After fp0 W w (P w) := h.less fun fp hp => by
  obtain ⟨f1, f2, h1, h2, hd, rfl⟩ := hp
  exact ⟨f1, h1, fun k hk => List.mem_append_left _ hk⟩
theorem After.right (h : After fp0 W w (Sep P Q w)) : After fp0 W w (Q w) := h.swap.left

/-- what is known now of some place, whatever its blocks are -/
theorem After.know {T : Prop} (h : After fp0 W w (P w)) (hk : ∀ fp, P w fp → T) : T := by
  obtain ⟨fp, hp, _⟩ := h
  exact hk fp hp

/-- what is new lies beside it -/
theorem After.fresh (hP : Stays P) (h : After fp0 W w (P w)) (hb : Below w.heap.size w w') {fr : List Nat} (hr : R w' fr) (hf : ∀ k ∈ fr, w.heap.size ≤ k) : After fp0 W w' (Sep P R w') := by
  obtain ⟨fp, hp, hs, hn⟩ := h
  refine ⟨fp ++ fr, ⟨fp, fr, hP.since hp hb, hr, fun k hk hk' => ?_, rfl⟩, hs.trans (Stp.of_below (fp := []) hb) (fun k hk => by cases hk), fun k hk => ?_⟩
  · have := hP.lt hp k hk; have := hf k hk'; omega
  · rcases List.mem_append.1 hk with h | h
    · exact hn k h
    · have := hf k h; have := hs.size; exact .inr (by omega)

/-- a step of the whole -/
theorem After.go (h : After fp0 W w (P w)) (hc : ∀ fp, P w fp → After fp w w' (P' w')) : After fp0 W w' (P' w') := by
  obtain ⟨fp, hp, hs, hn⟩ := h
  exact After.step hs hn (hc fp hp)
theorem Sep.goL (hQ : Stays Q) {fp : List Nat} (h : Sep P Q w fp) (hc : ∀ f, P w f → After f w w' (P' w')) : After fp w w' (Sep P' Q w') := by
  obtain ⟨f1, f2, h1, h2, hd, rfl⟩ := h
  obtain ⟨f1', h1', hs, hn⟩ := hc f1 h1
  refine ⟨f1' ++ f2, ⟨f1', f2, h1', hQ.keep h2 hs (fun k hk hk' => hd k hk' hk), fun k hk hk' => ?_, rfl⟩, hs.wider (fun k hk => List.mem_append_left _ hk), fun k hk => ?_⟩
  · rcases hn k hk with h | h
    · exact hd k h hk'
    · have := hQ.lt h2 k hk'; omega
  · rcases List.mem_append.1 hk with h | h
    · rcases hn k h with h | h
      · exact .inl (List.mem_append_left _ h)
      · exact .inr h
    · exact .inl (List.mem_append_right _ h)
theorem Sep.goR (hP : Stays P) {fp : List Nat} (h : Sep P Q w fp) (hc : ∀ f, Q w f → After f w w' (P' w')) : After fp w w' (Sep P P' w') := by
  obtain ⟨f1, f2, h1, h2, hd, rfl⟩ := h
  obtain ⟨f2', h2', hs, hn⟩ := hc f2 h2
  refine ⟨f1 ++ f2', ⟨f1, f2', hP.keep h1 hs hd, h2', fun k hk hk' => ?_, rfl⟩, hs.wider (fun k hk => List.mem_append_right _ hk), fun k hk => ?_⟩
  · rcases hn k hk' with h | h
    · exact hd k hk h
    · have := hP.lt h1 k hk; omega
  · rcases List.mem_append.1 hk with h | h
    · exact .inl (List.mem_append_left _ h)
    · rcases hn k h with h | h
      · exact .inl (List.mem_append_right _ h)
      · exact .inr h
theorem After.goL (hQ : Stays Q) (h : After fp0 W w (Sep P Q w)) (hc : ∀ f, P w f → After f w w' (P' w')) : After fp0 W w' (Sep P' Q w') := h.go fun _ hp => hp.goL hQ hc
theorem After.goR (hP : Stays P) (h : After fp0 W w (Sep P Q w)) (hc : ∀ f, Q w f → After f w w' (P' w')) : After fp0 W w' (Sep P P' w') := h.go fun _ hp => hp.goR hP hc
end

/-! calls -/

section
variable {p : Program} {f : Nat} {args : Array Value} {fp0 : List Nat} {W w : World} {P Q : World → List Nat → Prop} {X : Type} {E : X → Ending → Prop} {P' : X → World → List Nat → Prop}

theorem After.call (h : After fp0 W w (P w)) (hc : ∀ fp, P w fp → Calls p f args w fun e w' => ∃ x, E x e ∧ After fp w w' (P' x w')) : Calls p f args w fun e w' => ∃ x, E x e ∧ After fp0 W w' (P' x w') := by
  obtain ⟨fp, hp, hs, hn⟩ := h
  refine (hc fp hp).mono ?_
  rintro e w' ⟨x, he, ha⟩
  exact ⟨x, he, After.step hs hn ha⟩
theorem Sep.callL (hQ : Stays Q) {fp : List Nat} (h : Sep P Q w fp) (hc : ∀ fp, P w fp → Calls p f args w fun e w' => ∃ x, E x e ∧ After fp w w' (P' x w')) : Calls p f args w fun e w' => ∃ x, E x e ∧ After fp w w' (Sep (P' x) Q w') := by
  have h' := h
  obtain ⟨f1, f2, h1, h2, hd, rfl⟩ := h
  refine (hc f1 h1).mono ?_
  rintro e w' ⟨x, he, ha⟩
  exact ⟨x, he, Sep.goL hQ (P := fun w f => w = w ∧ f = f1 ∧ P w f) ⟨f1, f2, ⟨rfl, rfl, h1⟩, h2, hd, rfl⟩ (fun f hf => by rw [hf.2.1]; exact ha)⟩
theorem Sep.callR (hP : Stays P) {fp : List Nat} (h : Sep P Q w fp) (hc : ∀ fp, Q w fp → Calls p f args w fun e w' => ∃ x, E x e ∧ After fp w w' (P' x w')) : Calls p f args w fun e w' => ∃ x, E x e ∧ After fp w w' (Sep P (P' x) w') := by
  obtain ⟨f1, f2, h1, h2, hd, rfl⟩ := h
  refine (hc f2 h2).mono ?_
  rintro e w' ⟨x, he, ha⟩
  exact ⟨x, he, Sep.goR hP (Q := fun w f => f = f2 ∧ Q w f) ⟨f1, f2, h1, ⟨rfl, h2⟩, hd, rfl⟩ (fun f hf => by rw [hf.1]; exact ha)⟩
end

section
variable {p : Program} {f : Nat} {args : Array Value} {fp0 : List Nat} {W w : World} {P Q : World → List Nat → Prop} {E : Ending → Prop} {P' : World → List Nat → Prop}
theorem After.call1 (h : After fp0 W w (P w)) (hc : ∀ fp, P w fp → Calls p f args w fun e w' => E e ∧ After fp w w' (P' w')) : Calls p f args w fun e w' => E e ∧ After fp0 W w' (P' w') := by
  refine (h.call (X := Unit) (E := fun _ => E) (P' := fun _ => P') fun fp hp => (hc fp hp).mono ?_).mono ?_
  · rintro e w' ⟨h1, h2⟩; exact ⟨(), h1, h2⟩
  · rintro e w' ⟨_, h1, h2⟩; exact ⟨h1, h2⟩
theorem Sep.callL1 (hQ : Stays Q) {fp : List Nat} (h : Sep P Q w fp) (hc : ∀ fp, P w fp → Calls p f args w fun e w' => E e ∧ After fp w w' (P' w')) : Calls p f args w fun e w' => E e ∧ After fp w w' (Sep P' Q w') := by
  refine (h.callL hQ (X := Unit) (E := fun _ => E) (P' := fun _ => P') fun fp hp => (hc fp hp).mono ?_).mono ?_
  · rintro e w' ⟨h1, h2⟩; exact ⟨(), h1, h2⟩
  · rintro e w' ⟨_, h1, h2⟩; exact ⟨h1, h2⟩
theorem Sep.callR1 (hP : Stays P) {fp : List Nat} (h : Sep P Q w fp) (hc : ∀ fp, Q w fp → Calls p f args w fun e w' => E e ∧ After fp w w' (P' w')) : Calls p f args w fun e w' => E e ∧ After fp w w' (Sep P P' w') := by
  refine (h.callR hP (X := Unit) (E := fun _ => E) (P' := fun _ => P') fun fp hp => (hc fp hp).mono ?_).mono ?_
  · rintro e w' ⟨h1, h2⟩; exact ⟨(), h1, h2⟩
  · rintro e w' ⟨_, h1, h2⟩; exact ⟨h1, h2⟩
end

/-! single parts -/

/-- a whole block -/
def BlkR (b : Nat) (t : TypeId) (cs : Array Value) (w : World) (fp : List Nat) : Prop := Blk w b t cs ∧ fp = [b]
theorem BlkR.stays (b : Nat) (t : TypeId) (cs : Array Value) : Stays (BlkR b t cs) where
  keep := by
    rintro w w' fp fp2 ⟨h, rfl⟩ hs hn
    exact ⟨h.stp hs (hn b (by simp)), rfl⟩
  lt := by
    rintro w fp ⟨h, rfl⟩ k hk
    rw [List.mem_singleton] at hk
    rw [hk]; exact h.lt
theorem BlkR.set {b : Nat} {t : TypeId} {cs : Array Value} {w : World} {fp : List Nat} (h : BlkR b t cs w fp) (i : Nat) (v : Value) : After fp w (w.setCell ⟨b, i, none⟩ v) (BlkR b t (cs.setIfInBounds i v) (w.setCell ⟨b, i, none⟩ v)) := by
  obtain ⟨h, rfl⟩ := h
  exact ⟨[b], ⟨h.set i v, rfl⟩, (Stp.refl [b] w).setCell (x := ⟨b, i, none⟩) (.inl (by simp)) v, fun k hk => .inl hk⟩

/-- a row of one's own -/
def OwnR (e : TypeId) (size : Nat) (v : Value) (n : Nat) (xs : List Value) (w : World) (fp : List Nat) : Prop := w.ownsRow 0 e size v n xs ∧ fp = v.ownBlock.toList
theorem OwnR.stays (e : TypeId) (size : Nat) (v : Value) (n : Nat) (xs : List Value) : Stays (OwnR e size v n xs) where
  keep := by
    rintro w w' fp fp2 ⟨h, rfl⟩ hs hn
    exact ⟨own_stp h hs (fun k hk => hn k (by simp [hk])), rfl⟩
  lt := by
    rintro w fp ⟨h, rfl⟩ k hk
    exact (h.lt k (by simpa [Option.mem_toList] using hk)).2
theorem OwnR.of {e : TypeId} {size : Nat} {v : Value} {n : Nat} {xs : List Value} {w : World} {B : Nat} (h : w.ownsRow B e size v n xs) : OwnR e size v n xs w v.ownBlock.toList ∧ ∀ k ∈ v.ownBlock.toList, B ≤ k := by
  refine ⟨⟨⟨h.1, ?_⟩, rfl⟩, fun k hk => (h.lt k (by simpa [Option.mem_toList] using hk)).1⟩
  rcases h.2 with h1 | ⟨g, cap, cur, hv, hbg, hr⟩
  · exact .inl h1
  · exact .inr ⟨g, cap, cur, hv, Nat.zero_le _, hr⟩

/-- nothing -/
def NonR (_ : World) (fp : List Nat) : Prop := fp = []
theorem NonR.stays : Stays NonR where
  keep := fun h _ _ => h
  lt := by
    rintro w fp h k hk
    rw [show fp = [] from h] at hk; cases hk
theorem After.none (w : World) : After [] w w (NonR w) := After.start [] rfl
end Go.Proofs.Ytbpklikmldpeiaa
/-
  Laws on operations whose values have many cells: a variable's zero value, a box, a new one-element slice.
-/
namespace Go.Proofs.Ytbpklikmldpeiaa
open Go.RowKit

section
variable {P : Program} {ops : Array Oper} {rest : List Oper} {o : Oper} {a : Act} {w : World} {Q : Exit → Act → World → Prop}

theorem info_zero {t : TypeId} {z : Value} {size bytes : Nat} (h : (P.info? t).map (fun i => (i.zero, i.size, i.bytes)) = some (some z, size, bytes)) : (∀ w, (zeroValue t).run P w = .ok z w) ∧ (P.info? t).map (·.size) = some size ∧ (∀ w, (sizeOf t).run P w = .ok size w) := by
  cases hq : P.info? t with
  | none => simp [hq] at h
  | some i =>
    simp [hq] at h
    obtain ⟨h1, h2, h3⟩ := h
    exact ⟨fun w => by simp [zeroValue, typeInfo, hq, h1], by simp [h2], fun w => by simp [sizeOf, typeInfo, hq, h2]⟩

theorem wpList_alloc_z (hgd : o.guard = none) (t : TypeId) (ho : o.op = .alloc t) (z : Array Value) (size bytes : Nat) (hi : (P.info? t).map (fun i => (i.zero, i.size, i.bytes)) = some (some (.agg z), size, bytes))
    (h : wpList P ops Q rest (a.put o.dst (.pointer (some ⟨w.heap.size, 0, none⟩))) (w.alloc (.cells z t))) : wpList P ops Q (o :: rest) a w :=
  wpList_plain hgd fun _ hK => by
    have hz := (info_zero hi).1
    unfold Oper.wp execOp
    simp [ho, Instr.alloc, hz, newVar, newRow, Value.cells, Sem.run_bind, Result.andThen]
    exact hK _ _ h

theorem wpList_box_agg (hgd : o.guard = none) (t : TypeId) (x : Operand) (ho : o.op = .box t x) (cs : Array Value) (hx : a.eval x = .agg cs)
    (h : wpList P ops Q rest (a.put o.dst (.pointer (some ⟨w.heap.size, 0, none⟩))) (w.alloc (.cells cs t))) : wpList P ops Q (o :: rest) a w :=
  wpList_plain hgd fun _ hK => by
    unfold Oper.wp execOp
    simp [ho, hx, Instr.box, newVar, newRow, Value.cells, Result.andThen]
    exact hK _ _ h

theorem wpList_store_new (hgd : o.guard = none) (ty : TypeId) (x y : Operand) (ho : o.op = .store ty x y) (hx : a.eval x = .pointer (some ⟨w.heap.size, 0, none⟩)) (cs : Array Value) (hy : a.eval y = .agg cs) (t : TypeId) (old : Array Value)
    (hi : (P.info? ty).map (·.size) = some cs.size) (hold : old.size = cs.size) (h1 : ∀ v ∈ cs.toList, v.oneCell' = true) (h : wpList P ops Q rest (a.put o.dst undef) (w.alloc (.cells cs t))) : wpList P ops Q (o :: rest) a (w.alloc (.cells old t)) := by
  refine wpList_store_row hgd ty x y ho w.heap.size cs hx hy t old (heap_alloc_new w _) hi hold (Array.all_eq_true_iff_forall_mem.2 (fun v hv => h1 v (by simpa using hv))) ?_
  rw [World.setRow_alloc_new]
  exact h

theorem wpList_build_is (hgd : o.guard = none) (t : TypeId) (i : Nat) (x : Operand) (ho : o.op = .build t #[(i, x)]) (v : Value) (hx : a.eval x = v) (cs : Array Value)
    (hb : P.built t [(i, v)] = some cs) (h : wpList P ops Q rest (a.put o.dst (.agg cs)) w) : wpList P ops Q (o :: rest) a w := by
  subst hx
  refine wpList_build hgd t _ ho ?_ ?_
  · simp [hb]
  · simpa [hb] using h

/-- copy of a string into a block that is known whole -/
theorem wpList_copy_str (hgd : o.guard = none) (d s : Operand) (dT sT elem : TypeId) (ho : o.op = .call { callee := .builtin .copy, args := #[d, s], argTypes := #[dT, sT] }) (hu : P.underlying dT = some (.slice elem)) (hsz : (P.info? elem).map (·.size) = some 1)
    (g off n c : Nat) (hd : a.eval d = .slice (some ⟨g, off, none⟩) n c) (data : ByteArray) (hs : a.eval s = .string data) (cur : Array Value) (t : TypeId) (hg : w.heap[g]? = some (.cells cur t (0, 0))) (hle : data.size ≤ n) (hfit : off + data.size ≤ cur.size)
    (h : wpList P ops Q rest (a.put o.dst (goInt data.size)) (w.setRow g (cur.toList.take off ++ Lib.byteCells data.data.toList ++ cur.toList.drop (off + data.size)).toArray)) : wpList P ops Q (o :: rest) a w :=
  wpList_plain hgd fun _ hK => by
    have hr := Go.Lib.run_copy_row_string (P := P) w dT sT o.type elem g off n c data cur t hu hsz hg hle hfit
    unfold Oper.wp execOp
    simp [ho, resolve, invoke, builtin, hd, hs, hr, Result.andThen]
    exact hK _ _ (by simpa using h)

theorem wpList_copy_str_new (hgd : o.guard = none) (d s : Operand) (dT sT elem : TypeId) (ho : o.op = .call { callee := .builtin .copy, args := #[d, s], argTypes := #[dT, sT] }) (hu : P.underlying dT = some (.slice elem)) (hsz : (P.info? elem).map (·.size) = some 1)
    (off n c : Nat) (hd : a.eval d = .slice (some ⟨w.heap.size, off, none⟩) n c) (data : ByteArray) (hs : a.eval s = .string data) (cur : Array Value) (t : TypeId) (hle : data.size ≤ n) (hfit : off + data.size ≤ cur.size) (news : Array Value)
    (hn : (cur.toList.take off ++ Lib.byteCells data.data.toList ++ cur.toList.drop (off + data.size)).toArray = news)
    (h : wpList P ops Q rest (a.put o.dst (goInt data.size)) (w.alloc (.cells news t))) : wpList P ops Q (o :: rest) a (w.alloc (.cells cur t)) := by
  refine wpList_copy_str hgd d s dT sT elem ho hu hsz w.heap.size off n c hd data hs cur t (heap_alloc_new w _) hle hfit ?_
  rw [hn, World.setRow_alloc_new]
  exact h

/-- append of one element, of whatever size, onto an own row, up to growslice's own bound; where the new row lies -/
theorem run_append_wide (w : World) (base : Nat) (t ty e : TypeId) (z : Value) (size bytes : Nat) (ht : P.underlying t = some (.slice e)) (hinfo : (P.info? e).map (fun i => (i.zero, i.size, i.bytes)) = some (some z, size, bytes)) (hzs : z.cells.size = size) (hsz : 0 < size)
    (v : Value) (n : Nat) (xs : List Value) (hown : w.ownsRow base e size v n xs) (A c : Nat) (cs : Array Value) (hA : Blk w A e cs) (hcs : cs.size = size) (h1 : ∀ u ∈ cs.toList, u.oneCell' = true)
    (h63 : n + 1 ≤ maxLen) (hbytes : ((n + 1) + (n + 1) / 4 + 192) * bytes ≤ 281474976710656) (hbase : base ≤ w.heap.size) :
    ∃ v' w', (Builtin.append_ #[t, t] ty #[v, .slice (some ⟨A, 0, none⟩) 1 c]).run P w = .ok v' w' ∧ w'.ownsRow base e size v' (n + 1) (xs ++ cs.toList) ∧ w.grownBy w' v.ownBlock ∧ (v'.ownBlock = v.ownBlock ∨ v'.ownBlock = some w.heap.size) := by
  obtain ⟨i, hi, hzz⟩ := Option.map_eq_some_iff.1 hinfo
  simp only [Prod.mk.injEq] at hzz
  obtain ⟨hz, hs1, hb1⟩ := hzz
  have hl : cs.toList.length = 1 * size := by simp [hcs]
  have hnews : ∀ j u, cs.toList[j]? = some u → w.cell? ((⟨A, 0, none⟩ : Addr).add j) = some u := fun j u hj => by
    rw [Addr.add_mid, Nat.zero_add, hA.cell j, ← Array.getElem?_toList]
    exact hj
  obtain ⟨v', w', hr, h2, h3, _⟩ := run_append_own_wide (P := P) w base t ty e i z size bytes ht hi hz hs1 hb1 hzs hsz v n xs hown ⟨A, 0, none⟩ 1 c cs.toList hl hnews h1 h63 hbytes hbase
  refine ⟨v', w', hr, h2, h3, ?_⟩
  have h63i : ((n + 1 : Nat) : Int) ≤ 9223372036854775807 := by simp only [maxLen] at h63; omega
  rcases hown.2 with ⟨rfl, rfl⟩ | ⟨g, cap, cur, rfl, hbg, hg, hnc, hcm, hcs', htake⟩
  · have hr2 := run_append_nil (P := P) w t ty e i z ht hi hz ⟨A, 0, none⟩ 1 c cs.toList (by rw [hs1]; exact hl) hnews (by omega) (by omega) (by rw [hb1]; simp at hbytes; omega)
    rw [hr] at hr2
    injection hr2 with e1 _
    right; rw [e1]; rfl
  · by_cases hroom : n + 1 ≤ cap
    · have hfit : n * i.size + cs.toList.length ≤ cur.size := by rw [hl, hcs', hs1, ← Nat.add_mul]; exact Nat.mul_le_mul_right _ hroom
      have hr2 := run_append_room (P := P) w t ty e i ht hi g n cap cur hg ⟨A, 0, none⟩ 1 c cs.toList (by rw [hs1]; exact hl) hnews h1 hroom hfit
      rw [hr] at hr2
      injection hr2 with e1 _
      left; rw [e1]; rfl
    · have holds : ∀ j u, xs[j]? = some u → w.cell? ((⟨g, 0, none⟩ : Addr).add j) = some u := hown.cells (g := g) rfl
      have hr2 := run_append_grow (P := P) w t ty e i z ht hi hz ⟨g, 0, none⟩ n cap xs (by rw [hs1]; exact hown.1) holds ⟨A, 0, none⟩ 1 c cs.toList (by rw [hs1]; exact hl) hnews (by omega) h63i (growslice_fits_wide (by omega) (by rw [hb1]; exact hbytes))
      rw [hr] at hr2
      injection hr2 with e1 _
      right; rw [e1]; rfl

theorem fold_zip (cs z : Array Value) (h : cs.size = z.size) : cs.zipIdx.foldl (fun (cs : Array Value) (x : Value × Nat) => cs.setIfInBounds (0 + x.2) x.1) z = cs := by
  have key : ∀ (l : List Value) (k : Nat) (z : List Value), k + l.length = z.length → (l.zipIdx k).foldl (fun (cs : Array Value) (x : Value × Nat) => cs.setIfInBounds (0 + x.2) x.1) z.toArray = (z.take k ++ l).toArray := by
    intro l
    induction l with
    | nil => intro k z h; simp at h; simp [h]
    | cons v r ih =>
      intro k z h
      simp only [List.zipIdx_cons, List.foldl_cons, Nat.zero_add]
      have e : z.toArray.setIfInBounds k v = (z.set k v).toArray := by simp
      simp only [Nat.zero_add] at ih
      rw [e, ih (k + 1) (z.set k v) (by simp at h ⊢; omega)]
      simp at h
      rw [List.take_succ_eq_append_getElem (by simp; omega), List.take_set_of_le (Nat.le_refl _)]
      simp
  have := key cs.toList 0 z.toList (by simpa using h)
  simp only [List.take_zero, List.nil_append, Array.toArray_toList] at this
  rw [← Array.foldl_toList, Array.toList_zipIdx]
  exact this

theorem run_buildSlice_one (w : World) (t e : TypeId) (z : Value) (size bytes : Nat) (ht : P.underlying t = some (.slice e)) (hi : (P.info? e).map (fun i => (i.zero, i.size, i.bytes)) = some (some z, size, bytes)) (h0 : 0 < size) (hmax : size ≤ 16777216)
    (v : Value) (hv : v.cells.size = size) : (Instr.buildSlice t 1 #[(0, v)]).run P w = .ok (.slice (some ⟨w.heap.size, 0, none⟩) 1 1) (w.alloc (.cells v.cells e)) := by
  obtain ⟨h1, _, h3⟩ := info_zero hi
  have hne : ¬ (size = 0) := by omega
  have hb : ¬ (16777216 < size) := by omega
  have hm : ((Array.range size).map fun i => z.cells[i % z.cells.size]!).size = size := by simp
  have hf := fold_zip v.cells ((Array.range size).map fun i => z.cells[i % z.cells.size]!) (by rw [hm, hv])
  unfold Instr.buildSlice
  simp [run_underlying ht, h3, h1, Sem.run_bind, Result.andThen, hne, hb, Instr.fill, hv, newRow]
  simp [hv] at hf
  rw [hf]

/-- copy of cells into a block that is known whole, none of them included -/
theorem wpList_copy_cells (hgd : o.guard = none) (d s : Operand) (dT sT elem : TypeId) (ho : o.op = .call { callee := .builtin .copy, args := #[d, s], argTypes := #[dT, sT] }) (hu : P.underlying dT = some (.slice elem)) (hsz : (P.info? elem).map (·.size) = some 1)
    (g off n c : Nat) (hd : a.eval d = .slice (some ⟨g, off, none⟩) n c) (ad : Addr) (m c' : Nat) (hs : a.eval s = .slice (some ad) m c') (cur : List Value) (t : TypeId) (hg : Blk w g t cur.toArray) (cs : List Value) (hm : m = cs.length) (hle : m ≤ n)
    (hsrc : ∀ j u, cs[j]? = some u → w.cell? (ad.add j) = some u) (hfit : off + cs.length ≤ cur.length) (h1 : ∀ u ∈ cs, u.oneCell' = true)
    (h : wpList P ops Q rest (a.put o.dst (goInt cs.length)) (w.setRow g (splice cur off cs).toArray)) : wpList P ops Q (o :: rest) a w := by
  refine wpList_copy_own hgd d s dT sT ho elem hu hsz g off n c ad m c' hd hs cur.toArray t hg cs (by rw [hm]; exact (Nat.min_eq_left (by omega)).symm) hsrc (by simpa using hfit) h1 ?_
  simpa [splice] using h

variable {K : Act → World → Prop}

theorem wp_buildSlice_one (dst : Option Tmp) (hdst : o.dst = dst) (t e : TypeId) (x : Operand) (ho : o.op = .buildSlice t 1 #[(0, x)]) (z : Value) (size bytes : Nat) (ht : P.underlying t = some (.slice e)) (hi : (P.info? e).map (fun i => (i.zero, i.size, i.bytes)) = some (some z, size, bytes)) (h0 : 0 < size) (hmax : size ≤ 16777216)
    (cs : Array Value) (hx : a.eval x = .agg cs) (hcs : cs.size = size)
    (h : K (a.put dst (.slice (some ⟨w.heap.size, 0, none⟩) 1 1)) (w.alloc (.cells cs e))) : o.wp P a w K Q := by
  subst hdst
  have hr := run_buildSlice_one (P := P) w t e z size bytes ht hi h0 hmax (.agg cs) hcs
  unfold Oper.wp execOp
  simp [ho, hx, hr, Result.andThen]
  exact h

theorem wp_append_wide (dst : Option Tmp) (hdst : o.dst = dst) (s x : Operand) (t e : TypeId) (ho : o.op = .call { callee := .builtin .append, args := #[s, x], argTypes := #[t, t] })
    (base : Nat) (z : Value) (size bytes : Nat) (ht : P.underlying t = some (.slice e)) (hinfo : (P.info? e).map (fun i => (i.zero, i.size, i.bytes)) = some (some z, size, bytes)) (hzs : z.cells.size = size) (hsz : 0 < size)
    (v : Value) (n : Nat) (xs : List Value) (hs : a.eval s = v) (A c : Nat) (hx : a.eval x = .slice (some ⟨A, 0, none⟩) 1 c) (hown : w.ownsRow base e size v n xs) (cs : Array Value) (hA : Blk w A e cs) (hcs : cs.size = size) (h1 : ∀ u ∈ cs.toList, u.oneCell' = true)
    (h63 : n + 1 ≤ maxLen) (hbytes : ((n + 1) + (n + 1) / 4 + 192) * bytes ≤ 281474976710656) (hbase : base ≤ w.heap.size)
    (h : ∀ v' w', w'.ownsRow base e size v' (n + 1) (xs ++ cs.toList) → w.grownBy w' v.ownBlock → (v'.ownBlock = v.ownBlock ∨ v'.ownBlock = some w.heap.size) → K (a.put dst v') w') : o.wp P a w K Q := by
  subst hdst
  obtain ⟨v', w', hr, h2, h3, h4⟩ := run_append_wide (P := P) w base t o.type e z size bytes ht hinfo hzs hsz v n xs hown A c cs hA hcs h1 h63 hbytes hbase
  unfold Oper.wp execOp
  simp only [ho, resolve, invoke, builtin, Sem.run_bind, Sem.run_pure, Result.andThen_ok, List.map_toArray, List.map_cons, List.map_nil, hs, hx, hr]
  exact h v' w' h2 h3 h4

theorem wpList_buildSlice_one (hgd : o.guard = none) (t e : TypeId) (x : Operand) (ho : o.op = .buildSlice t 1 #[(0, x)]) (z : Value) (size bytes : Nat) (ht : P.underlying t = some (.slice e)) (hi : (P.info? e).map (fun i => (i.zero, i.size, i.bytes)) = some (some z, size, bytes)) (h0 : 0 < size) (hmax : size ≤ 16777216)
    (cs : Array Value) (hx : a.eval x = .agg cs) (hcs : cs.size = size)
    (h : wpList P ops Q rest (a.put o.dst (.slice (some ⟨w.heap.size, 0, none⟩) 1 1)) (w.alloc (.cells cs e))) : wpList P ops Q (o :: rest) a w :=
  wpList_plain hgd fun _ hK => wp_buildSlice_one _ rfl t e x ho z size bytes ht hi h0 hmax cs hx hcs (hK _ _ h)

theorem wpList_append_wide (hgd : o.guard = none) (s x : Operand) (t e : TypeId) (ho : o.op = .call { callee := .builtin .append, args := #[s, x], argTypes := #[t, t] })
    (base : Nat) (z : Value) (size bytes : Nat) (ht : P.underlying t = some (.slice e)) (hinfo : (P.info? e).map (fun i => (i.zero, i.size, i.bytes)) = some (some z, size, bytes)) (hzs : z.cells.size = size) (hsz : 0 < size)
    (v : Value) (n : Nat) (xs : List Value) (hs : a.eval s = v) (A c : Nat) (hx : a.eval x = .slice (some ⟨A, 0, none⟩) 1 c) (hown : w.ownsRow base e size v n xs) (cs : Array Value) (hA : Blk w A e cs) (hcs : cs.size = size) (h1 : ∀ u ∈ cs.toList, u.oneCell' = true)
    (h63 : n + 1 ≤ maxLen) (hbytes : ((n + 1) + (n + 1) / 4 + 192) * bytes ≤ 281474976710656) (hbase : base ≤ w.heap.size)
    (h : ∀ v' w', w'.ownsRow base e size v' (n + 1) (xs ++ cs.toList) → w.grownBy w' v.ownBlock → (v'.ownBlock = v.ownBlock ∨ v'.ownBlock = some w.heap.size) → wpList P ops Q rest (a.put o.dst v') w') : wpList P ops Q (o :: rest) a w :=
  wpList_plain hgd fun _ hK => wp_append_wide _ rfl s x t e ho base z size bytes ht hinfo hzs hsz v n xs hs A c hx hown cs hA hcs h1 h63 hbytes hbase fun v' w' h2 h3 h4 => hK _ _ (h v' w' h2 h3 h4)

/-- a store of one cell -/
theorem wp_store_one (dst : Option Tmp) (hdst : o.dst = dst) (ty : TypeId) (x y : Operand) (ho : o.op = .store ty x y) (hi : (P.info? ty).map (·.size) = some 1) (A : Addr) (hx : a.eval x = .pointer (some A)) (v u : Value) (hy : a.eval y = v) (hv : v.oneCell' = true) (hc : w.cell? A = some u) (hf : w.frozen? A = false)
    (h : K (a.put dst undef) (w.setCell A v)) : o.wp P a w K Q := by
  subst hdst
  have hr : (Instr.storeAt ty (.pointer (some A)) v).run P w = .ok () (w.setCell A v) := by
    have hsz : (sizeOf ty).run P w = .ok 1 w := by
      cases hq : P.info? ty with
      | none => simp [hq] at hi
      | some i => simp [hq] at hi; simp [sizeOf, typeInfo, hq, hi]
    have hcs : v.cells = #[v] := by cases v <;> first | rfl | (simp [Value.oneCell'] at hv)
    have hst := run_store P w A v .plain hv
    rw [hc] at hst
    simp only [hf, Bool.false_eq_true, if_false] at hst
    simp [Instr.storeAt, Instr.sureAddr, storeVar, hsz, hcs, storeCells, Addr.add, hst, Result.andThen]
  unfold Oper.wp execOp
  simp only [ho, hx, hy, Sem.run_bind, hr, Result.andThen_ok, Sem.run_pure]
  exact h

theorem wpStill_load_mid {R : Act → Prop} (hgd : o.guard = none) (ty : TypeId) (x : Operand) (ho : o.op = .load ty x) (b off : Nat) (hx : a.eval x = .pointer (some ⟨b, off, none⟩)) (cs : List Value) (d : TypeDesc) (hc : w.rangeAt b off cs)
    (hu : P.underlying ty = some d) (hd : d.isRow = true) (hi : (P.info? ty).map (·.size) = some cs.length) (h : wpStill P ops w R rest (a.put o.dst (.agg cs.toArray))) : wpStill P ops w R (o :: rest) a := by
  refine wpStill_step (fun K hK => ?_)
  rw [if_pos (by simp [Region.wanted, hgd])]
  unfold Oper.still execOp
  simp only [ho, hx, Instr.loadAt, Instr.sureAddr, Sem.run_bind, Sem.run_pure, Result.andThen_ok, run_loadVar_mid w b off ty cs d hc hu hd hi]
  exact ⟨rfl, hK _ h⟩
end
end Go.Proofs.Ytbpklikmldpeiaa
