/-
  Steps that may change the blocks of a list alone, and make others; what they keep.
-/
import Derived.Test.YtdahgmkbpiklpaaHeap
namespace Go.Proofs.Ytdahgmkbpiklpaa
open Go.RowKit

structure Stp (fp : List Nat) (w w' : World) : Prop where
  os : w'.os = w.os
  tape : w'.tape = w.tape
  output : w'.output = w.output
  size : w.heap.size ≤ w'.heap.size
  block : ∀ k, k < w.heap.size → k ∉ fp → w'.heap[k]? = w.heap[k]?

theorem Stp.refl (fp : List Nat) (w : World) : Stp fp w w := ⟨rfl, rfl, rfl, Nat.le_refl _, fun _ _ _ => rfl⟩
theorem Stp.of_below {fp : List Nat} {w w' : World} (h : Below w.heap.size w w') : Stp fp w w' := ⟨h.os, h.tape, h.output, h.size, fun k hk _ => h.block k hk⟩
theorem Stp.of_grown {fp : List Nat} {w w' : World} {b : Nat} (h : w.grownBy w' (some b)) (hb : b ∈ fp) : Stp fp w w' :=
  ⟨h.os, h.tape, h.output, h.size, fun k hk hn => h.block k hk (fun e => by injection e with e; subst e; exact hn hb)⟩
theorem Stp.of_grown_row {fp : List Nat} {w w' : World} {r : Option Nat} (h : w.grownBy w' r) (hb : ∀ b, r = some b → b ∈ fp) : Stp fp w w' :=
  ⟨h.os, h.tape, h.output, h.size, fun k hk hn => h.block k hk (fun e => hn (hb k e.symm))⟩
theorem Stp.trans {fp fp' : List Nat} {w w1 w2 : World} (h : Stp fp w w1) (h2 : Stp fp' w1 w2) (hf : ∀ k ∈ fp', k ∈ fp ∨ w.heap.size ≤ k) : Stp fp w w2 :=
  ⟨h2.os.trans h.os, h2.tape.trans h.tape, h2.output.trans h.output, Nat.le_trans h.size h2.size, fun k hk hn =>
    (h2.block k (Nat.lt_of_lt_of_le hk h.size) (fun hm => by rcases hf k hm with h' | h'; exact hn h'; omega)).trans (h.block k hk hn)⟩
theorem Stp.wider {fp fp' : List Nat} {w w' : World} (h : Stp fp w w') (hf : ∀ k ∈ fp, k ∈ fp') : Stp fp' w w' :=
  ⟨h.os, h.tape, h.output, h.size, fun k hk hn => h.block k hk (fun hm => hn (hf k hm))⟩
theorem Stp.below {fp : List Nat} {w w' : World} (h : Stp fp w w') {B : Nat} (hf : ∀ k ∈ fp, B ≤ k) (hB : B ≤ w.heap.size) : Below B w w' :=
  ⟨h.os, h.tape, h.output, h.size, fun k hk => h.block k (Nat.lt_of_lt_of_le hk hB) (fun hm => by have := hf k hm; omega)⟩
theorem Stp.alloc {fp : List Nat} {a w : World} (h : Stp fp a w) (o : Obj) : Stp fp a (w.alloc o) := h.trans (fp' := []) (Stp.of_below ((Below.refl _ _).alloc (Nat.le_refl _) o)) (fun k hk => by cases hk)
theorem Stp.setCell {fp : List Nat} {a w : World} (h : Stp fp a w) {x : Addr} (hx : x.block ∈ fp ∨ a.heap.size ≤ x.block) (v : Value) : Stp fp a (w.setCell x v) :=
  h.trans (fp' := [x.block]) ⟨rfl, rfl, rfl, by simp [World.setCell], fun k hk hn => Below.heap_setCell w x v k (by simpa using hn)⟩ (fun k hk => by rw [List.mem_singleton] at hk; rw [hk]; exact hx)
theorem Stp.drewN {fp : List Nat} {a w : World} (h : Stp fp a w) (n : Nat) : Stp fp a (w.drewN n) := ⟨h.os, h.tape, h.output, h.size, h.block⟩
theorem Stp.drew {fp : List Nat} {a w : World} (h : Stp fp a w) : Stp fp a w.drew := ⟨h.os, h.tape, h.output, h.size, h.block⟩
theorem Stp.setRow {fp : List Nat} {a w : World} (h : Stp fp a w) {g : Nat} (hx : g ∈ fp ∨ a.heap.size ≤ g) (cs : Array Value) : Stp fp a (w.setRow g cs) :=
  h.trans (fp' := [g]) ⟨rfl, rfl, rfl, by rw [setRow_size]; exact Nat.le_refl _, fun k hk hn => setRow_other w g k cs (fun e => hn (by simp [e]))⟩ (fun k hk => by rw [List.mem_singleton] at hk; rw [hk]; exact hx)

theorem Blk.stp {fp : List Nat} {w w' : World} {b : Nat} {t : TypeId} {cs : Array Value} (h : Blk w b t cs) (hs : Stp fp w w') (hn : b ∉ fp) : Blk w' b t cs := (hs.block b h.lt hn).trans h
theorem own_stp {fp : List Nat} {w w' : World} {base : Nat} {e : TypeId} {size : Nat} {v : Value} {n : Nat} {xs : List Value} (h : w.ownsRow base e size v n xs) (hs : Stp fp w w') (hn : ∀ k, v.ownBlock = some k → k ∉ fp) : w'.ownsRow base e size v n xs := by
  refine ⟨h.1, ?_⟩
  rcases h.2 with h0 | ⟨g, cap, cur, hv, hb, hg, hr⟩
  · exact .inl h0
  · refine .inr ⟨g, cap, cur, hv, hb, ?_, hr⟩
    rw [hs.block g (Array.getElem?_eq_some_iff.1 hg).1 (hn g (by rw [hv]; rfl))]
    exact hg

/-- what is left behind such a step: what P says of a list of blocks, none of which was another's -/
def After (fp : List Nat) (w w' : World) (P : List Nat → Prop) : Prop := ∃ fp', P fp' ∧ Stp fp w w' ∧ ∀ k ∈ fp', k ∈ fp ∨ w.heap.size ≤ k

theorem After.step {fp fp1 : List Nat} {w w1 w2 : World} {P : List Nat → Prop} (h1 : Stp fp w w1) (hf : ∀ k ∈ fp1, k ∈ fp ∨ w.heap.size ≤ k) (h2 : After fp1 w1 w2 P) : After fp w w2 P := by
  obtain ⟨fp', hp, hs, hn⟩ := h2
  refine ⟨fp', hp, h1.trans hs hf, fun k hk => ?_⟩
  rcases hn k hk with h | h
  · exact hf k h
  · exact .inr (Nat.le_trans h1.size h)
theorem After.of {fp : List Nat} {w w' : World} {P : List Nat → Prop} (hs : Stp fp w w') (h : P fp) : After fp w w' P := ⟨fp, h, hs, fun _ hk => .inl hk⟩

theorem After.apart {fp fp2 fp' : List Nat} {w : World} (hd : ∀ k ∈ fp, k ∉ fp2) (h2 : ∀ k ∈ fp2, k < w.heap.size) (hf : ∀ k ∈ fp', k ∈ fp ∨ w.heap.size ≤ k) : ∀ k ∈ fp', k ∉ fp2 := fun k hk hm => by
  rcases hf k hk with h | h
  · exact hd k h hm
  · have := h2 k hm; omega
end Go.Proofs.Ytdahgmkbpiklpaa
