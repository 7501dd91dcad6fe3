/-
  Rows of small numbers that can be read, and what keeps them.
-/
import Derived.Test.YtbpklikmldpeiaaStp
namespace Go.Proofs.Ytbpklikmldpeiaa
open Go.RowKit

/-- a row of small numbers -/
def RowN (w : World) (a : Option Addr) (l : List Nat) : Prop :=
  0 < l.length → ∃ b off, a = some ⟨b, off, none⟩ ∧ ∀ i x, l[i]? = some x → x ≤ 255 ∧ w.cell? ⟨b, off + i, none⟩ = some (.int .u8 (x : Nat))
/-- it lies in none of these blocks -/
def Off (a : Option Addr) (fp : List Nat) : Prop := ∀ A, a = some A → A.block ∉ fp

theorem RowN.stp {w w' : World} {a : Option Addr} {l : List Nat} {fp : List Nat} (h : RowN w a l) (hs : Stp fp w w') (hn : 0 < l.length → Off a fp) : RowN w' a l := by
  intro h0
  obtain ⟨b, off, e, hc⟩ := h h0
  refine ⟨b, off, e, fun i x hx => ?_⟩
  obtain ⟨h255, c0⟩ := hc i x hx
  have hlt := World.block_lt_of_cell? w _ c0
  refine ⟨h255, ?_⟩
  rw [World.cell?_of_block (w := w) (hs.block b hlt (hn h0 _ e))]
  exact c0

theorem RowN.lt {w : World} {a : Option Addr} {l : List Nat} (h : RowN w a l) (h0 : 0 < l.length) : ∀ A, a = some A → A.block < w.heap.size := by
  obtain ⟨b, off, e, hc⟩ := h h0
  intro A hA
  rw [e] at hA
  injection hA with hA
  subst hA
  have h1 := World.block_lt_of_cell? w _ (hc 0 _ (List.getElem?_eq_getElem h0)).2
  exact h1
theorem RowN.below {w w' : World} {a : Option Addr} {l : List Nat} {B : Nat} (h : RowN w a l) (hb : Below B w w') (hlt : 0 < l.length → ∀ A, a = some A → A.block < B) : RowN w' a l := by
  intro h0
  obtain ⟨b, off, e, hc⟩ := h h0
  refine ⟨b, off, e, fun i x hx => ?_⟩
  obtain ⟨h255, c0⟩ := hc i x hx
  refine ⟨h255, ?_⟩
  rw [hb.cell (p := ⟨b, off + i, none⟩) (show b < B from hlt h0 ⟨b, off, none⟩ e)]
  exact c0
end Go.Proofs.Ytbpklikmldpeiaa
