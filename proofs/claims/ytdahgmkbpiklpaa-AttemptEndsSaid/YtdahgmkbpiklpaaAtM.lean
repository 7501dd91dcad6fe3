/-
  A gateway, and what lies below; what came in beside it; how the laws of layer 17 begin.
-/
import Derived.Test.YtdahgmkbpiklpaaAtI
import Derived.Test.YtdahgmkbpiklpaaAtJ
import Derived.Test.YtdahgmkbpiklpaaAtL
namespace Go.Proofs.Ytdahgmkbpiklpaa
open Go.RowKit Go.Deep Go.Lib

/-- a gateway, and what lies below -/
structure GB (B : Nat) (w wr : World) (b : Nat) (L : List Rc) (Q : List Rp) (v1 v2 : Value) : Prop where
  gate : GateP 46 63 59 B wr b L Q v1 v2
  below : Below B w wr
section
variable {B b : Nat} {w wr wr' : World} {L L' : List Rc} {Q Q' : List Rp} {v1 v2 : Value}
theorem GB.size (h : GB B w wr b L Q v1 v2) : B ≤ wr.heap.size := Nat.le_of_lt (Nat.lt_of_le_of_lt h.gate.hb h.gate.box.lt)
theorem GB.keep (h : GB B w wr b L Q v1 v2) (hb : Below wr.heap.size wr wr') : GB B w wr' b L Q v1 v2 := ⟨h.gate.keep hb, bel_onG h.below h.size hb⟩
theorem GB.turn (h : GB B w wr b L Q v1 v2) (ht : Turned 46 63 59 B b v1 v2 L' Q' wr wr') : ∃ x1 x2, GB B w wr' b L' Q' x1 x2 := by
  obtain ⟨x1, x2, hg, hs, _⟩ := ht
  exact ⟨x1, x2, hg, h.below.trans (hs.below (fun k hk => (h.gate.lt k hk).2) h.size)⟩
theorem GB.new (hb : Below w.heap.size w wr) : GB w.heap.size w (wr.alloc (.cells #[.slice none 0 0, .slice none 0 0] 46)) wr.heap.size [] [] (.slice none 0 0) (.slice none 0 0) :=
  ⟨zero_gate tyG wr w.heap.size hb.size, hb.alloc hb.size _⟩
/-- what came in lies in no block of a gateway's -/
theorem GB.apart {ad : Option Addr} {xs : List Nat} (h : GB w.heap.size w wr b L Q v1 v2) (hr : RowG 1 cU8 w ad xs) : RowG 1 cU8 wr ad xs ∧ (0 < xs.length → ∀ p, ad = some p → p.block ∉ fpG b v1 v2) := by
  refine ⟨hr.keep h.below, fun h0 p hp hm => ?_⟩
  obtain ⟨b1, off, e, hc⟩ := hr h0
  rw [hp] at e
  injection e with e
  have h1 := hc 0 _ (List.getElem?_eq_getElem h0) 0 _ rfl
  have h2 := World.block_lt_of_cell? w _ h1
  have h3 := (h.gate.lt _ hm).2
  rw [e] at h3
  simp only at h2 h3
  omega
end

/-- a list that is too long -/
theorem Inv.few {A : Int} {p : Py} {L : List Rc} {Q : List Rp} (h : Inv A p L Q) : L.length ≤ 1 ∧ (∀ x ∈ L, x.1 = kK) ∧ ∀ x ∈ L, x.2.2.2.1 = A := by
  rcases h.rc with rfl | ⟨mv, rfl⟩
  · exact ⟨by simp, fun x hx => (by cases hx), fun x hx => (by cases hx)⟩
  · exact ⟨by simp, fun x hx => (by rw [List.mem_singleton] at hx; subst hx; rfl), fun x hx => (by rw [List.mem_singleton] at hx; subst hx; rfl)⟩
end Go.Proofs.Ytdahgmkbpiklpaa
