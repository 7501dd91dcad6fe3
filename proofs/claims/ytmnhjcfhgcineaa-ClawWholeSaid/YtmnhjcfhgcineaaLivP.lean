/-
  Plain laws: a row of integers is kept.
-/
import Derived.Test.YtmnhjcfhgcineaaSplitC
namespace Go.Proofs.Ytmnhjcfhgcineaa
open Go.RowKit Go.Deep

theorem below_drewN {B : Nat} {a w : World} (h : Below B a w) (n : Nat) : Below B a (w.drewN n) := ⟨h.os, h.tape, h.output, h.size, h.block⟩

theorem RowI.of_rowIs {k : IntKind} {w : World} {g : Nat} {t : TypeId} {zs : List Int} (h : w.rowIs g t zs.length (fun i => .int k (zs.getD i 0))) : RowI k w (some ⟨g, 0, none⟩) zs :=
  fun _ => ⟨g, 0, rfl, fun i hi => by rw [Nat.zero_add]; exact h.cell hi⟩

theorem RowI.keep {k : IntKind} {w w' : World} {a : Option Addr} {zs : List Int} (h : RowI k w a zs) (hb : Below w.heap.size w w') : RowI k w' a zs := fun hp => by
  obtain ⟨b, off, e, hc⟩ := h hp
  refine ⟨b, off, e, fun i hi => ?_⟩
  have h1 := hc i hi
  rw [hb.cell (p := ⟨b, off + i, none⟩) (World.block_lt_of_cell? w _ h1)]
  exact h1

end Go.Proofs.Ytmnhjcfhgcineaa
