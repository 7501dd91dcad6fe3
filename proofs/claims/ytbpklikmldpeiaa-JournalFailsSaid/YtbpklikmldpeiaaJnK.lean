/-
  Failures in memory.
-/
import Derived.Test.YtbpklikmldpeiaaRowN
import Derived.Test.YtbpklikmldpeiaaProg
import Derived.Test.YtbpklikmldpeiaaOctP
namespace Go.Proofs.Ytbpklikmldpeiaa
open Go.RowKit

structure Fl6 where
  fu : Nat
  ka : Option Addr
  kc : Nat
  keep : List Nat

def cF (x : Fl6) : Array Value := #[.int .u8 (x.fu : Nat), .slice x.ka x.keep.length x.kc]

/-- a row of failures -/
def RowF (w : World) (a : Option Addr) (l : List Fl6) : Prop :=
  0 < l.length → ∃ b off, a = some ⟨b, off, none⟩ ∧ ∀ i x, l[i]? = some x → ∀ j u, (cF x)[j]? = some u → w.cell? ⟨b, off + i * 2 + j, none⟩ = some u

structure FlOk (w : World) (x : Fl6) : Prop where
  fu : x.fu ≤ 255
  keep : x.keep.length ≤ 4611686018427387904
  row : RowN w x.ka x.keep

theorem RowF.below {w w' : World} {a : Option Addr} {l : List Fl6} (h : RowF w a l) (hb : Below w.heap.size w w') : RowF w' a l := by
  intro h0
  obtain ⟨b, off, e, hc⟩ := h h0
  refine ⟨b, off, e, fun i x hx j u hu => ?_⟩
  have c := hc i x hx j u hu
  rw [hb.cell (p := ⟨b, off + i * 2 + j, none⟩) (World.block_lt_of_cell? w _ c)]
  exact c
end Go.Proofs.Ytbpklikmldpeiaa
