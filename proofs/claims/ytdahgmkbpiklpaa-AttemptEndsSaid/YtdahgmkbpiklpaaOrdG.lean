/-
  A region that draws its order, walked by hand: an operation under a guard.
-/
import Derived.Test.YtdahgmkbpiklpaaOrd
import Derived.WalkKit
import Derived.Lib.Hide
namespace Go.Proofs.Ytdahgmkbpiklpaa
open Go.RowKit Go.Lib

section
variable {P : Program} {ops : Array Oper} {Q : Exit → Act → World → Prop} {md : Region.Mode} {S : World → Prop} {E : List Nat}

/-- One alone may come up, and it is wanted; S is shown behind it; what follows is shut. -/
theorem wpAnyE_oneG (i : Nat) {o : Oper} {fuel : Nat} {listed : Array Bool} {a : Act} {w : World} (hr : Region.ready md ops listed = [i]) (ho : ops[i]? = some o) (hw : Region.wanted o (yielded ops a.tmps) = true)
    (h : ∀ K : Act → World → Prop, Hid (∀ a' w', S w' → wpAnyE P md ops Q S E fuel (listed.setIfInBounds i true) a' w' → K a' w') → o.wp P a w K Q) : wpAnyE P md ops Q S E (fuel + 1) listed a w := by
  refine ⟨fun h0 => (by rw [hr] at h0; cases h0), fun j hj => ?_⟩
  rw [hr, List.mem_singleton] at hj
  subst hj
  unfold wpOp
  simp only [ho, hw, if_true]
  exact .inl (h _ (Lib.hid fun a' w' hs hh => ⟨fun _ => hs, hh⟩))
end

end Go.Proofs.Ytdahgmkbpiklpaa
