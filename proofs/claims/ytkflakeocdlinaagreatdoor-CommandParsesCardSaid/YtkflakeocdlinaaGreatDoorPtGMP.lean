/-
  The document's Parts, whatever comes in; slices.Equal of parts that are the same; souklaw12.lives.
-/
import Derived.Test.YtkflakeocdlinaaGreatDoorPtFMP
import Derived.Laws.StructEq
namespace Go.Proofs.YtkflakeocdlinaaGreatDoor
open Go.RowKit Go.Deep

theorem rparts_any (A f t h q : Int) (a : Option Addr) (c : Nat) (xs : List Sh) (s tt : Nat → Nat) (w : World) (hA : Amt A) (hr : RowG 2 cSh w a xs)
    (hO : ofE A f t h xs = 0 → Ordr xs.length (fun i => (rf (A - f - t).toNat (ptS xs) (ptW xs) i : Int)) s tt) :
    Calls Tryz.prog 33 #[.int .i64 A, .agg #[.int .i64 f, .int .i64 t, .int .i64 h, .int .i64 q], .slice a xs.length c] w (RpPost (ofE A f t h xs) (A - f - t).toNat h xs tt w) := by
  by_cases hc : A ≤ 1125899906842624 ∧ 0 ≤ f ∧ 0 ≤ t ∧ 0 ≤ h ∧ h ≤ 10000 ∧ f + t ≤ A
  · by_cases hl : xs.length = 0 ∨ 8 < xs.length
    · rw [ofE_bad1 hl]
      exact (rparts_bad A f t h q a c xs.length w hA (.inr hl)).mono fun e w' he => .inl ⟨by decide, he⟩
    · rw [ofE_good hc hl] at hO ⊢
      exact rparts_good A f t h q a c xs s tt w hr hc hl hO
  · rw [ofE_bad2 hc]
    exact (rparts_bad A f t h q a c xs.length w hA (.inl hc)).mono fun e w' he => .inl ⟨by decide, he⟩

end Go.Proofs.YtkflakeocdlinaaGreatDoor
