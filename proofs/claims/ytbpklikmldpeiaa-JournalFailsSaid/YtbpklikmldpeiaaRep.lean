/-
  strings.Repeat of one byte.
-/
import Derived.Test.YtbpklikmldpeiaaShelf
import Derived.Test.YtbpklikmldpeiaaOctP
namespace Go.Proofs.Ytbpklikmldpeiaa
open Go.RowKit

theorem repeatL_one (b : UInt8) (c : Nat) : Lib.repeatL [b] c = List.replicate c b := by
  induction c with
  | zero => rfl
  | succ n ih => simp [Lib.repeatL, List.replicate_succ, ih]

theorem repeat_one (b : UInt8) (c : Nat) (w : World) (hc : c ≤ 1000) :
    Calls Try.prog 22 #[.string ⟨#[b]⟩, .int .i64 c] w fun e w' => e = .returned (.string (st (List.replicate c b))) ∧ Below w.heap.size w w' := by
  refine (Try.strings_Repeat ⟨#[b]⟩ c w (by omega) (by show 1 * c ≤ _; omega)).mono ?_
  rintro e w' ⟨rfl, hb⟩
  refine ⟨?_, hb⟩
  rw [show (⟨#[b]⟩ : ByteArray).data.toList = [b] from rfl, repeatL_one]
  rfl
end Go.Proofs.Ytbpklikmldpeiaa
