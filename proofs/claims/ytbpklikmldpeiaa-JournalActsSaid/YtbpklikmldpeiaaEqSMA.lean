/-
  slices.Equal of two rows of the same texts.
-/
import Derived.Test.YtbpklikmldpeiaaShelfMA
import Derived.Test.YtbpklikmldpeiaaMA02
namespace Go.Proofs.Ytbpklikmldpeiaa
open Go.RowKit

theorem equal_same (a1 a2 : Option Addr) (c1 c2 n : Nat) (ls : List (List UInt8)) (w : World) (h1 : RowS w a1 ls) (h2 : RowS w a2 ls) (hn : n = ls.length) (hb : n ≤ 65536) :
    Calls Try.prog 16 #[.slice a1 n c1, .slice a2 n c2] w fun e w' => e = .returned (.bool true) ∧ ∃ q, w' = w.drewN q := by
  subst hn
  by_cases h0 : ls.length = 0
  · rw [h0]
    refine (Try.slices_Equal_string_empty a1 a2 c1 0 c2 w (by omega)).mono ?_
    rintro e w' ⟨rfl, rfl⟩
    exact ⟨rfl, 0, rfl⟩
  · obtain ⟨b1, o1, e1, hc1⟩ := h1 (by omega)
    obtain ⟨b2, o2, e2, hc2⟩ := h2 (by omega)
    subst e1 e2
    have hl : (ls.map st).length = ls.length := by simp
    have get : ∀ j, j < (ls.map st).length → ∃ x, ls[j]? = some x ∧ (ls.map st).getD j ByteArray.empty = st x := fun j hj => by
      rw [hl] at hj
      refine ⟨ls[j], List.getElem?_eq_getElem hj, ?_⟩
      rw [List.getD_eq_getElem?_getD, List.getElem?_map, List.getElem?_eq_getElem hj]; rfl
    refine (Try.slices_Equal_string b1 o1 ls.length c1 b2 o2 ls.length c2 (ls.map st) (ls.map st) w (by omega) (by omega) (by omega) (by omega) (fun j hj => ?_) (fun j hj => ?_)).mono ?_
    · obtain ⟨x, hx, hg⟩ := get j hj
      rw [hg]; exact hc1 j x hx
    · obtain ⟨x, hx, hg⟩ := get j hj
      rw [hg]; exact hc2 j x hx
    · rintro e w' ⟨rfl, hq⟩
      exact ⟨by simp, hq⟩
end Go.Proofs.Ytbpklikmldpeiaa
