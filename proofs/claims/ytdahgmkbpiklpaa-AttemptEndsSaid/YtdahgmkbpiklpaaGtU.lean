/-
  Plain: what is told, is known; a new gateway.
-/
import Derived.Test.YtdahgmkbpiklpaaGtC
namespace Go.Proofs.Ytdahgmkbpiklpaa
open Go.RowKit Go.Deep

theorem zero_gate {tg tr tq : TypeId} (ht : tg ≠ tr ∧ tg ≠ tq ∧ tr ≠ tq) (w : World) (B : Nat) (hB : B ≤ w.heap.size) : GateP tg tr tq B (w.alloc (.cells #[.slice none 0 0, .slice none 0 0] tg)) w.heap.size [] [] (.slice none 0 0) (.slice none 0 0) :=
  ⟨ht, hB, Blk.new w _ _, World.ownsRow_nil _ _ _ _, World.ownsRow_nil _ _ _ _⟩
theorem tyG : (46 : Nat) ≠ 63 ∧ (46 : Nat) ≠ 59 ∧ (63 : Nat) ≠ 59 := by decide
/-- the records that were stand ahead of all -/
theorem ask_head (r : Rq) (c : Nat) (L : List Rc) : (askL r c L).take L.length = L := by
  unfold askL
  split
  · exact List.take_length
  · unfold recs
    split
    · rw [List.take_append_of_le_length (Nat.le_refl _)]; exact List.take_length
    · exact List.take_length
/-- what is told, is known -/
theorem told_known {r : Rq} {c : Nat} {L : List Rc} {j : Nat} {y : Rp} (h : (askA r c L)[j]? = some y) : y.2.1 = knd y.1 (askL r c L) := by
  unfold askA at h
  unfold askL
  split at h
  · simp at h
  · rename_i ho
    rw [if_neg ho]
    have hm := List.mem_of_getElem? h
    unfold told at hm
    split at hm
    · rw [List.mem_singleton] at hm
      subst hm
      rfl
    · split at hm
      · simp only [List.mem_cons, List.not_mem_nil, or_false, or_self] at hm
        subst hm
        rfl
      · cases hm
end Go.Proofs.Ytdahgmkbpiklpaa
