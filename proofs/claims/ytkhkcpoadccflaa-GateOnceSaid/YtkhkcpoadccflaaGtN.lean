/-
  Plain: no key has two records; what is told of a key says what was decided.
-/
import Derived.Test.YtkhkcpoadccflaaGtC
import Derived.Test.YtkhkcpoadccflaaGtL
import Derived.Test.YtkhkcpoadccflaaGtO
namespace Go.Proofs.Ytkhkcpoadccflaa
open Go.RowKit Go.Deep

/-- no key has two records -/
def One (L : List Rc) : Prop := ∀ (i j : Nat) (x y : Rc), i < j → L[i]? = some x → L[j]? = some y → x.1 ≠ y.1
theorem One.nil : One [] := fun i j x y _ h => by simp at h
theorem One.snoc {L : List Rc} {x : Rc} (h : One L) (hx : hasK x.1 L = false) : One (L ++ [x]) := fun i j a b hij ha hb => by
  have hj := (List.getElem?_eq_some_iff.1 hb).1
  rw [List.length_append, List.length_singleton] at hj
  have hi : i < L.length := by omega
  rw [List.getElem?_append_left hi] at ha
  by_cases hjl : j < L.length
  · rw [List.getElem?_append_left hjl] at hb
    exact h i j a b hij ha hb
  · rw [List.getElem?_append_right (by omega), show j - L.length = 0 by omega] at hb
    simp only [List.getElem?_cons_zero, Option.some.injEq] at hb
    subst hb
    intro e
    rw [hasK_some ha e] at hx
    cases hx
theorem One.ask {L : List Rc} (h : One L) (r : Rq) (c : Nat) : One (askL r c L) := by
  unfold askL
  split
  · exact h
  · unfold recs
    split
    · rename_i hc
      exact h.snoc hc.2
    · exact h
theorem One.not {L : List Rc} (h : One L) {i : Nat} {x : Rc} (hx : L[i]? = some x) : hasK x.1 (L.take i) = false := hasK_none fun j s hs => by
  have hj := (List.getElem?_eq_some_iff.1 hs).1
  rw [List.length_take] at hj
  rw [List.getElem?_take_of_lt (by omega)] at hs
  exact h j i s x (by omega) hs hx
theorem One.kind {L : List Rc} (h : One L) {i : Nat} {x : Rc} (hx : L[i]? = some x) : knd x.1 L = knR x := knd_at hx rfl fun j s hj hs => h j i s x hj hs hx

/-- the records that were stand ahead of all -/
theorem ask_head (r : Rq) (c : Nat) (L : List Rc) : (askL r c L).take L.length = L := by
  unfold askL
  split
  · exact List.take_length
  · unfold recs
    split
    · rw [List.take_append_of_le_length (Nat.le_refl _)]; exact List.take_length
    · exact List.take_length
/-- what is told, is known -/
theorem told_known {r : Rq} {c : Nat} {L : List Rc} {j : Nat} {y : Rp} (h : (askA r c L)[j]? = some y) : y.2.1 = knd y.1 (askL r c L) := by
  unfold askA at h
  unfold askL
  split at h
  · simp at h
  · rename_i ho
    rw [if_neg ho]
    have hm := List.mem_of_getElem? h
    unfold told at hm
    split at hm
    · rw [List.mem_singleton] at hm
      subst hm
      rfl
    · split at hm
      · simp only [List.mem_cons, List.not_mem_nil, or_false, or_self] at hm
        subst hm
        rfl
      · cases hm
end Go.Proofs.Ytkhkcpoadccflaa
