/-
  A list of texts that came in, opened (the neutral text; the elder one hangs on the blocks).
-/
import Derived.Test.YthckcbnendjmpaaDkO
import Derived.Test.YthckcbnendjmpaaStrs
import Derived.SliceStrings
import Derived.WalkKit
import Derived.ProofKit
import Derived.OpenShut
import Derived.ShutString
import Derived.ChangeOld
import Derived.SizedLaws
namespace Go.Proofs.Ythckcbnendjmpaa
open Go.RowKit Go.ChangeShapes Go.WideShapes

theorem open_strs5 {H : Type} {enc : TypeId × Value → H} {W : World} {sp : Nat → Bool} {a0 : Option Addr} {len cap : Nat} {d : DataW H} {p : List MemPlace}
    (h : DataW.Trod enc Try.prog W 0 sp true 39 (.slice a0 len cap) d p) :
    ∃ ls : List (List UInt8), ls.length = len ∧ RowS W a0 ls ∧ (∀ s ∈ ls, s.length ≤ maxLen) ∧ len ≤ cap ∧ cap ≤ maxLen ∧ (a0 = none → len = 0 ∧ cap = 0) := by
  obtain ⟨fuel, hf⟩ := h
  rcases open_strings Try.underlying39 Try.underlying9 cellsStrx hf with ⟨hcs, _⟩ | ⟨a, len', cap', ss, hcs, _, hl, hm, hz, _, hcell, hsz⟩
  · simp [Value.cells] at hcs
    obtain ⟨rfl, rfl, rfl⟩ := hcs
    exact ⟨[], rfl, fun h => by simp at h, by simp, Nat.le_refl _, by simp, fun _ => ⟨rfl, rfl⟩⟩
  · simp [Value.cells] at hcs
    obtain ⟨rfl, rfl, rfl⟩ := hcs
    have hlen : len ≤ ss.length := by rw [hz]; split <;> omega
    refine ⟨(ss.take len).map (·.data.toList), by simp; omega, fun hp => ?_, ?_, hl, hm, fun h => by cases h⟩
    · have hp' : 0 < len := by simp at hp; omega
      have hc0 := hcell 0 (by omega)
      have hspot : a.spot = none := by simpa [Addr.add] using World.cell?_spot hc0
      obtain ⟨b, off, spot⟩ := a
      simp only at hspot
      subst hspot
      refine ⟨b, off, rfl, fun i x hi => ?_⟩
      have hlt := (List.getElem?_eq_some_iff.1 hi).1
      have hlt' : i < len := by simp at hlt; omega
      have hc := hcell i (by omega)
      rw [List.getElem?_map, List.getElem?_take_of_lt hlt'] at hi
      obtain ⟨s, hs, hx⟩ := Option.map_eq_some_iff.1 hi
      have e1 : ss.getD i ByteArray.empty = s := by rw [List.getD_eq_getElem?_getD, hs]; rfl
      rw [e1] at hc
      rw [← hx, ← of_data, ← hc]
      unfold Addr.add
      by_cases e0 : i = 0
      · subst e0; rfl
      · simp [e0]
    · intro s hs
      obtain ⟨x, hx, rfl⟩ := List.mem_map.1 hs
      rw [Array.length_toList]
      exact hsz x (List.mem_of_mem_take hx)
end Go.Proofs.Ythckcbnendjmpaa
