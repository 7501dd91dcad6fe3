/-
  A row of bytes that came in, as numbers.
-/
import Derived.Test.YtbpklikmldpeiaaMA01
import Derived.Test.YtbpklikmldpeiaaProg
import Derived.Deep.Slices
import Derived.SizedLaws
import Derived.ChangeSame
import Derived.ChangeSlices
import Derived.ProofKit
namespace Go.Proofs.Ytbpklikmldpeiaa
open Go.RowKit Go.Deep Go.ChangeShapes Go.WideShapes

theorem weightsAll_mem5 {H : Type} {P : Program} {e : TypeId} : ∀ {l : List (DataW H)} {d : DataW H}, d ∈ l → ∀ n ∈ d.weights P e, n ∈ DataW.weightsAll P e l
  | d0 :: r, d, hd, n, hn => by
    simp only [DataW.weightsAll, List.mem_append]
    rcases List.mem_cons.1 hd with rfl | hd
    · exact .inl hn
    · exact .inr (weightsAll_mem5 hd n hn)

theorem cellsU8x : Try.prog.cellsOf 5 = 1 := by kernel_rfl
theorem cellsStrx : Try.prog.cellsOf 9 = 1 := by kernel_rfl
theorem cellsBytesx : Try.prog.cellsOf 50 = 1 := by kernel_rfl
theorem bytesU8x : Try.prog.bytesOf 5 = 1 := by kernel_rfl

/-- a row of bytes that came in, as numbers -/
theorem open_keep {H : Type} {enc : TypeId × Value → H} {W : World} {sp : Nat → Bool} {fuel : Nat} {v : Value} {y : DataW H × List MemPlace}
    (h : DataW.trod enc Try.prog W 0 sp true fuel 50 [v] = some y) (hw : ∀ n ∈ y.1.weights Try.prog 50, n ≤ reachBytes) :
    ∃ (ka : Option Addr) (kc : Nat) (keep : List Nat), v = .slice ka keep.length kc ∧ RowN W ka keep ∧ keep.length ≤ reachBytes ∧ keep.length ≤ kc := by
  rcases open_ints Try.underlying50 Try.underlying5 cellsU8x h with ⟨h1, _⟩ | ⟨a, len, cap, zs, h1, hb, hl, hm, hz, hx, hcell, hwf⟩
  · simp only [List.cons.injEq, and_true] at h1
    exact ⟨none, 0, [], h1, fun h => by simp at h, by simp, by simp⟩
  · simp only [List.cons.injEq, and_true] at h1
    have hlz : len ≤ zs.length := by rw [hz]; split <;> omega
    have hkl : ((zs.take len).map Int.toNat).length = len := by simp; omega
    refine ⟨some a, cap, (zs.take len).map Int.toNat, by rw [h1, hkl], fun h0 => ?_, ?_, by rw [hkl]; exact hl⟩
    · rw [hkl] at h0
      have hc0 := hcell 0 (by omega)
      have hspot : a.spot = none := by simpa [Addr.add] using World.cell?_spot hc0
      obtain ⟨b, off, spot⟩ := a
      simp only at hspot
      subst hspot
      refine ⟨b, off, rfl, fun i x hi => ?_⟩
      have hlt := (List.getElem?_eq_some_iff.1 hi).1
      rw [hkl] at hlt
      have hc := hcell i (by omega)
      rw [List.getElem?_map, List.getElem?_take_of_lt hlt] at hi
      obtain ⟨z, hzi, hzx⟩ := Option.map_eq_some_iff.1 hi
      have hgd : zs.getD i 0 = z := by rw [List.getD_eq_getElem?_getD, hzi]; rfl
      rw [hgd] at hc
      have hwz := hwf z (List.mem_of_getElem? hzi)
      simp [Lit.wf, IntKind.min, IntKind.max, IntKind.signed, IntKind.bits] at hwz
      have hzz : (x : Int) = z := by omega
      refine ⟨by omega, ?_⟩
      rw [hzz, ← hc]
      unfold Addr.add
      by_cases e0 : i = 0
      · subst e0; rfl
      · simp [e0]
    · rw [hkl]
      have h2 := hw ((len + (zs.length - len)) * 1) (by
        rw [hx, DataW.weights, Try.underlying50]
        simp only [bytesU8x]
        refine List.mem_cons.2 (.inl ?_)
        simp [lits]
        omega)
      omega
end Go.Proofs.Ytbpklikmldpeiaa
