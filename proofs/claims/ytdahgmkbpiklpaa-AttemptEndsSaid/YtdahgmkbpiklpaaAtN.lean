/-
  What comes into AttemptOnce and AttemptEnds, opened: small numbers.
-/
import Derived.Test.YtdahgmkbpiklpaaAtH
import Derived.Deep.Slices
import Derived.SizedLaws
import Derived.ChangeSame
import Derived.ChangeSlices
namespace Go.Proofs.Ytdahgmkbpiklpaa
open Go.RowKit Go.Deep Go.ChangeShapes Go.WideShapes

theorem cellsU817 : Try.prog.cellsOf 5 = 1 := by kernel_rfl

theorem u32_of {n : Int} (h : (Lit.int .u32 n).wf = true) : ∃ m : Nat, n = (m : Int) ∧ m ≤ 4294967295 := by
  simp [Lit.wf, IntKind.min, IntKind.max, IntKind.signed, IntKind.bits] at h
  exact ⟨n.toNat, by omega, by omega⟩

theorem open_u8s {H : Type} {enc : TypeId × Value → H} {W : World} {sp : Nat → Bool} {a0 : Option Addr} {len cap : Nat} {d : DataW H} {p : List MemPlace}
    (h : DataW.Trod enc Try.prog W 0 sp true 41 (.slice a0 len cap) d p) :
    ∃ xs : List Nat, xs.length = len ∧ RowG 1 cU8 W a0 xs ∧ ∀ x ∈ xs, x ≤ 255 := by
  obtain ⟨fuel, hf⟩ := h
  rcases open_ints Try.underlying41 Try.underlying5 cellsU817 hf with ⟨h1, _⟩ | ⟨a, len', cap', zs, h1, hb, hl, hm, hz, hx, hcell, hwf⟩
  · simp [Value.cells] at h1
    obtain ⟨rfl, rfl, rfl⟩ := h1
    exact ⟨[], rfl, RowG.nil _ _, by simp⟩
  · simp [Value.cells] at h1
    obtain ⟨rfl, rfl, rfl⟩ := h1
    have hlz : len ≤ zs.length := by rw [hz]; split <;> omega
    have hkl : ((zs.take len).map Int.toNat).length = len := by simp; omega
    refine ⟨(zs.take len).map Int.toNat, hkl, fun h0 => ?_, fun x hx' => ?_⟩
    · rw [hkl] at h0
      have hc0 := hcell 0 (by omega)
      have hspot : a.spot = none := by simpa [Addr.add] using World.cell?_spot hc0
      obtain ⟨b, off, spot⟩ := a
      simp only at hspot
      subst hspot
      refine ⟨b, off, rfl, fun i x hi j u hu => ?_⟩
      have hlt := (List.getElem?_eq_some_iff.1 hi).1
      rw [hkl] at hlt
      have hc := hcell i (by omega)
      rw [List.getElem?_map, List.getElem?_take_of_lt hlt] at hi
      obtain ⟨z, hzi, hzx⟩ := Option.map_eq_some_iff.1 hi
      have hgd : zs.getD i 0 = z := by rw [List.getD_eq_getElem?_getD, hzi]; rfl
      rw [hgd] at hc
      have hwz := hwf z (List.mem_of_getElem? hzi)
      simp [Lit.wf, IntKind.min, IntKind.max, IntKind.signed, IntKind.bits] at hwz
      have hzz : (x : Int) = z := by omega
      have hj : j = 0 := by have := (List.getElem?_eq_some_iff.1 hu).1; rw [cU8_len] at this; omega
      subst hj
      simp only [cU8, List.getElem?_cons_zero, Option.some.injEq] at hu
      rw [← hu, hzz, ← hc]
      unfold Addr.add
      by_cases e0 : i = 0
      · subst e0; rfl
      · simp [e0]
    · obtain ⟨z, hz1, rfl⟩ := List.mem_map.1 hx'
      have hwz := hwf z (List.mem_of_mem_take hz1)
      simp [Lit.wf, IntKind.min, IntKind.max, IntKind.signed, IntKind.bits] at hwz
      omega
end Go.Proofs.Ytdahgmkbpiklpaa
