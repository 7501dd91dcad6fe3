/-
  What comes into layer 12, opened: a list of shares.
-/
import Derived.Test.YthhcbpimkaahnaaPtP
import Derived.Test.YthhcbpimkaahnaaProg
import Derived.Deep.Slices
import Derived.SizedLaws
import Derived.ChangeSame
import Derived.Lib.Strings
namespace Go.Proofs.Ythhcbpimkaahnaa
open Go.RowKit Go.Deep Go.ChangeShapes Go.WideShapes

theorem cellsShare12 : Try.prog.cellsOf 41 = 2 := by kernel_rfl
theorem cellsStr12 : Try.prog.cellsOf 9 = 1 := by kernel_rfl
theorem cellsI6412 : Try.prog.cellsOf 2 = 1 := by kernel_rfl

instance : Inhabited Sh := ⟨([], 0)⟩

theorem choose_lt12 {α : Type} [Inhabited α] {n : Nat} {Q : Nat → α → Prop} (h : ∀ i, i < n → ∃ x, Q i x) : ∃ q : Nat → α, ∀ i, i < n → Q i (q i) :=
  ⟨fun i => if hi : i < n then Classical.choose (h i hi) else default, fun i hi => by
    simp only [dif_pos hi]
    exact Classical.choose_spec (h i hi)⟩

set_option maxRecDepth 100000 in
theorem open_shares {H : Type} {enc : TypeId × Value → H} {W : World} {sp : Nat → Bool} {a0 : Option Addr} {len cap : Nat} {d : DataW H} {p : List MemPlace}
    (h : DataW.Trod enc Try.prog W 0 sp true 24 (.slice a0 len cap) d p) :
    ∃ ls : List Sh, ls.length = len ∧ RowG 2 cSh W a0 ls ∧ len ≤ cap := by
  obtain ⟨fuel, hf⟩ := h
  rcases open_slice Try.underlying24 hf with ⟨h0, _⟩ | ⟨a, len', cap', m, n, D, Pl, hv, hb, hl, hm, hmm, hx, hel⟩
  · simp [Value.cells] at h0
    obtain ⟨rfl, rfl, rfl⟩ := h0
    exact ⟨[], rfl, RowG.nil _ _, Nat.le_refl _⟩
  · simp [Value.cells] at hv
    obtain ⟨rfl, rfl, rfl⟩ := hv
    have hlm : len ≤ m := by rw [hmm]; split <;> omega
    have each : ∀ i, i < len → ∃ x : Sh, ∀ j u, (cSh x)[j]? = some u → W.cell? (a.add (i * 2 + j)) = some u := by
      intro i hi
      obtain ⟨cs', h1, h2⟩ := hel i (by omega)
      rw [cellsShare12] at h1
      obtain ⟨_, hlen, hcell⟩ := World.cells?_some h1
      obtain ⟨y0, y1, k, hxy, _, u0, u1⟩ := trod_struct2 Try.underlying41 h2
      match cs', hlen with
      | [v0, v1], _ =>
        simp only [cellsStr12, cellsI6412, List.drop, List.take] at u0 u1
        obtain ⟨s0, e0, d0, _⟩ := DataW.trod_string Try.underlying9 u0
        obtain ⟨n1, e1, d1, hwf⟩ := DataW.trod_int Try.underlying2 u1
        simp only [List.cons.injEq, and_true] at e0 e1
        subst e0 e1
        refine ⟨(s0.data.toList, n1), fun j u hu => ?_⟩
        have hj : j < 2 := (List.getElem?_eq_some_iff.1 hu).1
        have hc := hcell j hj
        rw [add_add] at hc
        rw [hc]
        match j, hj with
        | 0, _ =>
          have hu' : Value.string (st s0.data.toList) = u := by simpa [cSh] using hu
          rw [← hu', ← of_data]; rfl
        | 1, _ =>
          have hu' : Value.int .i64 n1 = u := by simpa [cSh] using hu
          rw [← hu']; rfl
    obtain ⟨q, hq⟩ := choose_lt12 each
    refine ⟨(List.range len).map q, by simp, fun hp => ?_, hl⟩
    have hp' : 0 < len := by simpa using hp
    have hc0 := hq 0 hp' 0 _ rfl
    have hspot : a.spot = none := by simpa [Addr.add] using World.cell?_spot hc0
    obtain ⟨b, off, spot⟩ := a
    simp only at hspot
    subst hspot
    refine ⟨b, off, rfl, fun i x hi j u hu => ?_⟩
    obtain ⟨hlt, he⟩ := List.getElem?_eq_some_iff.1 hi
    have hlt' : i < len := by simpa using hlt
    have he' : q i = x := by simpa using he
    have c0 := hq i hlt' j u (by rw [he']; exact hu)
    have ea : ∀ k : Nat, (⟨b, off, none⟩ : Addr).add k = ⟨b, off + k, none⟩ := by
      intro k
      unfold Addr.add
      by_cases e0 : k = 0
      · subst e0; rfl
      · simp [e0]
    rw [ea, ← Nat.add_assoc] at c0
    exact c0
end Go.Proofs.Ythhcbpimkaahnaa
