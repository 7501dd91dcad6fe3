/-
  What comes into layer 6, opened: texts; two lists of texts; failures.
-/
import Derived.Test.YtbpklikmldpeiaaMA01
import Derived.Test.YtbpklikmldpeiaaDkKMA
import Derived.Test.YtbpklikmldpeiaaMA02
import Derived.SliceStrings
import Derived.Deep.Slices
import Derived.SizedLaws
import Derived.ChangeSame
import Derived.ChangeSlices
import Derived.WalkKit
import Derived.ProofKit
import Derived.OpenShut
import Derived.ShutString
import Derived.ChangeOld
namespace Go.Proofs.Ytbpklikmldpeiaa
open Go.RowKit Go.Deep Go.ChangeShapes Go.WideShapes

theorem cellsTexts6 : Try.prog.cellsOf 22 = 1 := by kernel_rfl
theorem cellsTwo6 : Try.prog.cellsOf 48 = 2 := by kernel_rfl
theorem cellsFail6 : Try.prog.cellsOf 52 = 2 := by kernel_rfl

set_option maxRecDepth 100000 in
theorem open_row6 {H : Type} {enc : TypeId × Value → H} {W : World} {sp : Nat → Bool} {fuel : Nat} {v : Value} {y : DataW H × List MemPlace}
    (h : DataW.trod enc Try.prog W 0 sp true fuel 22 [v] = some y) (hw : ∀ n ∈ y.1.weights Try.prog 22, n ≤ reachBytes) :
    ∃ (a : Option Addr) (c : Nat) (ls : List (List UInt8)), v = .slice a ls.length c ∧ RowS W a ls ∧ (∀ s ∈ ls, s.length ≤ 281474976710656) ∧ ls.length ≤ 9223372036854775807 := by
  have hrb : reachBytes < 140737488355328 := reachBytes_lt
  rcases open_strings Try.underlying22 Try.underlying9 cellsStrx h with ⟨hcs, _⟩ | ⟨a, len, cap, ss, hcs, _, hl, hm, hz, hx, hcell, hsz⟩
  · simp only [List.cons.injEq, and_true] at hcs
    exact ⟨none, 0, [], hcs, fun h => by simp at h, by simp, by simp⟩
  · simp only [List.cons.injEq, and_true] at hcs
    have hlen : len ≤ ss.length := by rw [hz]; split <;> omega
    have hkl : ((ss.take len).map (·.data.toList)).length = len := by simp; omega
    refine ⟨some a, cap, (ss.take len).map (·.data.toList), by rw [hcs, hkl], fun hp => ?_, ?_, by rw [hkl]; unfold maxLen at hm; omega⟩
    · have hp' : 0 < len := by rw [hkl] at hp; exact hp
      have hc0 := hcell 0 (by omega)
      have hspot : a.spot = none := by simpa [Addr.add] using World.cell?_spot hc0
      obtain ⟨b, off, spot⟩ := a
      simp only at hspot
      subst hspot
      refine ⟨b, off, rfl, fun i x hi => ?_⟩
      have hlt := (List.getElem?_eq_some_iff.1 hi).1
      have hlt' : i < len := by rw [hkl] at hlt; exact hlt
      have hc := hcell i (by omega)
      rw [List.getElem?_map, List.getElem?_take_of_lt hlt'] at hi
      obtain ⟨s, hs, hx⟩ := Option.map_eq_some_iff.1 hi
      have e1 : ss.getD i ByteArray.empty = s := by rw [List.getD_eq_getElem?_getD, hs]; rfl
      rw [e1] at hc
      rw [← hx, ← of_data, ← hc]
      unfold Addr.add
      by_cases e0 : i = 0
      · subst e0; rfl
      · simp [e0]
    · intro s hs
      obtain ⟨x, hx0, rfl⟩ := List.mem_map.1 hs
      have hd : (DataW.lit (H := H) (.string x.data.toList)) ∈ strs (H := H) (ss.take len) := List.mem_map.2 ⟨x, hx0, rfl⟩
      have := hw x.data.toList.length (by
        rw [hx, DataW.weights, Try.underlying22]
        refine List.mem_cons_of_mem _ (List.mem_append_left _ (weightsAll_mem5 hd _ ?_))
        simp [DataW.weights])
      omega

theorem open_texts6 {H : Type} {enc : TypeId × Value → H} {W : World} {sp : Nat → Bool} {a0 : Option Addr} {len cap : Nat} {d : DataW H} {p : List MemPlace}
    (h : DataW.Trod enc Try.prog W 0 sp true 22 (.slice a0 len cap) d p) (hw : ∀ n ∈ d.weights Try.prog 22, n ≤ reachBytes) :
    ∃ ls : List (List UInt8), ls.length = len ∧ RowS W a0 ls ∧ (∀ s ∈ ls, s.length ≤ 281474976710656) ∧ ls.length ≤ 9223372036854775807 := by
  obtain ⟨fuel, hf⟩ := h
  obtain ⟨a, c, ls, he, hr, hs, hl⟩ := open_row6 (y := (d, p)) (v := .slice a0 len cap) hf hw
  simp only [Value.slice.injEq] at he
  obtain ⟨rfl, rfl, rfl⟩ := he
  exact ⟨ls, rfl, hr, hs, hl⟩

theorem list2_6 (l : List Value) (h : l.toArray.size = 2) : ∃ a b, l = [a, b] := by
  match l, h with
  | [a, b], _ => exact ⟨a, b, rfl⟩

set_option maxRecDepth 100000 in
theorem open_pair6 {H : Type} {enc : TypeId × Value → H} {W : World} {sp : Nat → Bool} {v : Value} {d : DataW H} {p : List MemPlace} {base : Nat}
    (hv : Value.okWide Try.prog W .any base 48 v) (h : DataW.Trod enc Try.prog W 0 sp true 48 v d p) (hw : ∀ n ∈ d.weights Try.prog 48, n ≤ reachBytes) :
    ∃ (a1 a2 : Option Addr) (c1 c2 : Nat) (l1 l2 : List (List UInt8)), v = .agg #[.slice a1 l1.length c1, .slice a2 l2.length c2] ∧ RowS W a1 l1 ∧ RowS W a2 l2 ∧ (∀ s ∈ l1, s.length ≤ 281474976710656) ∧ (∀ s ∈ l2, s.length ≤ 281474976710656) ∧ l1.length ≤ 9223372036854775807 ∧ l2.length ≤ 9223372036854775807 := by
  obtain ⟨cs, rfl, hsz, _⟩ : ∃ cs, v = .agg cs ∧ cs.size = Try.prog.cellsOf 48 ∧ Row.okWide Try.prog W .any base 48 cs := by
    simpa [Value.okWide, Try.underlying48] using hv
  rw [cellsTwo6] at hsz
  obtain ⟨l⟩ := cs
  obtain ⟨c0, c1, rfl⟩ := list2_6 l hsz
  obtain ⟨fuel, hf⟩ := h
  obtain ⟨xs, m, _, hx, _, hl, hel⟩ := DataW.trod_array Try.underlying48 hf
  match xs, hl with
  | [x0, x1], _ =>
    have e0 := hel 0 (by omega)
    have e1 := hel 1 (by omega)
    rw [cellsTexts6] at e0 e1
    have hd : d = .agg [x0.1, x1.1] := congrArg Prod.fst hx
    have hall : ∀ y ∈ [x0.1, x1.1], ∀ n ∈ y.weights Try.prog 22, n ≤ reachBytes := fun y hy n hn => by
      refine hw n ?_
      rw [hd, DataW.weights, Try.underlying48]
      exact weightsAll_mem5 hy n hn
    obtain ⟨a1, k1, l1, f0, r1, s1, z1⟩ := open_row6 (v := c0) (y := x0) e0 (hall _ (by simp))
    obtain ⟨a2, k2, l2, f1, r2, s2, z2⟩ := open_row6 (v := c1) (y := x1) e1 (hall _ (by simp))
    subst f0 f1
    exact ⟨a1, a2, k1, k2, l1, l2, rfl, r1, r2, s1, s2, z1, z2⟩

instance : Inhabited Fl6 := ⟨⟨0, none, 0, []⟩⟩

set_option maxRecDepth 100000 in
theorem open_fails6 {H : Type} {enc : TypeId × Value → H} {W : World} {sp : Nat → Bool} {a0 : Option Addr} {len cap : Nat} {d : DataW H} {p : List MemPlace}
    (h : DataW.Trod enc Try.prog W 0 sp true 49 (.slice a0 len cap) d p) (hw : ∀ n ∈ d.weights Try.prog 49, n ≤ reachBytes) :
    ∃ ls : List Fl6, ls.length = len ∧ RowF W a0 ls ∧ (∀ x ∈ ls, FlOk W x) ∧ len ≤ 9223372036854775807 := by
  have hrb : reachBytes < 140737488355328 := reachBytes_lt
  obtain ⟨fuel, hf⟩ := h
  rcases open_slice Try.underlying49 hf with ⟨h0, _⟩ | ⟨a, len', cap', m, n, D, Pl, hv, hb, hl, hm, hmm, hx, hel⟩
  · simp [Value.cells] at h0
    obtain ⟨rfl, rfl, rfl⟩ := h0
    exact ⟨[], rfl, fun h => by simp at h, by simp, by simp⟩
  · simp [Value.cells] at hv
    obtain ⟨rfl, rfl, rfl⟩ := hv
    have hlm : len ≤ m := by rw [hmm]; split <;> omega
    have hd : d = .slice ((List.range len).map D) ((List.range (m - len)).map fun j => D (len + j)) := congrArg Prod.fst hx
    have each : ∀ i, i < len → ∃ q : Fl6, (∀ j u, (cF q)[j]? = some u → W.cell? (a.add (i * 2 + j)) = some u) ∧ FlOk W q := by
      intro i hi
      obtain ⟨cs', h1, h2⟩ := hel i (by omega)
      rw [cellsFail6] at h1
      obtain ⟨_, hlen, hcell⟩ := World.cells?_some h1
      obtain ⟨y0, y1, k, hxy, _, u0, u1⟩ := trod_struct2 Try.underlying52 h2
      match cs', hlen with
      | [v0, v1], _ =>
        simp only [cellsU8x, cellsBytesx, List.drop, List.take] at u0 u1
        obtain ⟨s0, e0, d0, hwf0⟩ := DataW.trod_int Try.underlying5 u0
        simp only [List.cons.injEq, and_true] at e0
        subst e0
        have hDi : D i ∈ (List.range len).map D := List.mem_map.2 ⟨i, List.mem_range.2 hi, rfl⟩
        have hDe : D i = .agg [y0.1, y1.1] := congrArg Prod.fst hxy
        have hall : ∀ n ∈ (D i).weights Try.prog 52, n ≤ reachBytes := fun n hn => by
          refine hw _ ?_
          rw [hd, DataW.weights, Try.underlying49]
          exact List.mem_cons_of_mem _ (List.mem_append_left _ (weightsAll_mem5 hDi _ hn))
        have hpart : ∀ n ∈ y1.1.weights Try.prog 50, n ≤ reachBytes := fun n hn => by
          refine hall n ?_
          rw [hDe, DataW.weights, Try.underlying52]
          exact DataW.weights_mem_each (j := 1) rfl rfl _ hn
        obtain ⟨ka, kc, keep, e4, hrow, hkl, _⟩ := open_keep u1 hpart
        subst e4
        obtain ⟨kd, rfl, hkd⟩ : ∃ kd : Nat, s0 = (kd : Int) ∧ kd ≤ 255 := by
          simp [Lit.wf, IntKind.min, IntKind.max, IntKind.signed, IntKind.bits] at hwf0
          exact ⟨s0.toNat, by omega, by omega⟩
        refine ⟨⟨kd, ka, kc, keep⟩, fun j u hu => ?_, hkd, by show keep.length ≤ _; omega, hrow⟩
        have hj : j < 2 := (Array.getElem?_eq_some_iff.1 hu).1
        have hcj := hcell j hj
        rw [add_add] at hcj
        rw [hcj, ← hu]
        match j, hj with
        | 0, _ => rfl
        | 1, _ => rfl
    obtain ⟨q, hq⟩ := choose_lt each
    refine ⟨(List.range len).map q, by simp, fun hp => ?_, ?_, by unfold maxLen at hm; omega⟩
    · have hp' : 0 < len := by simpa using hp
      have hc0 := (hq 0 hp').1 0 _ rfl
      have hspot : a.spot = none := by simpa [Addr.add] using World.cell?_spot hc0
      obtain ⟨b, off, spot⟩ := a
      simp only at hspot
      subst hspot
      refine ⟨b, off, rfl, fun i x hi j u hu => ?_⟩
      obtain ⟨hlt, he⟩ := List.getElem?_eq_some_iff.1 hi
      have hlt' : i < len := by simpa using hlt
      have he' : q i = x := by simpa using he
      have c0 := (hq i hlt').1 j u (by rw [he']; exact hu)
      have ea : ∀ k : Nat, (⟨b, off, none⟩ : Addr).add k = ⟨b, off + k, none⟩ := by
        intro k
        unfold Addr.add
        by_cases e0 : k = 0
        · subst e0; rfl
        · simp [e0]
      rw [ea, ← Nat.add_assoc] at c0
      exact c0
    · intro x hx
      obtain ⟨i, hi, rfl⟩ := List.mem_map.1 hx
      exact (hq i (List.mem_range.1 hi)).2
end Go.Proofs.Ytbpklikmldpeiaa
