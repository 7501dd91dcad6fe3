/-
  A list of acts that came in, opened.
-/
import Derived.Test.YthckcbnendjmpaaDkActs
import Derived.Deep.Slices
import Derived.SizedLaws
import Derived.ChangeSame
import Derived.ChangeSlices
import Derived.ProofKit
namespace Go.Proofs.Ythckcbnendjmpaa
open Go.RowKit Go.Deep Go.ChangeShapes Go.WideShapes

theorem trod_five {H : Type} {enc : TypeId × Value → H} {P : Program} {w : World} {base : Nat} {spare : Nat → Bool} {held : Bool} {e : TypeId} {f0 f1 f2 f3 f4 : Field} {fuel : Nat} {cs : List Value} {x : DataW H × List MemPlace} (he : P.underlying e = some (.struct #[f0, f1, f2, f3, f4]))
    (h : DataW.trod enc P w base spare held fuel e cs = some x) :
    ∃ (y0 y1 y2 y3 y4 : DataW H × List MemPlace) (n : Nat), x.1 = .agg [y0.1, y1.1, y2.1, y3.1, y4.1] ∧
      DataW.trod enc P w base spare held n f0.type ((cs.drop f0.offset).take (P.cellsOf f0.type)) = some y0 ∧
      DataW.trod enc P w base spare held n f1.type ((cs.drop f1.offset).take (P.cellsOf f1.type)) = some y1 ∧
      DataW.trod enc P w base spare held n f2.type ((cs.drop f2.offset).take (P.cellsOf f2.type)) = some y2 ∧
      DataW.trod enc P w base spare held n f3.type ((cs.drop f3.offset).take (P.cellsOf f3.type)) = some y3 ∧
      DataW.trod enc P w base spare held n f4.type ((cs.drop f4.offset).take (P.cellsOf f4.type)) = some y4 := by
  obtain ⟨xs, n, _, hx, _, hxl, hf⟩ := DataW.trod_struct he h
  match xs, hxl with
  | [y0, y1, y2, y3, y4], _ =>
    exact ⟨y0, y1, y2, y3, y4, n, by rw [hx]; rfl, hf 0 f0 rfl, hf 1 f1 rfl, hf 2 f2 rfl, hf 3 f3 rfl, hf 4 f4 rfl⟩

theorem weightsAll_mem5 {H : Type} {P : Program} {e : TypeId} : ∀ {l : List (DataW H)} {d : DataW H}, d ∈ l → ∀ n ∈ d.weights P e, n ∈ DataW.weightsAll P e l
  | d0 :: r, d, hd, n, hn => by
    simp only [DataW.weightsAll, List.mem_append]
    rcases List.mem_cons.1 hd with rfl | hd
    · exact .inl hn
    · exact .inr (weightsAll_mem5 hd n hn)

instance : Inhabited Act5 := ⟨⟨0, 0, 0, [], none, 0, []⟩⟩

theorem cellsAct : Try.prog.cellsOf 32 = 5 := by kernel_rfl
theorem cellsU8x : Try.prog.cellsOf 5 = 1 := by kernel_rfl
theorem cellsI8x : Try.prog.cellsOf 29 = 1 := by kernel_rfl
theorem cellsStrx : Try.prog.cellsOf 9 = 1 := by kernel_rfl
theorem cellsBytesx : Try.prog.cellsOf 30 = 1 := by kernel_rfl
theorem bytesAct : Try.prog.bytesOf 32 = 48 := by kernel_rfl
theorem bytesU8x : Try.prog.bytesOf 5 = 1 := by kernel_rfl

/-- a row of bytes that came in, as numbers -/
theorem open_keep {H : Type} {enc : TypeId × Value → H} {W : World} {sp : Nat → Bool} {fuel : Nat} {v : Value} {y : DataW H × List MemPlace}
    (h : DataW.trod enc Try.prog W 0 sp true fuel 30 [v] = some y) (hw : ∀ n ∈ y.1.weights Try.prog 30, n ≤ reachBytes) :
    ∃ (ka : Option Addr) (kc : Nat) (keep : List Nat), v = .slice ka keep.length kc ∧ RowN W ka keep ∧ keep.length ≤ reachBytes ∧ keep.length ≤ kc := by
  rcases open_ints Try.underlying30 Try.underlying5 cellsU8x h with ⟨h1, _⟩ | ⟨a, len, cap, zs, h1, hb, hl, hm, hz, hx, hcell, hwf⟩
  · simp only [List.cons.injEq, and_true] at h1
    exact ⟨none, 0, [], h1, fun h => by simp at h, by simp, by simp⟩
  · simp only [List.cons.injEq, and_true] at h1
    have hlz : len ≤ zs.length := by rw [hz]; split <;> omega
    have hkl : ((zs.take len).map Int.toNat).length = len := by simp; omega
    refine ⟨some a, cap, (zs.take len).map Int.toNat, by rw [h1, hkl], fun h0 => ?_, ?_, by rw [hkl]; exact hl⟩
    · rw [hkl] at h0
      have hc0 := hcell 0 (by omega)
      have hspot : a.spot = none := by simpa [Addr.add] using World.cell?_spot hc0
      obtain ⟨b, off, spot⟩ := a
      simp only at hspot
      subst hspot
      refine ⟨b, off, rfl, fun i x hi => ?_⟩
      have hlt := (List.getElem?_eq_some_iff.1 hi).1
      rw [hkl] at hlt
      have hc := hcell i (by omega)
      rw [List.getElem?_map, List.getElem?_take_of_lt hlt] at hi
      obtain ⟨z, hzi, hzx⟩ := Option.map_eq_some_iff.1 hi
      have hgd : zs.getD i 0 = z := by rw [List.getD_eq_getElem?_getD, hzi]; rfl
      rw [hgd] at hc
      have hwz := hwf z (List.mem_of_getElem? hzi)
      simp [Lit.wf, IntKind.min, IntKind.max, IntKind.signed, IntKind.bits] at hwz
      have hzz : (x : Int) = z := by omega
      refine ⟨by omega, ?_⟩
      rw [hzz, ← hc]
      unfold Addr.add
      by_cases e0 : i = 0
      · subst e0; rfl
      · simp [e0]
    · rw [hkl]
      have h2 := hw ((len + (zs.length - len)) * 1) (by
        rw [hx, DataW.weights, Try.underlying30]
        simp only [bytesU8x]
        refine List.mem_cons.2 (.inl ?_)
        simp [lits]
        omega)
      omega

theorem open_acts {H : Type} {enc : TypeId × Value → H} {W : World} {sp : Nat → Bool} {a0 : Option Addr} {len cap : Nat} {d : DataW H} {p : List MemPlace}
    (h : DataW.Trod enc Try.prog W 0 sp true 22 (.slice a0 len cap) d p) (hw : ∀ n ∈ d.weights Try.prog 22, n ≤ reachBytes) :
    ∃ ls : List Act5, ls.length = len ∧ RowA W a0 ls ∧ (∀ x ∈ ls, ActOk W x) ∧ len * 48 ≤ reachBytes := by
  have hrb : reachBytes < 140737488355328 := reachBytes_lt
  obtain ⟨fuel, hf⟩ := h
  rcases open_slice Try.underlying22 hf with ⟨h0, _⟩ | ⟨a, len', cap', m, n, D, Pl, hv, hb, hl, hm, hmm, hx, hel⟩
  · simp [Value.cells] at h0
    obtain ⟨rfl, rfl, rfl⟩ := h0
    exact ⟨[], rfl, fun h => by simp at h, by simp, by simp⟩
  · simp [Value.cells] at hv
    obtain ⟨rfl, rfl, rfl⟩ := hv
    have hlm : len ≤ m := by rw [hmm]; split <;> omega
    have hd : d = .slice ((List.range len).map D) ((List.range (m - len)).map fun j => D (len + j)) := congrArg Prod.fst hx
    have each : ∀ i, i < len → ∃ q : Act5, (∀ j u, (cA q)[j]? = some u → W.cell? (a.add (i * 5 + j)) = some u) ∧ ActOk W q := by
      intro i hi
      obtain ⟨cs', h1, h2⟩ := hel i (by omega)
      rw [cellsAct] at h1
      obtain ⟨_, hlen, hcell⟩ := World.cells?_some h1
      obtain ⟨y0, y1, y2, y3, y4, k, hxy, u0, u1, u2, u3, u4⟩ := trod_five Try.underlying32 h2
      match cs', hlen with
      | [v0, v1, v2, v3, v4], _ =>
        simp only [cellsU8x, cellsI8x, cellsStrx, cellsBytesx, List.drop, List.take] at u0 u1 u2 u3 u4
        obtain ⟨s0, e0, d0, hwf0⟩ := DataW.trod_int Try.underlying5 u0
        obtain ⟨s1, e1, d1, hwf1⟩ := DataW.trod_int Try.underlying29 u1
        obtain ⟨s2, e2, d2, hwf2⟩ := DataW.trod_int Try.underlying29 u2
        obtain ⟨s3, e3, d3, _⟩ := DataW.trod_string Try.underlying9 u3
        simp only [List.cons.injEq, and_true] at e0 e1 e2 e3
        subst e0; subst e1; subst e2; subst e3
        have hDi : D i ∈ (List.range len).map D := List.mem_map.2 ⟨i, List.mem_range.2 hi, rfl⟩
        have hall : ∀ n ∈ (D i).weights Try.prog 32, n ≤ reachBytes := fun n hn => by
          refine hw _ ?_
          rw [hd, DataW.weights, Try.underlying22]
          exact List.mem_cons_of_mem _ (List.mem_append_left _ (weightsAll_mem5 hDi _ hn))
        have hpart : ∀ j (t : TypeId) (dj : DataW H), ([5, 29, 29, 9, 30] : List TypeId)[j]? = some t → [y0.1, y1.1, y2.1, y3.1, y4.1][j]? = some dj → ∀ n ∈ dj.weights Try.prog t, n ≤ reachBytes := fun j t dj ht hdj n hn => by
          refine hall n ?_
          rw [show D i = .agg [y0.1, y1.1, y2.1, y3.1, y4.1] from hxy, DataW.weights, Try.underlying32]
          exact DataW.weights_mem_each (j := j) ht hdj _ hn
        obtain ⟨ka, kc, keep, e4, hrow, hkl, _⟩ := open_keep u4 (hpart 4 30 y4.1 rfl rfl)
        subst e4
        obtain ⟨kd, rfl, hkd⟩ : ∃ kd : Nat, s0 = (kd : Int) ∧ kd ≤ 255 := by
          simp [Lit.wf, IntKind.min, IntKind.max, IntKind.signed, IntKind.bits] at hwf0
          exact ⟨s0.toNat, by omega, by omega⟩
        have hdl : s3.data.toList.length ≤ reachBytes := hpart 3 9 y3.1 rfl rfl _ (by rw [d3]; simp [DataW.weights])
        refine ⟨⟨kd, s1, s2, s3.data.toList, ka, kc, keep⟩, fun j u hu => ?_, hkd, bounds_i8 hwf1, bounds_i8 hwf2, by show s3.data.toList.length ≤ _; omega, by show keep.length ≤ _; omega, hrow⟩
        have hj : j < 5 := (Array.getElem?_eq_some_iff.1 hu).1
        have hcj := hcell j hj
        rw [add_add] at hcj
        rw [hcj, ← hu]
        match j, hj with
        | 0, _ => rfl
        | 1, _ => rfl
        | 2, _ => rfl
        | 3, _ => show some (Value.string s3) = some (Value.string (st s3.data.toList)); rw [← of_data]
        | 4, _ => rfl
    obtain ⟨q, hq⟩ := choose_lt each
    refine ⟨(List.range len).map q, by simp, fun hp => ?_, ?_, ?_⟩
    · have hp' : 0 < len := by simpa using hp
      have hc0 := (hq 0 hp').1 0 _ rfl
      have hspot : a.spot = none := by simpa [Addr.add] using World.cell?_spot hc0
      obtain ⟨b, off, spot⟩ := a
      simp only at hspot
      subst hspot
      refine ⟨b, off, rfl, fun i x hi j u hu => ?_⟩
      obtain ⟨hlt, he⟩ := List.getElem?_eq_some_iff.1 hi
      have hlt' : i < len := by simpa using hlt
      have he' : q i = x := by simpa using he
      have c0 := (hq i hlt').1 j u (by rw [he']; exact hu)
      have ea : ∀ k : Nat, (⟨b, off, none⟩ : Addr).add k = ⟨b, off + k, none⟩ := by
        intro k
        unfold Addr.add
        by_cases e0 : k = 0
        · subst e0; rfl
        · simp [e0]
      rw [ea, ← Nat.add_assoc] at c0
      exact c0
    · intro x hx
      obtain ⟨i, hi, rfl⟩ := List.mem_map.1 hx
      exact (hq i (List.mem_range.1 hi)).2
    · have h2 := hw ((len + (m - len)) * 48) (by
        rw [hd, DataW.weights, Try.underlying22]
        simp only [bytesAct]
        refine List.mem_cons.2 (.inl ?_)
        simp)
      omega
end Go.Proofs.Ythckcbnendjmpaa
