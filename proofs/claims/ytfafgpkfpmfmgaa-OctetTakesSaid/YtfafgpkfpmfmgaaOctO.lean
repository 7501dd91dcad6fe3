/-
  A list of items that came in, opened.
-/
import Derived.Test.YtfafgpkfpmfmgaaOctE
import Derived.Deep.Slices
import Derived.SizedLaws
import Derived.ChangeSame
namespace Go.Proofs.Ytfafgpkfpmfmgaa
open Go.RowKit Go.Deep Go.ChangeShapes Go.WideShapes

theorem trod_three {H : Type} {enc : TypeId × Value → H} {P : Program} {w : World} {base : Nat} {spare : Nat → Bool} {held : Bool} {e : TypeId} {f0 f1 f2 : Field} {fuel : Nat} {cs : List Value} {x : DataW H × List MemPlace} (he : P.underlying e = some (.struct #[f0, f1, f2]))
    (h : DataW.trod enc P w base spare held fuel e cs = some x) :
    ∃ (y0 y1 y2 : DataW H × List MemPlace) (n : Nat), x.1 = .agg [y0.1, y1.1, y2.1] ∧
      DataW.trod enc P w base spare held n f0.type ((cs.drop f0.offset).take (P.cellsOf f0.type)) = some y0 ∧
      DataW.trod enc P w base spare held n f1.type ((cs.drop f1.offset).take (P.cellsOf f1.type)) = some y1 ∧
      DataW.trod enc P w base spare held n f2.type ((cs.drop f2.offset).take (P.cellsOf f2.type)) = some y2 := by
  obtain ⟨xs, n, _, hx, _, hxl, hf⟩ := DataW.trod_struct he h
  match xs, hxl with
  | [y0, y1, y2], _ =>
    exact ⟨y0, y1, y2, n, by rw [hx]; rfl, hf 0 f0 rfl, hf 1 f1 rfl, hf 2 f2 rfl⟩

theorem weightsAll_mem {H : Type} {P : Program} {e : TypeId} : ∀ {l : List (DataW H)} {d : DataW H}, d ∈ l → ∀ n ∈ d.weights P e, n ∈ DataW.weightsAll P e l
  | d0 :: r, d, hd, n, hn => by
    simp only [DataW.weightsAll, List.mem_append]
    rcases List.mem_cons.1 hd with rfl | hd
    · exact .inl hn
    · exact .inr (weightsAll_mem hd n hn)

instance : Inhabited Itm := ⟨⟨false, 0, []⟩⟩

theorem cellsItem : Try.prog.cellsOf 30 = 3 := by kernel_rfl
theorem cellsBool : Try.prog.cellsOf 4 = 1 := by kernel_rfl
theorem cellsI64 : Try.prog.cellsOf 2 = 1 := by kernel_rfl
theorem cellsStr : Try.prog.cellsOf 9 = 1 := by kernel_rfl

theorem open_items {H : Type} {enc : TypeId × Value → H} {W : World} {sp : Nat → Bool} {a0 : Option Addr} {len cap : Nat} {d : DataW H} {p : List MemPlace}
    (h : DataW.Trod enc Try.prog W 0 sp true 22 (.slice a0 len cap) d p) (hw : ∀ n ∈ d.weights Try.prog 22, n ≤ reachBytes) :
    ∃ ls : List Itm, ls.length = len ∧ RowT W a0 ls ∧ (∀ x ∈ ls, x.s.length ≤ 281474976710656) ∧ (∀ x ∈ ls, (Lit.int .i64 x.n).wf = true) ∧ len ≤ maxLen := by
  obtain ⟨fuel, hf⟩ := h
  rcases open_slice Try.underlying22 hf with ⟨h0, _⟩ | ⟨a, len', cap', m, n, D, Pl, hv, hb, hl, hm, hmm, hx, hel⟩
  · simp [Value.cells] at h0
    obtain ⟨rfl, rfl, rfl⟩ := h0
    exact ⟨[], rfl, fun h => by simp at h, by simp, by simp, by simp⟩
  · simp [Value.cells] at hv
    obtain ⟨rfl, rfl, rfl⟩ := hv
    have hlm : len ≤ m := by rw [hmm]; split <;> omega
    have hd : d = .slice ((List.range len).map D) ((List.range (m - len)).map fun j => D (len + j)) := congrArg Prod.fst hx
    have each : ∀ i, i < len → ∃ q : Itm, W.cell? (a.add (i * 3)) = some (.bool q.t) ∧ W.cell? (a.add (i * 3 + 1)) = some (.int .i64 q.n) ∧ W.cell? (a.add (i * 3 + 2)) = some (.string (st q.s)) ∧ q.s.length ≤ 281474976710656 ∧ (Lit.int .i64 q.n).wf = true := by
      intro i hi
      obtain ⟨cs', h1, h2⟩ := hel i (by omega)
      rw [cellsItem] at h1
      obtain ⟨_, hlen, hcell⟩ := World.cells?_some h1
      obtain ⟨y0, y1, y2, k, hxy, u0, u1, u2⟩ := trod_three Try.underlying30 h2
      match cs', hlen with
      | [v0, v1, v2], _ =>
        simp only [cellsBool, cellsI64, cellsStr, List.drop, List.take] at u0 u1 u2
        obtain ⟨s0, e0, d0⟩ := DataW.trod_bool Try.underlying4 u0
        obtain ⟨s1, e1, d1, hwf⟩ := DataW.trod_int Try.underlying2 u1
        obtain ⟨s2, e2, d2, _⟩ := DataW.trod_string Try.underlying9 u2
        simp only [List.cons.injEq, and_true] at e0 e1 e2
        subst e0; subst e1; subst e2
        have c0 := hcell 0 (by omega)
        have c1 := hcell 1 (by omega)
        have c2 := hcell 2 (by omega)
        rw [add_add] at c0 c1 c2
        refine ⟨⟨s0, s1, s2.data.toList⟩, by simpa using c0, by simpa using c1, by rw [← of_data]; simpa using c2, ?_, hwf⟩
        have hDi : D i ∈ (List.range len).map D := List.mem_map.2 ⟨i, List.mem_range.2 hi, rfl⟩
        have hbl : s2.data.toList.length ≤ reachBytes := by
          refine hw _ ?_
          rw [hd, DataW.weights, Try.underlying22]
          refine List.mem_cons_of_mem _ (List.mem_append_left _ (weightsAll_mem hDi _ ?_))
          rw [show D i = .agg [y0.1, y1.1, y2.1] from hxy, DataW.weights, Try.underlying30]
          refine DataW.weights_mem_each (j := 2) rfl rfl _ ?_
          rw [d2]
          simp [DataW.weights]
        have := reachBytes_lt
        show s2.data.toList.length ≤ _
        omega
    obtain ⟨q, hq⟩ := choose_lt each
    refine ⟨(List.range len).map q, by simp, fun hp => ?_, ?_, ?_, by omega⟩
    · have hp' : 0 < len := by simpa using hp
      have hc0 := (hq 0 hp').1
      have hspot : a.spot = none := by simpa [Addr.add] using World.cell?_spot hc0
      obtain ⟨b, off, spot⟩ := a
      simp only at hspot
      subst hspot
      refine ⟨b, off, rfl, fun i x hi => ?_⟩
      obtain ⟨hlt, he⟩ := List.getElem?_eq_some_iff.1 hi
      have hlt' : i < len := by simpa using hlt
      have he' : q i = x := by simpa using he
      obtain ⟨c0, c1, c2, _, _⟩ := hq i hlt'
      rw [he'] at c0 c1 c2
      have ea : ∀ k : Nat, (⟨b, off, none⟩ : Addr).add k = ⟨b, off + k, none⟩ := by
        intro k
        unfold Addr.add
        by_cases e0 : k = 0
        · subst e0; rfl
        · simp [e0]
      rw [ea] at c0 c1 c2
      exact ⟨c0, by rw [← Nat.add_assoc] at c1; exact c1, by rw [← Nat.add_assoc] at c2; exact c2⟩
    · intro x hx
      obtain ⟨i, hi, rfl⟩ := List.mem_map.1 hx
      exact (hq i (List.mem_range.1 hi)).2.2.2.1
    · intro x hx
      obtain ⟨i, hi, rfl⟩ := List.mem_map.1 hx
      exact (hq i (List.mem_range.1 hi)).2.2.2.2
end Go.Proofs.Ytfafgpkfpmfmgaa
