/-
  What comes into AttemptSteps, opened: a payout, two numbers.
-/
import Derived.Test.YtdahgmkbpiklpaaAtP
import Derived.Deep.Slices
import Derived.Deep.Strs
import Derived.SizedLaws
import Derived.ChangeSame
import Derived.Lib.SmallJoins
namespace Go.Proofs.Ytdahgmkbpiklpaa
open Go.RowKit Go.Deep Go.ChangeShapes Go.WideShapes

theorem cellsPy17 : Try.prog.cellsOf 23 = 8 := by kernel_rfl
theorem cellsStr17 : Try.prog.cellsOf 9 = 1 := by kernel_rfl
theorem cellsI6417 : Try.prog.cellsOf 2 = 1 := by kernel_rfl
theorem cellsA17 : Try.prog.cellsOf 24 = 2 := by kernel_rfl

section
variable {H : Type} {enc : TypeId × Value → H} {P : Program} {w : World} {base : Nat} {spare : Nat → Bool} {held : Bool}
theorem trod_struct8 {t : TypeId} {f0 f1 f2 f3 f4 f5 f6 f7 : Field} {fuel : Nat} {cs : List Value} {x : DataW H × List MemPlace} (ht : P.underlying t = some (.struct #[f0, f1, f2, f3, f4, f5, f6, f7])) (h : DataW.trod enc P w base spare held fuel t cs = some x) :
    ∃ y0 y1 y2 y3 y4 y5 y6 y7 n, DataW.trod enc P w base spare held n f0.type ((cs.drop f0.offset).take (P.cellsOf f0.type)) = some y0 ∧
      DataW.trod enc P w base spare held n f1.type ((cs.drop f1.offset).take (P.cellsOf f1.type)) = some y1 ∧ DataW.trod enc P w base spare held n f2.type ((cs.drop f2.offset).take (P.cellsOf f2.type)) = some y2 ∧
      DataW.trod enc P w base spare held n f3.type ((cs.drop f3.offset).take (P.cellsOf f3.type)) = some y3 ∧ DataW.trod enc P w base spare held n f4.type ((cs.drop f4.offset).take (P.cellsOf f4.type)) = some y4 ∧
      DataW.trod enc P w base spare held n f5.type ((cs.drop f5.offset).take (P.cellsOf f5.type)) = some y5 ∧ DataW.trod enc P w base spare held n f6.type ((cs.drop f6.offset).take (P.cellsOf f6.type)) = some y6 ∧
      DataW.trod enc P w base spare held n f7.type ((cs.drop f7.offset).take (P.cellsOf f7.type)) = some y7 := by
  obtain ⟨xs, n, _, rfl, hl, hlen, hf⟩ := DataW.trod_struct ht h
  match xs, hlen with
  | [y0, y1, y2, y3, y4, y5, y6, y7], _ => exact ⟨y0, y1, y2, y3, y4, y5, y6, y7, n, by simpa using hf 0 f0 rfl, by simpa using hf 1 f1 rfl, by simpa using hf 2 f2 rfl, by simpa using hf 3 f3 rfl, by simpa using hf 4 f4 rfl, by simpa using hf 5 f5 rfl, by simpa using hf 6 f6 rfl, by simpa using hf 7 f7 rfl⟩
end

theorem list8 (l : List Value) (h : l.toArray.size = 8) : ∃ a0 a1 a2 a3 a4 a5 a6 a7, l = [a0, a1, a2, a3, a4, a5, a6, a7] := by
  match l, h with
  | [a0, a1, a2, a3, a4, a5, a6, a7], _ => exact ⟨a0, a1, a2, a3, a4, a5, a6, a7, rfl⟩
theorem list2o (l : List Value) (h : l.toArray.size = 2) : ∃ a b, l = [a, b] := by
  match l, h with
  | [a, b], _ => exact ⟨a, b, rfl⟩

theorem open_py {H : Type} {enc : TypeId × Value → H} {W : World} {sp : Nat → Bool} {v : Value} {d : DataW H} {p : List MemPlace} {base : Nat}
    (hv : Value.okWide Try.prog W .any base 23 v) (h : DataW.Trod enc Try.prog W 0 sp true 23 v d p) : ∃ x : Py, v = .agg (cPy x).toArray := by
  obtain ⟨cs, rfl, hsz⟩ := okWide_struct Try.underlying23 hv
  rw [cellsPy17] at hsz
  obtain ⟨l⟩ := cs
  obtain ⟨v0, v1, v2, v3, v4, v5, v6, v7, rfl⟩ := list8 l hsz
  obtain ⟨fuel, hf⟩ := h
  obtain ⟨y0, y1, y2, y3, y4, y5, y6, y7, k, u0, u1, u2, u3, u4, u5, u6, u7⟩ := trod_struct8 Try.underlying23 hf
  simp only [Value.cells, cellsStr17, cellsI6417, List.drop, List.take] at u0 u1 u2 u3 u4 u5 u6 u7
  obtain ⟨s0, e0, _, _⟩ := DataW.trod_string Try.underlying9 u0
  obtain ⟨s1, e1, _, _⟩ := DataW.trod_string Try.underlying9 u1
  obtain ⟨s2, e2, _, _⟩ := DataW.trod_string Try.underlying9 u2
  obtain ⟨n3, e3, _, _⟩ := DataW.trod_int Try.underlying2 u3
  obtain ⟨s4, e4, _, _⟩ := DataW.trod_string Try.underlying9 u4
  obtain ⟨n5, e5, _, _⟩ := DataW.trod_int Try.underlying2 u5
  obtain ⟨n6, e6, _, _⟩ := DataW.trod_int Try.underlying2 u6
  obtain ⟨n7, e7, _, _⟩ := DataW.trod_int Try.underlying2 u7
  simp only [List.cons.injEq, and_true] at e0 e1 e2 e3 e4 e5 e6 e7
  subst e0; subst e1; subst e2; subst e3; subst e4; subst e5; subst e6; subst e7
  refine ⟨⟨s0.data.toList, s1.data.toList, s2.data.toList, n3, s4.data.toList, n5, n6, n7⟩, ?_⟩
  unfold cPy
  simp only
  rw [← of_data, ← of_data, ← of_data, ← of_data]

theorem open_i2 {H : Type} {enc : TypeId × Value → H} {W : World} {sp : Nat → Bool} {v : Value} {d : DataW H} {p : List MemPlace} {base : Nat}
    (hv : Value.okWide Try.prog W .any base 24 v) (h : DataW.Trod enc Try.prog W 0 sp true 24 v d p) :
    ∃ a b : Int, v = .agg #[.int .i64 a, .int .i64 b] := by
  obtain ⟨cs, rfl, hsz, _⟩ : ∃ cs, v = .agg cs ∧ cs.size = Try.prog.cellsOf 24 ∧ Row.okWide Try.prog W .any base 24 cs := by
    simpa [Value.okWide, Try.underlying24] using hv
  rw [cellsA17] at hsz
  obtain ⟨l⟩ := cs
  obtain ⟨c0, c1, rfl⟩ := list2o l hsz
  obtain ⟨fuel, hf⟩ := h
  obtain ⟨xs, m, _, _, _, hl, hel⟩ := DataW.trod_array Try.underlying24 hf
  have e0 := hel 0 (by omega)
  have e1 := hel 1 (by omega)
  rw [cellsI6417] at e0 e1
  rw [List.getElem?_eq_getElem (by omega)] at e0 e1
  obtain ⟨x0, f0, _, w0⟩ := DataW.trod_int Try.underlying2 e0
  obtain ⟨x1, f1, _, w1⟩ := DataW.trod_int Try.underlying2 e1
  simp [Value.cells] at f0 f1
  subst f0 f1
  exact ⟨x0, x1, rfl⟩
end Go.Proofs.Ytdahgmkbpiklpaa
