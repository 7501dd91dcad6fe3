/-
  What comes into layer 16, opened: a list of acts.
-/
import Derived.Test.YtkhkcpoadccflaaGtP
import Derived.Deep.Slices
import Derived.Deep.Strs
import Derived.SizedLaws
import Derived.ChangeSame
import Derived.Lib.SmallJoins
namespace Go.Proofs.Ytkhkcpoadccflaa
open Go.RowKit Go.Deep Go.ChangeShapes Go.WideShapes

/-- an act: a request, a choice, is it one that is told late?, its number -/
abbrev Ga := Rq × Nat × Bool × Int
def cGa (x : Ga) : List Value := [.string (st x.1.1), .string (st x.1.2.1), .string (st x.1.2.2.1), .string (st x.1.2.2.2.1), .int .i64 x.1.2.2.2.2.1, .int .i64 x.1.2.2.2.2.2, .int .u8 (x.2.1 : Int), .bool x.2.2.1, .int .i8 x.2.2.2]
def OkGa (x : Ga) : Prop := x.2.1 ≤ 255 ∧ -128 ≤ x.2.2.2 ∧ x.2.2.2 ≤ 127

theorem cellsAct16 : Try.prog.cellsOf 38 = 9 := by kernel_rfl
theorem cellsReq16 : Try.prog.cellsOf 35 = 6 := by kernel_rfl
theorem cellsStr16 : Try.prog.cellsOf 9 = 1 := by kernel_rfl
theorem cellsI6416 : Try.prog.cellsOf 2 = 1 := by kernel_rfl
theorem cellsU816 : Try.prog.cellsOf 5 = 1 := by kernel_rfl
theorem cellsI816 : Try.prog.cellsOf 36 = 1 := by kernel_rfl
theorem cellsBool16 : Try.prog.cellsOf 4 = 1 := by kernel_rfl

instance : Inhabited Ga := ⟨(([], [], [], [], 0, 0), 0, false, 0)⟩

theorem choose_lt16 {α : Type} [Inhabited α] {n : Nat} {Q : Nat → α → Prop} (h : ∀ i, i < n → ∃ x, Q i x) : ∃ q : Nat → α, ∀ i, i < n → Q i (q i) :=
  ⟨fun i => if hi : i < n then Classical.choose (h i hi) else default, fun i hi => by
    simp only [dif_pos hi]
    exact Classical.choose_spec (h i hi)⟩

section
variable {H : Type} {enc : TypeId × Value → H} {P : Program} {w : World} {base : Nat} {spare : Nat → Bool} {held : Bool}
theorem trod_struct6 {t : TypeId} {f0 f1 f2 f3 f4 f5 : Field} {fuel : Nat} {cs : List Value} {x : DataW H × List MemPlace} (ht : P.underlying t = some (.struct #[f0, f1, f2, f3, f4, f5])) (h : DataW.trod enc P w base spare held fuel t cs = some x) :
    ∃ y0 y1 y2 y3 y4 y5 n, cs.length = P.cellsOf t ∧ DataW.trod enc P w base spare held n f0.type ((cs.drop f0.offset).take (P.cellsOf f0.type)) = some y0 ∧
      DataW.trod enc P w base spare held n f1.type ((cs.drop f1.offset).take (P.cellsOf f1.type)) = some y1 ∧ DataW.trod enc P w base spare held n f2.type ((cs.drop f2.offset).take (P.cellsOf f2.type)) = some y2 ∧
      DataW.trod enc P w base spare held n f3.type ((cs.drop f3.offset).take (P.cellsOf f3.type)) = some y3 ∧ DataW.trod enc P w base spare held n f4.type ((cs.drop f4.offset).take (P.cellsOf f4.type)) = some y4 ∧
      DataW.trod enc P w base spare held n f5.type ((cs.drop f5.offset).take (P.cellsOf f5.type)) = some y5 := by
  obtain ⟨xs, n, _, rfl, hl, hlen, hf⟩ := DataW.trod_struct ht h
  match xs, hlen with
  | [y0, y1, y2, y3, y4, y5], _ => exact ⟨y0, y1, y2, y3, y4, y5, n, hl, by simpa using hf 0 f0 rfl, by simpa using hf 1 f1 rfl, by simpa using hf 2 f2 rfl, by simpa using hf 3 f3 rfl, by simpa using hf 4 f4 rfl, by simpa using hf 5 f5 rfl⟩
end

set_option maxRecDepth 100000 in
theorem open_acts16 {H : Type} {enc : TypeId × Value → H} {W : World} {sp : Nat → Bool} {a0 : Option Addr} {len cap : Nat} {d : DataW H} {p : List MemPlace}
    (h : DataW.Trod enc Try.prog W 0 sp true 22 (.slice a0 len cap) d p) :
    ∃ ls : List Ga, ls.length = len ∧ RowG 9 cGa W a0 ls ∧ ∀ x ∈ ls, OkGa x := by
  obtain ⟨fuel, hf⟩ := h
  rcases open_slice Try.underlying22 hf with ⟨h0, _⟩ | ⟨a, len', cap', m, n, D, Pl, hv, hb, hl, hm, hmm, hx, hel⟩
  · simp [Value.cells] at h0
    obtain ⟨rfl, rfl, rfl⟩ := h0
    exact ⟨[], rfl, RowG.nil _ _, by simp⟩
  · simp [Value.cells] at hv
    obtain ⟨rfl, rfl, rfl⟩ := hv
    have hlm : len ≤ m := by rw [hmm]; split <;> omega
    have each : ∀ i, i < len → ∃ x : Ga, (∀ j u, (cGa x)[j]? = some u → W.cell? (a.add (i * 9 + j)) = some u) ∧ OkGa x := by
      intro i hi
      obtain ⟨cs', h1, h2⟩ := hel i (by omega)
      rw [cellsAct16] at h1
      obtain ⟨_, hlen, hcell⟩ := World.cells?_some h1
      obtain ⟨y0, y1, y2, y3, k, hxy, _, u0, u1, u2, u3⟩ := Go.Joins.trod_struct4 Try.underlying38 h2
      match cs', hlen with
      | [v0, v1, v2, v3, v4, v5, v6, v7, v8], _ =>
        simp only [cellsU816, cellsReq16, cellsBool16, cellsI816, List.drop, List.take] at u0 u1 u2 u3
        obtain ⟨z0, z1, z2, z3, z4, z5, k2, _, q0, q1, q2, q3, q4, q5⟩ := trod_struct6 Try.underlying35 u0
        simp only [cellsStr16, cellsI6416, List.drop, List.take] at q0 q1 q2 q3 q4 q5
        obtain ⟨s0, e0, _, _⟩ := DataW.trod_string Try.underlying9 q0
        obtain ⟨s1, e1, _, _⟩ := DataW.trod_string Try.underlying9 q1
        obtain ⟨s2, e2, _, _⟩ := DataW.trod_string Try.underlying9 q2
        obtain ⟨s3, e3, _, _⟩ := DataW.trod_string Try.underlying9 q3
        obtain ⟨n4, e4, _, _⟩ := DataW.trod_int Try.underlying2 q4
        obtain ⟨n5, e5, _, _⟩ := DataW.trod_int Try.underlying2 q5
        obtain ⟨n6, e6, _, hwf6⟩ := DataW.trod_int Try.underlying5 u1
        obtain ⟨b7, e7, _⟩ := DataW.trod_bool Try.underlying4 u2
        obtain ⟨n8, e8, _, hwf8⟩ := DataW.trod_int Try.underlying36 u3
        simp only [List.cons.injEq, and_true] at e0 e1 e2 e3 e4 e5 e6 e7 e8
        subst e0; subst e1; subst e2; subst e3; subst e4; subst e5; subst e6; subst e7; subst e8
        obtain ⟨kd, rfl, hkd⟩ : ∃ kd : Nat, n6 = (kd : Int) ∧ kd ≤ 255 := by
          simp [Lit.wf, IntKind.min, IntKind.max, IntKind.signed, IntKind.bits] at hwf6
          exact ⟨n6.toNat, by omega, by omega⟩
        have h8 : -128 ≤ n8 ∧ n8 ≤ 127 := by
          simp [Lit.wf, IntKind.min, IntKind.max, IntKind.signed, IntKind.bits] at hwf8
          omega
        refine ⟨((s0.data.toList, s1.data.toList, s2.data.toList, s3.data.toList, n4, n5), kd, b7, n8), fun j u hu => ?_, hkd, h8⟩
        have hj : j < 9 := (List.getElem?_eq_some_iff.1 hu).1
        have hc := hcell j hj
        rw [add_add] at hc
        rw [hc, ← hu]
        match j, hj with
        | 0, _ => show some (Value.string s0) = some (Value.string (st s0.data.toList)); rw [← of_data]
        | 1, _ => show some (Value.string s1) = some (Value.string (st s1.data.toList)); rw [← of_data]
        | 2, _ => show some (Value.string s2) = some (Value.string (st s2.data.toList)); rw [← of_data]
        | 3, _ => show some (Value.string s3) = some (Value.string (st s3.data.toList)); rw [← of_data]
        | 4, _ => rfl
        | 5, _ => rfl
        | 6, _ => rfl
        | 7, _ => rfl
        | 8, _ => rfl
    obtain ⟨q, hq⟩ := choose_lt16 each
    refine ⟨(List.range len).map q, by simp, fun hp => ?_, fun x hx => ?_⟩
    · have hp' : 0 < len := by simpa using hp
      have hc0 := (hq 0 hp').1 0 _ rfl
      have hspot : a.spot = none := by simpa [Addr.add] using World.cell?_spot hc0
      obtain ⟨b, off, spot⟩ := a
      simp only at hspot
      subst hspot
      refine ⟨b, off, rfl, fun i x hi j u hu => ?_⟩
      obtain ⟨hlt, he⟩ := List.getElem?_eq_some_iff.1 hi
      have hlt' : i < len := by simpa using hlt
      have he' : q i = x := by simpa using he
      have c0 := (hq i hlt').1 j u (by rw [he']; exact hu)
      rw [addr_add, ← Nat.add_assoc] at c0
      exact c0
    · obtain ⟨i, hi, rfl⟩ := List.mem_map.1 hx
      exact (hq i (List.mem_range.1 hi)).2

theorem cells9 {w : World} {b off : Nat} {xs : List Ga} (h : RowG 9 cGa w (some ⟨b, off, none⟩) xs) {k : Nat} {x : Ga} (hx : xs[k]? = some x) :
    w.cell? ⟨b, off + k * 9, none⟩ = some (.string (st x.1.1)) ∧ w.cell? ⟨b, off + k * 9 + 1, none⟩ = some (.string (st x.1.2.1)) ∧ w.cell? ⟨b, off + k * 9 + 2, none⟩ = some (.string (st x.1.2.2.1)) ∧
      w.cell? ⟨b, off + k * 9 + 3, none⟩ = some (.string (st x.1.2.2.2.1)) ∧ w.cell? ⟨b, off + k * 9 + 4, none⟩ = some (.int .i64 x.1.2.2.2.2.1) ∧ w.cell? ⟨b, off + k * 9 + 5, none⟩ = some (.int .i64 x.1.2.2.2.2.2) ∧
      w.cell? ⟨b, off + k * 9 + 6, none⟩ = some (.int .u8 (x.2.1 : Int)) ∧ w.cell? ⟨b, off + k * 9 + 7, none⟩ = some (.bool x.2.2.1) ∧ w.cell? ⟨b, off + k * 9 + 8, none⟩ = some (.int .i8 x.2.2.2) := by
  have := h.at hx
  exact ⟨by simpa using this 0 _ rfl, this 1 _ rfl, this 2 _ rfl, this 3 _ rfl, this 4 _ rfl, this 5 _ rfl, this 6 _ rfl, this 7 _ rfl, this 8 _ rfl⟩
end Go.Proofs.Ytkhkcpoadccflaa
