/-
  What comes into layer 14, opened: a list of acts.
-/
import Derived.Test.YtoiiaicjlefclaaLotP
import Derived.Deep.Slices
import Derived.Deep.Strs
import Derived.SizedLaws
import Derived.ChangeSame
import Derived.Lib.SmallJoins
namespace Go.Proofs.Ytoiiaicjlefclaa
open Go.RowKit Go.Deep Go.ChangeShapes Go.WideShapes

/-- an act: its kind, a lot, a tick -/
abbrev Ac14 := Nat × Lt × Int
def cAc (x : Ac14) : List Value := [.int .u8 (x.1 : Int), .string (st x.2.1.1), .string (st x.2.1.2.1), .int .i64 x.2.1.2.2.1, .int .i64 x.2.1.2.2.2, .int .i64 x.2.2]
def OkAc (x : Ac14) : Prop := x.1 ≤ 255 ∧ AmtL x.2.1 ∧ Amt x.2.2

theorem cellsAct14 : Try.prog.cellsOf 32 = 6 := by kernel_rfl
theorem cellsLot14 : Try.prog.cellsOf 30 = 4 := by kernel_rfl
theorem cellsStr14 : Try.prog.cellsOf 9 = 1 := by kernel_rfl
theorem cellsI6414 : Try.prog.cellsOf 2 = 1 := by kernel_rfl
theorem cellsU814 : Try.prog.cellsOf 5 = 1 := by kernel_rfl

instance : Inhabited Ac14 := ⟨(0, ([], [], 0, 0), 0)⟩

theorem choose_lt14 {α : Type} [Inhabited α] {n : Nat} {Q : Nat → α → Prop} (h : ∀ i, i < n → ∃ x, Q i x) : ∃ q : Nat → α, ∀ i, i < n → Q i (q i) :=
  ⟨fun i => if hi : i < n then Classical.choose (h i hi) else default, fun i hi => by
    simp only [dif_pos hi]
    exact Classical.choose_spec (h i hi)⟩

set_option maxRecDepth 100000 in
theorem open_acts14 {H : Type} {enc : TypeId × Value → H} {W : World} {sp : Nat → Bool} {a0 : Option Addr} {len cap : Nat} {d : DataW H} {p : List MemPlace}
    (h : DataW.Trod enc Try.prog W 0 sp true 22 (.slice a0 len cap) d p) :
    ∃ ls : List Ac14, ls.length = len ∧ RowG 6 cAc W a0 ls ∧ ∀ x ∈ ls, OkAc x := by
  obtain ⟨fuel, hf⟩ := h
  rcases open_slice Try.underlying22 hf with ⟨h0, _⟩ | ⟨a, len', cap', m, n, D, Pl, hv, hb, hl, hm, hmm, hx, hel⟩
  · simp [Value.cells] at h0
    obtain ⟨rfl, rfl, rfl⟩ := h0
    exact ⟨[], rfl, RowG.nil _ _, by simp⟩
  · simp [Value.cells] at hv
    obtain ⟨rfl, rfl, rfl⟩ := hv
    have hlm : len ≤ m := by rw [hmm]; split <;> omega
    have each : ∀ i, i < len → ∃ x : Ac14, (∀ j u, (cAc x)[j]? = some u → W.cell? (a.add (i * 6 + j)) = some u) ∧ OkAc x := by
      intro i hi
      obtain ⟨cs', h1, h2⟩ := hel i (by omega)
      rw [cellsAct14] at h1
      obtain ⟨_, hlen, hcell⟩ := World.cells?_some h1
      obtain ⟨y0, y1, y2, k, hxy, _, u0, u1, u2⟩ := trod_struct3 Try.underlying32 h2
      match cs', hlen with
      | [v0, v1, v2, v3, v4, v5], _ =>
        simp only [cellsU814, cellsLot14, cellsI6414, List.drop, List.take] at u0 u1 u2
        obtain ⟨z0, z1, z2, z3, k2, hz, _, q0, q1, q2, q3⟩ := Go.Joins.trod_struct4 Try.underlying30 u1
        simp only [cellsStr14, cellsI6414, List.drop, List.take] at q0 q1 q2 q3
        obtain ⟨n0, e0, _, hwf0⟩ := DataW.trod_int Try.underlying5 u0
        obtain ⟨s1, e1, _, _⟩ := DataW.trod_string Try.underlying9 q0
        obtain ⟨s2, e2, _, _⟩ := DataW.trod_string Try.underlying9 q1
        obtain ⟨n3, e3, _, hwf3⟩ := DataW.trod_int Try.underlying2 q2
        obtain ⟨n4, e4, _, hwf4⟩ := DataW.trod_int Try.underlying2 q3
        obtain ⟨n5, e5, _, hwf5⟩ := DataW.trod_int Try.underlying2 u2
        simp only [List.cons.injEq, and_true] at e0 e1 e2 e3 e4 e5
        subst e0; subst e1; subst e2; subst e3; subst e4; subst e5
        obtain ⟨kd, rfl, hkd⟩ : ∃ kd : Nat, n0 = (kd : Int) ∧ kd ≤ 255 := by
          simp [Lit.wf, IntKind.min, IntKind.max, IntKind.signed, IntKind.bits] at hwf0
          exact ⟨n0.toNat, by omega, by omega⟩
        refine ⟨(kd, (s1.data.toList, s2.data.toList, n3, n4), n5), fun j u hu => ?_, hkd, ⟨Amt.of_wf hwf3, Amt.of_wf hwf4⟩, Amt.of_wf hwf5⟩
        have hj : j < 6 := (List.getElem?_eq_some_iff.1 hu).1
        have hc := hcell j hj
        rw [add_add] at hc
        rw [hc, ← hu]
        match j, hj with
        | 0, _ => rfl
        | 1, _ => show some (Value.string s1) = some (Value.string (st s1.data.toList)); rw [← of_data]
        | 2, _ => show some (Value.string s2) = some (Value.string (st s2.data.toList)); rw [← of_data]
        | 3, _ => rfl
        | 4, _ => rfl
        | 5, _ => rfl
    obtain ⟨q, hq⟩ := choose_lt14 each
    refine ⟨(List.range len).map q, by simp, fun hp => ?_, fun x hx => ?_⟩
    · have hp' : 0 < len := by simpa using hp
      have hc0 := (hq 0 hp').1 0 _ rfl
      have hspot : a.spot = none := by simpa [Addr.add] using World.cell?_spot hc0
      obtain ⟨b, off, spot⟩ := a
      simp only at hspot
      subst hspot
      refine ⟨b, off, rfl, fun i x hi j u hu => ?_⟩
      obtain ⟨hlt, he⟩ := List.getElem?_eq_some_iff.1 hi
      have hlt' : i < len := by simpa using hlt
      have he' : q i = x := by simpa using he
      have c0 := (hq i hlt').1 j u (by rw [he']; exact hu)
      rw [addr_add, ← Nat.add_assoc] at c0
      exact c0
    · obtain ⟨i, hi, rfl⟩ := List.mem_map.1 hx
      exact (hq i (List.mem_range.1 hi)).2

theorem cells6 {w : World} {b off : Nat} {xs : List Ac14} (h : RowG 6 cAc w (some ⟨b, off, none⟩) xs) {k K : Nat} {p c : List UInt8} {m d t : Int} (hx : xs[k]? = some (K, (p, c, m, d), t)) :
    w.cell? ⟨b, off + k * 6, none⟩ = some (.int .u8 (K : Int)) ∧ w.cell? ⟨b, off + k * 6 + 1, none⟩ = some (.string (st p)) ∧ w.cell? ⟨b, off + k * 6 + 2, none⟩ = some (.string (st c)) ∧
      w.cell? ⟨b, off + k * 6 + 3, none⟩ = some (.int .i64 m) ∧ w.cell? ⟨b, off + k * 6 + 4, none⟩ = some (.int .i64 d) ∧ w.cell? ⟨b, off + k * 6 + 5, none⟩ = some (.int .i64 t) := by
  have := h.at hx
  exact ⟨by simpa using this 0 _ rfl, this 1 _ rfl, this 2 _ rfl, this 3 _ rfl, this 4 _ rfl, this 5 _ rfl⟩
end Go.Proofs.Ytoiiaicjlefclaa
