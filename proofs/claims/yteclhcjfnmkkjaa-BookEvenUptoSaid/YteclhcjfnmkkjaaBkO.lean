/-
  What comes into layer 7, opened: lists of lists of lines, few in all.
-/
import Derived.Test.YteclhcjfnmkkjaaRows
import Derived.Test.YteclhcjfnmkkjaaBkZ
import Derived.SliceStrings
import Derived.Deep.Slices
import Derived.SizedLaws
import Derived.ChangeSame
import Derived.ChangeSlices
import Derived.WalkKit
import Derived.ProofKit
import Derived.OpenShut
import Derived.ShutString
import Derived.ChangeOld
namespace Go.Proofs.Yteclhcjfnmkkjaa
open Go.RowKit Go.Deep Go.ChangeShapes Go.WideShapes

theorem bulk_mem {H : Type} {d : DataW H} {l : List (DataW H)} (h : d ∈ l) : Rows.uptoBulk d ≤ Rows.uptoBulkAll l := by
  induction l with
  | nil => cases h
  | cons x r ih =>
    simp only [Rows.uptoBulkAll]
    rcases List.mem_cons.1 h with e | e
    · rw [e]; omega
    · have := ih e; omega
theorem bulk_sum {H : Type} {α : Type} (f : α → Nat) (D : α → DataW H) (l : List α) (h : ∀ i ∈ l, f i ≤ Rows.uptoBulk (D i)) : (l.map f).sum ≤ Rows.uptoBulkAll (l.map D) := by
  induction l with
  | nil => simp [Rows.uptoBulkAll]
  | cons x r ih =>
    simp only [List.map_cons, List.sum_cons, Rows.uptoBulkAll]
    have h1 := h x (by simp)
    have h2 := ih (fun i hi => h i (by simp [hi]))
    omega
theorem bulk_one {H : Type} (d : DataW H) : 1 ≤ Rows.uptoBulk d := by
  cases d with
  | lit l => cases l <;> simp [Rows.uptoBulk]
  | _ => simp [Rows.uptoBulk]
theorem sum_ones {α : Type} (l : List α) : (l.map fun _ => 1).sum = l.length := by
  induction l with
  | nil => rfl
  | cons x r ih => rw [List.map_cons, List.sum_cons, ih, List.length_cons]; omega
theorem bulk_slice {H : Type} (e s : List (DataW H)) : Rows.uptoBulk (.slice e s) = Rows.uptoBulkAll e + Rows.uptoBulkAll s + 1 := by simp [Rows.uptoBulk]
theorem bulk_agg {H : Type} (e : List (DataW H)) : Rows.uptoBulk (.agg e) = Rows.uptoBulkAll e + 1 := by simp [Rows.uptoBulk]
theorem bulk_str {H : Type} (b : List UInt8) : Rows.uptoBulk (DataW.lit (H := H) (.string b)) = b.length + 1 := by simp [Rows.uptoBulk]

theorem trod_key3 {H : Type} {enc : TypeId × Value → H} {P : Program} {w : World} {base : Nat} {spare : Nat → Bool} {held : Bool} {e : TypeId} {f0 f1 f2 : Field} {fuel : Nat} {cs : List Value} {x : DataW H × List MemPlace} (he : P.underlying e = some (.struct #[f0, f1, f2]))
    (h : DataW.trod enc P w base spare held fuel e cs = some x) :
    ∃ (y0 y1 y2 : DataW H × List MemPlace) (n : Nat), x.1 = .agg [y0.1, y1.1, y2.1] ∧
      DataW.trod enc P w base spare held n f0.type ((cs.drop f0.offset).take (P.cellsOf f0.type)) = some y0 ∧
      DataW.trod enc P w base spare held n f1.type ((cs.drop f1.offset).take (P.cellsOf f1.type)) = some y1 ∧
      DataW.trod enc P w base spare held n f2.type ((cs.drop f2.offset).take (P.cellsOf f2.type)) = some y2 := by
  obtain ⟨xs, n, _, hx, _, hxl, hf⟩ := DataW.trod_struct he h
  match xs, hxl with
  | [y0, y1, y2], _ => exact ⟨y0, y1, y2, n, by rw [hx]; rfl, hf 0 f0 rfl, hf 1 f1 rfl, hf 2 f2 rfl⟩

theorem cellsLine7 : Try.prog.cellsOf 42 = 4 := by kernel_rfl
theorem cellsI647 : Try.prog.cellsOf 2 = 1 := by kernel_rfl
theorem cellsLines7 : Try.prog.cellsOf 29 = 1 := by kernel_rfl

set_option maxRecDepth 100000 in
/-- a line's cells -/
theorem open_line {H : Type} {enc : TypeId × Value → H} {W : World} {sp : Nat → Bool} {fuel : Nat} {cs : List Value} {y : DataW H × List MemPlace} (h : DataW.trod enc Try.prog W 0 sp true fuel 42 cs = some y) (hl : cs.length = 4) (hw : Rows.uptoBulk y.1 ≤ 1048576) :
    ∃ x : Ln, cs = cL x ∧ Ok1 x := by
  match cs, hl with
  | [v0, v1, v2, v3], _ =>
    obtain ⟨y0, y1, k, hxy, _, u0, u1⟩ := trod_struct2 Try.underlying42 h
    simp only [cellsA, cellsI647, List.drop, List.take] at u0 u1
    obtain ⟨z0, z1, z2, k2, hz, s0, s1, s2⟩ := trod_key3 Try.underlying40 u0
    simp only [cellsS, List.drop, List.take] at s0 s1 s2
    obtain ⟨t0, e0, d0, _⟩ := DataW.trod_string Try.underlying9 s0
    obtain ⟨t1, e1, d1, _⟩ := DataW.trod_string Try.underlying9 s1
    obtain ⟨t2, e2, d2, _⟩ := DataW.trod_string Try.underlying9 s2
    obtain ⟨n3, e3, d3, hwf⟩ := DataW.trod_int Try.underlying2 u1
    simp only [List.cons.injEq, and_true] at e0 e1 e2 e3
    subst e0 e1 e2 e3
    have hy : y.1 = .agg [.agg [.lit (.string t0.data.toList), .lit (.string t1.data.toList), .lit (.string t2.data.toList)], y1.1] := by
      rw [hxy]
      simp only [hz, d0, d1, d2]
    rw [hy, bulk_agg] at hw
    simp only [Rows.uptoBulkAll, bulk_agg, bulk_str] at hw
    refine ⟨((t0.data.toList, t1.data.toList, t2.data.toList), n3), ?_, ?_, ?_, ?_, bounds_i64 hwf⟩
    · simp only [cL, ← of_data]
    · show t0.data.toList.length ≤ _; omega
    · show t1.data.toList.length ≤ _; omega
    · show t2.data.toList.length ≤ _; omega

instance : Inhabited Ln := ⟨(([], [], []), 0)⟩

set_option maxRecDepth 100000 in
/-- a list of lines -/
theorem open_lines {H : Type} {enc : TypeId × Value → H} {W : World} {sp : Nat → Bool} {fuel : Nat} {v : Value} {y : DataW H × List MemPlace} (h : DataW.trod enc Try.prog W 0 sp true fuel 29 [v] = some y) (hw : Rows.uptoBulk y.1 ≤ 1048576) :
    ∃ (a : Option Addr) (c : Nat) (ls : List Ln), v = .slice a ls.length c ∧ RowL W a ls ∧ OkLs ls ∧ ls.length ≤ Rows.uptoBulk y.1 := by
  rcases open_slice Try.underlying29 h with ⟨h0, _⟩ | ⟨a, len, cap, m, n, D, Pl, hv, hb, hl, hm, hmm, hx, hel⟩
  · simp only [List.cons.injEq, and_true] at h0
    exact ⟨none, 0, [], h0, fun h => by simp at h, (fun _ h => by cases h), Nat.zero_le _⟩
  · simp only [List.cons.injEq, and_true] at hv
    have hlm : len ≤ m := by rw [hmm]; split <;> omega
    have hd : y.1 = .slice ((List.range len).map D) ((List.range (m - len)).map fun j => D (len + j)) := congrArg Prod.fst hx
    rw [hd, bulk_slice] at hw ⊢
    have each : ∀ i, i < len → ∃ x : Ln, (∀ j u, (cL x)[j]? = some u → W.cell? (a.add (i * 4 + j)) = some u) ∧ Ok1 x := by
      intro i hi
      obtain ⟨cs', h1, h2⟩ := hel i (by omega)
      rw [cellsLine7] at h1
      obtain ⟨_, hlen, hcell⟩ := World.cells?_some h1
      have hDi : D i ∈ (List.range len).map D := List.mem_map.2 ⟨i, List.mem_range.2 hi, rfl⟩
      have hbm := bulk_mem hDi
      obtain ⟨x, rfl, hok⟩ := open_line h2 hlen (by show Rows.uptoBulk (D i) ≤ _; omega)
      refine ⟨x, fun j u hu => ?_, hok⟩
      obtain ⟨hj, hju⟩ := List.getElem?_eq_some_iff.1 hu
      have hcj := hcell j (by rw [cL_len] at hj; exact hj)
      rw [add_add] at hcj
      rw [hcj, hu]
    obtain ⟨q, hq⟩ := choose_lt each
    have hlen2 : ((List.range len).map q).length = len := by simp
    refine ⟨some a, cap, (List.range len).map q, by rw [hv, hlen2], fun hp => ?_, ?_, ?_⟩
    · have hp' : 0 < len := by rw [hlen2] at hp; exact hp
      have hc0 := (hq 0 hp').1 0 _ rfl
      have hspot : a.spot = none := by simpa [Addr.add] using World.cell?_spot hc0
      obtain ⟨b, off, spot⟩ := a
      simp only at hspot
      subst hspot
      refine ⟨b, off, rfl, fun i x hi j u hu => ?_⟩
      obtain ⟨hlt, he⟩ := List.getElem?_eq_some_iff.1 hi
      have hlt' : i < len := by simpa using hlt
      have he' : q i = x := by simpa using he
      have c0 := (hq i hlt').1 j u (by rw [he']; exact hu)
      have ea : ∀ k : Nat, (⟨b, off, none⟩ : Addr).add k = ⟨b, off + k, none⟩ := by
        intro k
        unfold Addr.add
        by_cases e0 : k = 0
        · subst e0; rfl
        · simp [e0]
      rw [ea, ← Nat.add_assoc] at c0
      exact c0
    · intro x hx
      obtain ⟨i, hi, rfl⟩ := List.mem_map.1 hx
      exact (hq i (List.mem_range.1 hi)).2
    · have := bulk_sum (fun _ => 1) D (List.range len) (fun i _ => bulk_one (D i))
      rw [sum_ones, List.length_range] at this
      rw [hlen2]; omega

set_option maxRecDepth 100000 in
/-- a list of lists of lines -/
theorem open_all {H : Type} {enc : TypeId × Value → H} {W : World} {sp : Nat → Bool} {a0 : Option Addr} {len cap : Nat} {d : DataW H} {p : List MemPlace}
    (h : DataW.Trod enc Try.prog W 0 sp true 22 (.slice a0 len cap) d p) (hw : Rows.uptoBulk d ≤ 1048576) :
    ∃ ls : List (List Ln), ls.length = len ∧ RowSS W a0 ls ∧ (∀ l ∈ ls, OkLs l) ∧ totL ls ≤ 1048576 ∧ ls.length ≤ 1048576 := by
  obtain ⟨fuel, hf⟩ := h
  rcases open_slice Try.underlying22 hf with ⟨h0, _⟩ | ⟨a, len', cap', m, n, D, Pl, hv, hb, hl, hm, hmm, hx, hel⟩
  · simp [Value.cells] at h0
    obtain ⟨rfl, rfl, rfl⟩ := h0
    exact ⟨[], rfl, fun h => by simp at h, by simp, by simp [totL], by simp⟩
  · simp [Value.cells] at hv
    obtain ⟨rfl, rfl, rfl⟩ := hv
    have hlm : len ≤ m := by rw [hmm]; split <;> omega
    have hd : d = .slice ((List.range len).map D) ((List.range (m - len)).map fun j => D (len + j)) := congrArg Prod.fst hx
    rw [hd, bulk_slice] at hw
    have each : ∀ i, i < len → ∃ l : List Ln, (∃ ai ci, W.cell? (a.add i) = some (.slice ai l.length ci) ∧ RowL W ai l) ∧ OkLs l ∧ l.length ≤ Rows.uptoBulk (D i) := by
      intro i hi
      obtain ⟨cs', h1, h2⟩ := hel i (by omega)
      rw [cellsLines7, Nat.mul_one] at h1
      obtain ⟨_, hlen, hcell⟩ := World.cells?_some h1
      have hDi : D i ∈ (List.range len).map D := List.mem_map.2 ⟨i, List.mem_range.2 hi, rfl⟩
      have hbm := bulk_mem hDi
      match cs', hlen with
      | [v], _ =>
        obtain ⟨ai, ci, l, rfl, hr, ho, hll⟩ := open_lines h2 (by show Rows.uptoBulk (D i) ≤ _; omega)
        have hcj := hcell 0 (by omega)
        rw [add_add, Nat.add_zero] at hcj
        exact ⟨l, ⟨ai, ci, hcj, hr⟩, ho, hll⟩
    obtain ⟨q, hq⟩ := choose_lt each
    have hlen2 : ((List.range len).map q).length = len := by simp
    refine ⟨(List.range len).map q, hlen2, fun hp => ?_, ?_, ?_, ?_⟩
    · have hp' : 0 < len := by rw [hlen2] at hp; exact hp
      obtain ⟨ai, ci, hc0, _⟩ := (hq 0 hp').1
      have hspot : a.spot = none := by simpa [Addr.add] using World.cell?_spot hc0
      obtain ⟨b, off, spot⟩ := a
      simp only at hspot
      subst hspot
      refine ⟨b, off, rfl, fun i x hi => ?_⟩
      obtain ⟨hlt, he⟩ := List.getElem?_eq_some_iff.1 hi
      have hlt' : i < len := by simpa using hlt
      have he' : q i = x := by simpa using he
      obtain ⟨ai2, ci2, c0, hr⟩ := (hq i hlt').1
      have ea : ∀ k : Nat, (⟨b, off, none⟩ : Addr).add k = ⟨b, off + k, none⟩ := by
        intro k
        unfold Addr.add
        by_cases e0 : k = 0
        · subst e0; rfl
        · simp [e0]
      rw [ea, he'] at c0
      rw [he'] at hr
      exact ⟨ai2, ci2, c0, hr⟩
    · intro x hx
      obtain ⟨i, hi, rfl⟩ := List.mem_map.1 hx
      exact (hq i (List.mem_range.1 hi)).2.1
    · have := bulk_sum (fun i => (q i).length) D (List.range len) (fun i hi => (hq i (List.mem_range.1 hi)).2.2)
      have e : totL ((List.range len).map q) = ((List.range len).map fun i => (q i).length).sum := by unfold totL; rw [List.map_map]; rfl
      rw [e]; omega
    · have := bulk_sum (fun _ => 1) D (List.range len) (fun i _ => bulk_one (D i))
      rw [sum_ones, List.length_range] at this
      rw [hlen2]; omega
end Go.Proofs.Yteclhcjfnmkkjaa
