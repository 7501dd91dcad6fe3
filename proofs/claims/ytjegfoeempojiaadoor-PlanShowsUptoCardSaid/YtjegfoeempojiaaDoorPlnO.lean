/-
  What comes into layer 9, opened: a list of rules, few letters in all.
-/
import Derived.Test.YtjegfoeempojiaaDoorRows
import Derived.Test.YtjegfoeempojiaaDoorPlnR
import Derived.SliceStrings
import Derived.Deep.Slices
import Derived.SizedLaws
import Derived.ChangeSame
import Derived.ChangeSlices
import Derived.WalkKit
import Derived.ProofKit
import Derived.OpenShut
import Derived.ShutString
import Derived.ChangeOld
namespace Go.Proofs.YtjegfoeempojiaaDoor
open Go.RowKit Go.Deep Go.ChangeShapes Go.WideShapes

theorem bulk_sum {H : Type} {α : Type} (f : α → Nat) (D : α → DataW H) (l : List α) (h : ∀ i ∈ l, f i ≤ Rows.uptoBulk (D i)) : (l.map f).sum ≤ Rows.uptoBulkAll (l.map D) := by
  induction l with
  | nil => simp [Rows.uptoBulkAll]
  | cons x r ih =>
    simp only [List.map_cons, List.sum_cons, Rows.uptoBulkAll]
    have h1 := h x (by simp)
    have h2 := ih (fun i hi => h i (by simp [hi]))
    omega
theorem bulk_one {H : Type} (d : DataW H) : 1 ≤ Rows.uptoBulk d := by
  cases d with
  | lit l => cases l <;> simp [Rows.uptoBulk]
  | _ => simp [Rows.uptoBulk]
theorem bulk_slice {H : Type} (e s : List (DataW H)) : Rows.uptoBulk (.slice e s) = Rows.uptoBulkAll e + Rows.uptoBulkAll s + 1 := by simp [Rows.uptoBulk]
theorem bulk_agg {H : Type} (e : List (DataW H)) : Rows.uptoBulk (.agg e) = Rows.uptoBulkAll e + 1 := by simp [Rows.uptoBulk]
theorem bulk_str {H : Type} (b : List UInt8) : Rows.uptoBulk (DataW.lit (H := H) (.string b)) = b.length + 1 := by simp [Rows.uptoBulk]

theorem trod_four {H : Type} {enc : TypeId × Value → H} {P : Program} {w : World} {base : Nat} {spare : Nat → Bool} {held : Bool} {e : TypeId} {f0 f1 f2 f3 : Field} {fuel : Nat} {cs : List Value} {x : DataW H × List MemPlace} (he : P.underlying e = some (.struct #[f0, f1, f2, f3]))
    (h : DataW.trod enc P w base spare held fuel e cs = some x) :
    ∃ (y0 y1 y2 y3 : DataW H × List MemPlace) (n : Nat), x.1 = .agg [y0.1, y1.1, y2.1, y3.1] ∧
      DataW.trod enc P w base spare held n f0.type ((cs.drop f0.offset).take (P.cellsOf f0.type)) = some y0 ∧
      DataW.trod enc P w base spare held n f1.type ((cs.drop f1.offset).take (P.cellsOf f1.type)) = some y1 ∧
      DataW.trod enc P w base spare held n f2.type ((cs.drop f2.offset).take (P.cellsOf f2.type)) = some y2 ∧
      DataW.trod enc P w base spare held n f3.type ((cs.drop f3.offset).take (P.cellsOf f3.type)) = some y3 := by
  obtain ⟨xs, n, _, hx, _, hxl, hf⟩ := DataW.trod_struct he h
  match xs, hxl with
  | [y0, y1, y2, y3], _ => exact ⟨y0, y1, y2, y3, n, by rw [hx]; rfl, hf 0 f0 rfl, hf 1 f1 rfl, hf 2 f2 rfl, hf 3 f3 rfl⟩

theorem cellsRule : Tryd.prog.cellsOf 24 = 4 := by kernel_rfl
theorem cellsI64r : Tryd.prog.cellsOf 2 = 1 := by kernel_rfl
theorem cellsStrr : Tryd.prog.cellsOf 9 = 1 := by kernel_rfl

set_option maxRecDepth 100000 in
/-- a rule's cells -/
theorem open_rule {H : Type} {enc : TypeId × Value → H} {W : World} {sp : Nat → Bool} {fuel : Nat} {cs : List Value} {y : DataW H × List MemPlace} (h : DataW.trod enc Tryd.prog W 0 sp true fuel 24 cs = some y) (hl : cs.length = 4) :
    ∃ x : Rl, cs = cR x ∧ OkR x ∧ 1 + x.1.length + x.2.1.length ≤ Rows.uptoBulk y.1 := by
  match cs, hl with
  | [v0, v1, v2, v3], _ =>
    obtain ⟨y0, y1, y2, y3, k, hxy, u0, u1, u2, u3⟩ := trod_four Tryd.underlying24 h
    simp only [cellsI64r, cellsStrr, List.drop, List.take] at u0 u1 u2 u3
    obtain ⟨t0, e0, d0, _⟩ := DataW.trod_string Tryd.underlying9 u0
    obtain ⟨t1, e1, d1, _⟩ := DataW.trod_string Tryd.underlying9 u1
    obtain ⟨n2, e2, d2, hwf2⟩ := DataW.trod_int Tryd.underlying2 u2
    obtain ⟨n3, e3, d3, hwf3⟩ := DataW.trod_int Tryd.underlying2 u3
    simp only [List.cons.injEq, and_true] at e0 e1 e2 e3
    subst e0 e1 e2 e3
    refine ⟨(t0.data.toList, t1.data.toList, n2, n3), ?_, ⟨?_, ?_⟩, ?_⟩
    · simp only [cR, ← of_data]
    · have := hwf2; simpa [Lit.wf, IntKind.min, IntKind.max, IntKind.signed, IntKind.bits, I64] using this
    · have := hwf3; simpa [Lit.wf, IntKind.min, IntKind.max, IntKind.signed, IntKind.bits, I64] using this
    · rw [hxy, bulk_agg]
      simp only [Rows.uptoBulkAll, d0, d1, bulk_str]
      omega

instance : Inhabited Rl := ⟨([], [], 0, 0)⟩

set_option maxRecDepth 100000 in
/-- a list of rules -/
theorem open_rules {H : Type} {enc : TypeId × Value → H} {W : World} {sp : Nat → Bool} {a0 : Option Addr} {len0 cap0 : Nat} {d : DataW H} {p : List MemPlace} (h : DataW.Trod enc Tryd.prog W 0 sp true 22 (.slice a0 len0 cap0) d p) :
    ∃ ls : List Rl, ls.length = len0 ∧ RowK cR W a0 ls ∧ (∀ r ∈ ls, OkR r) ∧ bulkR ls ≤ Rows.uptoBulk d := by
  obtain ⟨fuel, hf⟩ := h
  rcases open_slice Tryd.underlying22 hf with ⟨h0, _⟩ | ⟨a, len, cap, m, n, D, Pl, hv, hb, hl, hm, hmm, hx, hel⟩
  · simp [Value.cells] at h0
    obtain ⟨rfl, rfl, rfl⟩ := h0
    exact ⟨[], rfl, RowK.nil _ _, (fun _ h => by cases h), by simp [bulkR]⟩
  · simp [Value.cells] at hv
    obtain ⟨rfl, rfl, rfl⟩ := hv
    have hlm : len0 ≤ m := by rw [hmm]; split <;> omega
    have hd : d = .slice ((List.range len0).map D) ((List.range (m - len0)).map fun j => D (len0 + j)) := congrArg Prod.fst hx
    have each : ∀ i, i < len0 → ∃ x : Rl, (∀ j u, (cR x)[j]? = some u → W.cell? (a.add (i * 4 + j)) = some u) ∧ OkR x ∧ 1 + x.1.length + x.2.1.length ≤ Rows.uptoBulk (D i) := by
      intro i hi
      obtain ⟨cs', h1, h2⟩ := hel i (by omega)
      rw [cellsRule] at h1
      obtain ⟨_, hlen, hcell⟩ := World.cells?_some h1
      obtain ⟨x, rfl, hok, hbk⟩ := open_rule h2 hlen
      refine ⟨x, fun j u hu => ?_, hok, hbk⟩
      obtain ⟨hj, hju⟩ := List.getElem?_eq_some_iff.1 hu
      have hcj := hcell j (by rw [cR_len] at hj; exact hj)
      rw [add_add] at hcj
      rw [hcj, hu]
    obtain ⟨q, hq⟩ := choose_lt each
    have hlen2 : ((List.range len0).map q).length = len0 := by simp
    refine ⟨(List.range len0).map q, hlen2, fun hp => ?_, ?_, ?_⟩
    · have hp' : 0 < len0 := by rw [hlen2] at hp; exact hp
      have hc0 := (hq 0 hp').1 0 _ rfl
      have hspot : a.spot = none := by simpa [Addr.add] using World.cell?_spot hc0
      obtain ⟨b, off, spot⟩ := a
      simp only at hspot
      subst hspot
      refine ⟨b, off, rfl, fun i x hi j u hu => ?_⟩
      obtain ⟨hlt, he⟩ := List.getElem?_eq_some_iff.1 hi
      have hlt' : i < len0 := by simpa using hlt
      have he' : q i = x := by simpa using he
      have c0 := (hq i hlt').1 j u (by rw [he']; exact hu)
      have ea : ∀ k : Nat, (⟨b, off, none⟩ : Addr).add k = ⟨b, off + k, none⟩ := by
        intro k
        unfold Addr.add
        by_cases e0 : k = 0
        · subst e0; rfl
        · simp [e0]
      rw [ea, ← Nat.add_assoc] at c0
      exact c0
    · intro x hx
      obtain ⟨i, hi, rfl⟩ := List.mem_map.1 hx
      exact (hq i (List.mem_range.1 hi)).2.1
    · rw [hd, bulk_slice]
      have := bulk_sum (fun i => 1 + (q i).1.length + (q i).2.1.length) D (List.range len0) (fun i hi => (hq i (List.mem_range.1 hi)).2.2)
      unfold bulkR
      rw [List.map_map]
      show ((List.range len0).map fun i => 1 + (q i).1.length + (q i).2.1.length).sum ≤ _
      omega
end Go.Proofs.YtjegfoeempojiaaDoor
