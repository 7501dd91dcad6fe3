/-
  Contracts of souklaw14.Of and of slices.Equal of two rows of the same lots.
-/
import Derived.Test.YtoiiaicjlefclaaLotP
import Derived.Laws.StructEq
import Derived.BigQuiet
namespace Go.Proofs.Ytoiiaicjlefclaa
open Go.RowKit Go.Deep

/-- a new row of them -/
def RowTo14 (l : List Lt) (w : World) (e : Ending) (w' : World) : Prop :=
  ∃ a c, e = .returned (.slice a l.length c) ∧ RowG 4 cLt w' a l ∧ (∀ p, a = some p → w.heap.size ≤ p.block) ∧ Below w.heap.size w w'

set_option maxHeartbeats 4000000 in
set_option maxRecDepth 100000 in
theorem of14_any (a : Option Addr) (c : Nat) (l : List Lt) (w : World) (hr : RowG 4 cLt w a l) (hl : l.length ≤ 1000000) :
    Calls Try.prog 8 #[.slice a l.length c] w (RowTo14 l w) := by
  obtain ⟨n, hn⟩ : ∃ n, n = l.length := ⟨_, rfl⟩
  have HN := Lib.hid hn
  have HR := Lib.hid hr
  rw [← hn] at hl ⊢
  have HO0 := Lib.hid (World.ownsRow_nil w w.heap.size 37 4)
  clear hn hr
  go_enter Try.func8, Try.ntmps8
  go_wp2
  go_loopg [3, 5, 8] n (fun gk o _ i wr => ∃ (k : Nat) (v : Value), k ≤ n ∧ i = .int .i64 k ∧ v = o ∧ n - k ≤ gk ∧ Hid (wr.ownsRow w.heap.size 37 4 v k ((l.take k).flatMap cLt)) ∧ Hid (Below w.heap.size w wr))
  case atStart => exact ⟨0, _, Nat.zero_le _, rfl, rfl, by omega, HO0.out, Below.refl _ _⟩
  case round =>
    clear HO0
    obtain ⟨k, v, hk, rfl, rfl, hgk, HOW, HB⟩ := hrel
    by_cases hlt : k < n
    · obtain ⟨x, hx⟩ : ∃ x, l[k]? = some x := ⟨_, List.getElem?_eq_getElem (by rw [← HN.out]; exact hlt)⟩
      obtain ⟨p, c, m, d⟩ := x
      obtain ⟨b, off, rfl⟩ := HR.out.form (by rw [← HN.out]; omega)
      obtain ⟨f0, f1, f2, f3⟩ := cells4 (HR.out.keep HB.out) hx
      have hkz : (0 : Int) ≤ (k : Int) := by omega
      have hkn : (k : Int) < (n : Int) := by omega
      have HTK := Lib.hid (take_flat hx)
      clear hx
      go_wp2_with (first | (at_builtin; refine wpList_append_struct rfl (.tmp 12) (.tmp 14) 28 rfl w.heap.size 37 _ 4 48 Try.underlying28 infoRLot rfl (by decide) _ _ rfl (by simp [Value.oneCell']) v k _ rfl (new_at _ _) (HOW.out.alloc _) (by have := HB.out.size; simp; omega) (by unfold maxLen; omega) (by omega) ?_; intro v5 w5 h1 h2; have HO5 := Lib.hid h1; have HB5 : Hid (Below w.heap.size w w5) := (HB.out.alloc HB.out.size _).trans h2; clear h1 h2) | fail)
      go_roundg (n - (k + 1))
      case measure => omega
      case rel => exact ⟨k + 1, v5, by omega, by go_num, rfl, by omega, by rw [HTK.out]; exact HO5.out, HB5.out⟩
    · have e : n = k := by omega
      have HOW2 : Hid (wr.ownsRow w.heap.size 37 4 v k (l.flatMap cLt)) := by have := HOW.out; rw [List.take_of_length_le (by rw [← HN.out]; omega)] at this; exact this
      clear hgk hk HOW
      subst e
      obtain ⟨a2, c2, e1, e2, e3, _⟩ := RowG.own cLt_len HOW2.out HN.out
      have HX : Hid (RowTo14 l w (.returned v) wr) := ⟨a2, c2, by rw [e1], e2, e3, HB.out⟩
      clear e1 e2 e3
      go_wp2
      go_ret
      exact HX.out

set_option maxHeartbeats 4000000 in
set_option maxRecDepth 100000 in
theorem eqLots_same (a1 a2 : Option Addr) (c1 c2 : Nat) (l : List Lt) (n : Nat) (w : World) (hn : n = l.length) (h1 : RowG 4 cLt w a1 l) (h2 : RowG 4 cLt w a2 l) (hl : n ≤ 1000000) :
    Calls Try.prog 7 #[.slice a1 n c1, .slice a2 n c2] w fun e w' => e = .returned (.bool true) ∧ Below w.heap.size w w' := by
  have HN := Lib.hid hn
  have HR1 := Lib.hid h1
  have HR2 := Lib.hid h2
  clear hn h1 h2
  go_enter Try.func7, Try.ntmps7
  go_wp2
  go_loopg [5, 13] n (fun gk _ i wr => ∃ k : Nat, k ≤ n ∧ i = .int .i64 k ∧ n - k ≤ gk ∧ Hid (Below w.heap.size w wr))
  case atStart => exact ⟨0, Nat.zero_le _, rfl, by omega, Below.refl _ _⟩
  case round =>
    obtain ⟨k, hk, rfl, hgk, HB⟩ := hrel
    by_cases hlt : k < n
    · obtain ⟨x, hx⟩ : ∃ x, l[k]? = some x := ⟨_, List.getElem?_eq_getElem (by rw [← HN.out]; exact hlt)⟩
      obtain ⟨p, c, m, d⟩ := x
      obtain ⟨b1, off1, rfl⟩ := HR1.out.form (by rw [← HN.out]; omega)
      obtain ⟨b2, off2, rfl⟩ := HR2.out.form (by rw [← HN.out]; omega)
      obtain ⟨f0, f1, f2, f3⟩ := cells4 (HR1.out.keep HB.out) hx
      obtain ⟨g0, g1, g2, g3⟩ := cells4 (HR2.out.keep HB.out) hx
      have hkz : (0 : Int) ≤ (k : Int) := by omega
      have hkn : (k : Int) < (n : Int) := by omega
      have HBn : Hid (∀ z, Below w.heap.size w (wr.drewN z)) := fun z => drewN_below HB.out z
      clear hx
      go_wp2
      go_quiet (fail)
      go_wp2
      go_roundg (n - (k + 1))
      case measure => omega
      case rel => exact ⟨k + 1, by omega, by go_num, by omega, HBn.out _⟩
    · have e : n = k := by omega
      clear hgk hk
      subst e
      go_wp2
      go_ret
      exact ⟨rfl, HB.out⟩
end Go.Proofs.Ytoiiaicjlefclaa
