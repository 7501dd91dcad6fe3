/-
  Contracts of souklaw07.Of, small, and of slices.Equal of two rows of the same lines.
-/
import Derived.Test.YteclhcjfnmkkjaaBkU
import Derived.Test.YteclhcjfnmkkjaaBkW
import Derived.Laws.StructEq
namespace Go.Proofs.Yteclhcjfnmkkjaa
open Go.RowKit Go.Lib

theorem take_flat7 {l : List Ln} {k : Nat} {x : Ln} (h : l[k]? = some x) : (l.take (k + 1)).flatMap cL = (l.take k).flatMap cL ++ cL x := by
  obtain ⟨hlt, he⟩ := List.getElem?_eq_some_iff.1 h
  rw [List.take_succ_eq_append_getElem hlt, he]
  simp

set_option maxHeartbeats 4000000 in
set_option maxRecDepth 100000 in
theorem of_any (a : Option Addr) (c : Nat) (l : List Ln) (w : World) (hr : RowL w a l) (hl : l.length ≤ 4194304) :
    Calls Try.prog 11 #[.slice a l.length c] w (RowTo w l) := by
  obtain ⟨n, hn⟩ : ∃ n, n = l.length := ⟨_, rfl⟩
  have HN := Lib.hid hn
  have HR := Lib.hid hr
  rw [← hn] at hl ⊢
  have HO0 := Lib.hid (World.ownsRow_nil w w.heap.size 37 4)
  clear hn hr
  go_enter Try.func11, Try.ntmps11
  go_wp2
  go_loopg [3, 5, 8] n (fun gk o _ i wr => ∃ (k : Nat) (v : Value), k ≤ n ∧ i = .int .i64 k ∧ v = o ∧ n - k ≤ gk ∧ Hid (wr.ownsRow w.heap.size 37 4 v k ((l.take k).flatMap cL)) ∧ Hid (Below w.heap.size w wr))
  case atStart => exact ⟨0, _, Nat.zero_le _, rfl, rfl, by omega, HO0.out, Below.refl _ _⟩
  case round =>
    clear HO0
    obtain ⟨k, v, hk, rfl, rfl, hgk, HOW, HB⟩ := hrel
    by_cases hlt : k < n
    · obtain ⟨x, hx⟩ : ∃ x, l[k]? = some x := ⟨_, List.getElem?_eq_getElem (by rw [← HN.out]; exact hlt)⟩
      obtain ⟨b, off, rfl⟩ := rowL_form HR.out (by rw [← HN.out]; omega)
      obtain ⟨f0, f1, f2, f3⟩ := rowL_cells (HR.out.keep HB.out) hx
      have hkz : (0 : Int) ≤ (k : Int) := by omega
      have hkn : (k : Int) < (n : Int) := by omega
      have HTK := Lib.hid (take_flat7 hx)
      clear hx
      go_wp2_with (first | (at_builtin; refine wpList_append_struct rfl (.tmp 12) (.tmp 25) 27 rfl w.heap.size 37 _ 4 56 Try.underlying27 infoRLine rfl (by decide) _ _ rfl (by simp [Value.oneCell']) v k _ rfl (new_at _ _) (HOW.out.alloc _) (by have := HB.out.size; simp; omega) (by unfold maxLen; omega) (by omega) ?_; intro v5 w5 h1 h2; have HO5 := Lib.hid h1; have HB5 : Hid (Below w.heap.size w w5) := (HB.out.alloc HB.out.size _).trans h2; clear h1 h2) | fail)
      go_roundg (n - (k + 1))
      case measure => omega
      case rel => exact ⟨k + 1, v5, by omega, by go_num, rfl, by omega, by rw [HTK.out]; exact HO5.out, HB5.out⟩
    · have e : n = k := by omega
      have HOW2 : Hid (wr.ownsRow w.heap.size 37 4 v k (l.flatMap cL)) := by have := HOW.out; rw [List.take_of_length_le (by rw [← HN.out]; omega)] at this; exact this
      clear hgk hk HOW
      subst e
      obtain ⟨a2, c2, e1, e2, e3⟩ := own_row HOW2.out HN.out
      have HX : Hid (RowTo w l (.returned v) wr) := ⟨a2, c2, by rw [e1], e2, e3, HB.out⟩
      clear e1 e2 e3
      go_wp2
      go_ret
      exact HX.out

set_option maxHeartbeats 4000000 in
set_option maxRecDepth 100000 in
theorem eqBook_same (a1 a2 : Option Addr) (c1 c2 : Nat) (l : List Ln) (n : Nat) (w : World) (hn : n = l.length) (h1 : RowL w a1 l) (h2 : RowL w a2 l) (hl : n ≤ 4194304) :
    Calls Try.prog 12 #[.slice a1 n c1, .slice a2 n c2] w fun e w' => e = .returned (.bool true) ∧ Below w.heap.size w w' := by
  have HN := Lib.hid hn
  have HR1 := Lib.hid h1
  have HR2 := Lib.hid h2
  clear hn h1 h2
  go_enter Try.func12, Try.ntmps12
  go_wp2
  go_loopg [5, 13] n (fun gk _ i wr => ∃ k : Nat, k ≤ n ∧ i = .int .i64 k ∧ n - k ≤ gk ∧ Hid (Below w.heap.size w wr))
  case atStart => exact ⟨0, Nat.zero_le _, rfl, by omega, Below.refl _ _⟩
  case round =>
    obtain ⟨k, hk, rfl, hgk, HB⟩ := hrel
    by_cases hlt : k < n
    · obtain ⟨x, hx⟩ : ∃ x, l[k]? = some x := ⟨_, List.getElem?_eq_getElem (by rw [← HN.out]; exact hlt)⟩
      obtain ⟨b1, off1, rfl⟩ := rowL_form HR1.out (by rw [← HN.out]; omega)
      obtain ⟨b2, off2, rfl⟩ := rowL_form HR2.out (by rw [← HN.out]; omega)
      obtain ⟨f0, f1, f2, f3⟩ := rowL_cells (HR1.out.keep HB.out) hx
      obtain ⟨g0, g1, g2, g3⟩ := rowL_cells (HR2.out.keep HB.out) hx
      have hkz : (0 : Int) ≤ (k : Int) := by omega
      have hkn : (k : Int) < (n : Int) := by omega
      clear hx
      go_wp2
      go_quiet (fail)
      go_wp2
      go_roundg (n - (k + 1))
      case measure => omega
      case rel => exact ⟨k + 1, by omega, by go_num, by omega, stD HB.out _⟩
    · have e : n = k := by omega
      clear hgk hk
      subst e
      go_wp2
      go_ret
      exact ⟨rfl, HB.out⟩

/-- a row of lists of lines -/
def RowSS (w : World) (a : Option Addr) (ls : List (List Ln)) : Prop :=
  0 < ls.length → ∃ b off, a = some ⟨b, off, none⟩ ∧ ∀ i l, ls[i]? = some l → ∃ ai ci, w.cell? ⟨b, off + i, none⟩ = some (.slice ai l.length ci) ∧ RowL w ai l
theorem RowSS.keep {w w' : World} {a : Option Addr} {ls : List (List Ln)} (h : RowSS w a ls) (hb : Below w.heap.size w w') : RowSS w' a ls := by
  intro h0
  obtain ⟨b, off, e, hc⟩ := h h0
  refine ⟨b, off, e, fun i l hi => ?_⟩
  obtain ⟨ai, ci, h1, h2⟩ := hc i l hi
  exact ⟨ai, ci, by rw [hb.cell (p := ⟨b, off + i, none⟩) (World.block_lt_of_cell? w _ h1)]; exact h1, h2.keep hb⟩

set_option maxHeartbeats 4000000 in
set_option maxRecDepth 100000 in
theorem small7_any (a : Option Addr) (c : Nat) (ls : List (List Ln)) (w : World) (hr : RowSS w a ls) (hl : ls.length ≤ 2097152) (hls : ∀ l ∈ ls, l.length ≤ 2097152) :
    Calls Try.prog 6 #[.slice a ls.length c] w fun e w' => (∃ sb : Bool, e = .returned (.bool sb)) ∧ Below w.heap.size w w' := by
  obtain ⟨n, hn⟩ : ∃ n, n = ls.length := ⟨_, rfl⟩
  have HN := Lib.hid hn
  have HR := Lib.hid hr
  have HLS := Lib.hid hls
  rw [← hn] at hl ⊢
  clear hn hr hls
  go_enter Try.func6, Try.ntmps6
  go_wp2
  go_loopg [3, 5, 7, 10, 19, 20, 21] n (fun gk z _ _ i _ _ _ wr => ∃ (k : Nat) (s : Int), k ≤ n ∧ i = .int .i64 k ∧ z = .int .i64 s ∧ n - k ≤ gk ∧ Hid (Below w.heap.size w wr))
  case atStart => exact ⟨0, 0, Nat.zero_le _, rfl, rfl, by omega, Below.refl _ _⟩
  case round =>
    obtain ⟨k, s, hk, rfl, rfl, hgk, HB⟩ := hrel
    by_cases hlt : k < n
    · obtain ⟨l, hx⟩ : ∃ l, ls[k]? = some l := ⟨_, List.getElem?_eq_getElem (by rw [← HN.out]; exact hlt)⟩
      obtain ⟨b, off, rfl, hc⟩ := (HR.out.keep HB.out) (by rw [← HN.out]; omega)
      obtain ⟨ai, ci, f0, hrow⟩ := hc k l hx
      have HRW := Lib.hid hrow
      have HLL := Lib.hid (HLS.out l (List.mem_of_getElem? hx))
      have hkz : (0 : Int) ≤ (k : Int) := by omega
      have hkn : (k : Int) < (n : Int) := by omega
      obtain ⟨q, hq⟩ : ∃ q, q = l.length := ⟨_, rfl⟩
      have HQ := Lib.hid hq
      rw [← hq] at f0
      clear hc hrow hx hq
      go_wp2
      go_loopg [3, 7, 21] q (fun gj z _ i wr2 => ∃ (j : Nat) (s : Int), j ≤ q ∧ i = .int .i64 j ∧ z = .int .i64 s ∧ q - j ≤ gj ∧ Hid (RowL wr2 ai l) ∧ Hid (Below w.heap.size w wr2))
      case atStart => exact ⟨0, _, Nat.zero_le _, rfl, rfl, by omega, HRW.out, HB.out⟩
      case round =>
        clear HRW HB f0
        obtain ⟨j, s, hj, rfl, rfl, hgj, HRW, HB⟩ := hrel
        by_cases hjt : j < q
        · obtain ⟨x, hx⟩ : ∃ x, l[j]? = some x := ⟨_, List.getElem?_eq_getElem (by rw [← HQ.out]; exact hjt)⟩
          obtain ⟨b2, off2, rfl⟩ := rowL_form HRW.out (by rw [← HQ.out]; omega)
          obtain ⟨g0, g1, g2, g3⟩ := rowL_cells HRW.out hx
          have hjz : (0 : Int) ≤ (j : Int) := by omega
          have hjn : (j : Int) < (q : Int) := by omega
          have hqm := HLL.out
          rw [← HQ.out] at hqm
          have HBo : Hid (∀ o : Obj, Below w.heap.size w (wr.alloc o) ∧ RowL (wr.alloc o) (some ⟨b2, off2, none⟩) l) := fun o => ⟨HB.out.alloc HB.out.size o, HRW.out.keep ((Below.refl _ wr).alloc (Nat.le_refl _) o)⟩
          clear hx
          go_wp2
          go_roundg (q - (j + 1))
          case measure => omega
          case rel => exact ⟨j + 1, _, by omega, by go_num, rfl, by omega, (HBo.out _).2, (HBo.out _).1⟩
        · have e : q = j := by omega
          clear hgj hj
          subst e
          go_wp2
          go_roundg (n - (k + 1))
          case measure => omega
          case rel => exact ⟨k + 1, _, by omega, by go_num, rfl, by omega, HB.out⟩
    · have e : n = k := by omega
      clear hgk hk
      subst e
      go_wp2
      go_ret
      exact ⟨⟨_, rfl⟩, HB.out⟩
end Go.Proofs.Yteclhcjfnmkkjaa
