/-
  Contracts of souklaw16.Of and Records, of slices.Equal of rows of the same structs, of slices.Clone of records, of gate.Records.
-/
import Derived.Test.YtkhkcpoadccflaaGtC
import Derived.Laws.StructEq
import Derived.Laws.AppendOwn
import Derived.Lib.SliceRun
import Derived.BigQuiet
namespace Go.Proofs.Ytkhkcpoadccflaa
open Go.RowKit Go.Deep

theorem take_flatZ {α : Type} {c : α → List Value} {l : List α} {k : Nat} {x : α} (h : l[k]? = some x) : (l.take (k + 1)).flatMap c = (l.take k).flatMap c ++ c x := by
  rw [take_at h]; simp

/-- a new row of them -/
def RowToG {α : Type} (z : Nat) (c : α → List Value) (l : List α) (w : World) (e : Ending) (w' : World) : Prop :=
  ∃ a cp, e = .returned (.slice a l.length cp) ∧ RowG z c w' a l ∧ (∀ p, a = some p → w.heap.size ≤ p.block) ∧ Below w.heap.size w w'
/-- the same, with its room -/
def RowToC {α : Type} (z : Nat) (c : α → List Value) (l : List α) (w : World) (e : Ending) (w' : World) : Prop :=
  ∃ a cp, e = .returned (.slice a l.length cp) ∧ RowG z c w' a l ∧ (∀ p, a = some p → w.heap.size ≤ p.block) ∧ Below w.heap.size w w' ∧ l.length ≤ cp

set_option maxHeartbeats 4000000 in
set_option maxRecDepth 100000 in
theorem of16_any (a : Option Addr) (c : Nat) (l : List Rp) (w : World) (hr : RowG 3 cRp w a l) (hl : l.length ≤ 1000000) :
    Calls Try.prog 9 #[.slice a l.length c] w (RowToG 3 cRp l w) := by
  obtain ⟨n, hn⟩ : ∃ n, n = l.length := ⟨_, rfl⟩
  have HN := Lib.hid hn
  have HR := Lib.hid hr
  unfold RowToG
  rw [← hn] at hl ⊢
  have HO0 := Lib.hid (World.ownsRow_nil w w.heap.size 43 3)
  clear hn hr
  go_enter Try.func9, Try.ntmps9
  go_wp2
  go_loopg [3, 5, 8] n (fun gk o _ i wr => ∃ (k : Nat) (v : Value), k ≤ n ∧ i = .int .i64 k ∧ v = o ∧ n - k ≤ gk ∧ Hid (wr.ownsRow w.heap.size 43 3 v k ((l.take k).flatMap cRp)) ∧ Hid (Below w.heap.size w wr))
  case atStart => exact ⟨0, _, Nat.zero_le _, rfl, rfl, by omega, HO0.out, Below.refl _ _⟩
  case round =>
    clear HO0
    obtain ⟨k, v, hk, rfl, rfl, hgk, HOW, HB⟩ := hrel
    by_cases hlt : k < n
    · obtain ⟨x, hx⟩ : ∃ x, l[k]? = some x := ⟨_, List.getElem?_eq_getElem (by rw [← HN.out]; exact hlt)⟩
      obtain ⟨b, off, rfl⟩ := HR.out.form (by rw [← HN.out]; omega)
      obtain ⟨f0, f1, f2⟩ := cells3 (HR.out.keep HB.out) hx
      have hkz : (0 : Int) ≤ (k : Int) := by omega
      have hkn : (k : Int) < (n : Int) := by omega
      have HTK := Lib.hid (take_flatZ (c := cRp) hx)
      obtain ⟨x0, x1, x2⟩ := x
      simp only at f0 f1 f2
      clear hx
      go_wp2_with (first | (at_builtin; refine wpList_append_struct rfl (.tmp 12) (.tmp 14) 31 rfl w.heap.size 43 _ 3 40 Try.underlying31 infoRRp rfl (by decide) _ _ rfl (by simp [Value.oneCell']) v k _ rfl (new_at _ _) (HOW.out.alloc _) (by have := HB.out.size; simp; omega) (by unfold maxLen; omega) (by omega) ?_; intro v5 w5 h1 h2; have HO5 := Lib.hid h1; have HB5 : Hid (Below w.heap.size w w5) := (HB.out.alloc HB.out.size _).trans h2; clear h1 h2) | fail)
      go_roundg (n - (k + 1))
      case measure => omega
      case rel => exact ⟨k + 1, v5, by omega, by go_num, rfl, by omega, by rw [HTK.out]; exact HO5.out, HB5.out⟩
    · have e : n = k := by omega
      have HOW2 : Hid (wr.ownsRow w.heap.size 43 3 v k (l.flatMap cRp)) := by have := HOW.out; rw [List.take_of_length_le (by rw [← HN.out]; omega)] at this; exact this
      have HNN := Lib.hid HN.out
      clear hgk hk HOW
      subst e
      obtain ⟨a2, c2, e1, e2, e3, _⟩ := RowG.own cRp_len HOW2.out HN.out
      have HX : Hid (∃ a cp, Ending.returned v = .returned (.slice a n cp) ∧ RowG 3 cRp wr a l ∧ (∀ p, a = some p → w.heap.size ≤ p.block) ∧ Below w.heap.size w wr) := ⟨a2, c2, by rw [e1, HNN.out], e2, e3, HB.out⟩
      clear e1 e2 e3
      go_wp2
      go_ret
      exact HX.out

set_option maxHeartbeats 4000000 in
set_option maxRecDepth 100000 in
theorem recs16_any (a : Option Addr) (c : Nat) (l : List Rc) (w : World) (hr : RowG 5 cRc w a l) (hl : l.length ≤ 1000000) :
    Calls Try.prog 13 #[.slice a l.length c] w (RowToG 5 cRc l w) := by
  obtain ⟨n, hn⟩ : ∃ n, n = l.length := ⟨_, rfl⟩
  have HN := Lib.hid hn
  have HR := Lib.hid hr
  unfold RowToG
  rw [← hn] at hl ⊢
  have HO0 := Lib.hid (World.ownsRow_nil w w.heap.size 52 5)
  clear hn hr
  go_enter Try.func13, Try.ntmps13
  go_wp2
  go_loopg [3, 5, 8] n (fun gk o _ i wr => ∃ (k : Nat) (v : Value), k ≤ n ∧ i = .int .i64 k ∧ v = o ∧ n - k ≤ gk ∧ Hid (wr.ownsRow w.heap.size 52 5 v k ((l.take k).flatMap cRc)) ∧ Hid (Below w.heap.size w wr))
  case atStart => exact ⟨0, _, Nat.zero_le _, rfl, rfl, by omega, HO0.out, Below.refl _ _⟩
  case round =>
    clear HO0
    obtain ⟨k, v, hk, rfl, rfl, hgk, HOW, HB⟩ := hrel
    by_cases hlt : k < n
    · obtain ⟨x, hx⟩ : ∃ x, l[k]? = some x := ⟨_, List.getElem?_eq_getElem (by rw [← HN.out]; exact hlt)⟩
      obtain ⟨b, off, rfl⟩ := HR.out.form (by rw [← HN.out]; omega)
      obtain ⟨f0, f1, f2, f3, f4⟩ := cells5 (HR.out.keep HB.out) hx
      have hkz : (0 : Int) ≤ (k : Int) := by omega
      have hkn : (k : Int) < (n : Int) := by omega
      have HTK := Lib.hid (take_flatZ (c := cRc) hx)
      obtain ⟨x0, x1, x2, x3, x4⟩ := x
      simp only at f0 f1 f2 f3 f4
      clear hx
      go_wp2_with (first | (at_builtin; refine wpList_append_struct rfl (.tmp 12) (.tmp 14) 30 rfl w.heap.size 52 _ 5 64 Try.underlying30 infoRRc rfl (by decide) _ _ rfl (by simp [Value.oneCell']) v k _ rfl (new_at _ _) (HOW.out.alloc _) (by have := HB.out.size; simp; omega) (by unfold maxLen; omega) (by omega) ?_; intro v5 w5 h1 h2; have HO5 := Lib.hid h1; have HB5 : Hid (Below w.heap.size w w5) := (HB.out.alloc HB.out.size _).trans h2; clear h1 h2) | fail)
      go_roundg (n - (k + 1))
      case measure => omega
      case rel => exact ⟨k + 1, v5, by omega, by go_num, rfl, by omega, by rw [HTK.out]; exact HO5.out, HB5.out⟩
    · have e : n = k := by omega
      have HOW2 : Hid (wr.ownsRow w.heap.size 52 5 v k (l.flatMap cRc)) := by have := HOW.out; rw [List.take_of_length_le (by rw [← HN.out]; omega)] at this; exact this
      have HNN := Lib.hid HN.out
      clear hgk hk HOW
      subst e
      obtain ⟨a2, c2, e1, e2, e3, _⟩ := RowG.own cRc_len HOW2.out HN.out
      have HX : Hid (∃ a cp, Ending.returned v = .returned (.slice a n cp) ∧ RowG 5 cRc wr a l ∧ (∀ p, a = some p → w.heap.size ≤ p.block) ∧ Below w.heap.size w wr) := ⟨a2, c2, by rw [e1, HNN.out], e2, e3, HB.out⟩
      clear e1 e2 e3
      go_wp2
      go_ret
      exact HX.out

set_option maxHeartbeats 4000000 in
set_option maxRecDepth 100000 in
theorem eqRRp_same (a1 a2 : Option Addr) (c1 c2 : Nat) (l : List Rp) (n : Nat) (w : World) (hn : n = l.length) (h1 : RowG 3 cRp w a1 l) (h2 : RowG 3 cRp w a2 l) (hl : n ≤ 1000000) :
    Calls Try.prog 8 #[.slice a1 n c1, .slice a2 n c2] w fun e w' => e = .returned (.bool true) ∧ Below w.heap.size w w' := by
  have HN := Lib.hid hn
  have HR1 := Lib.hid h1
  have HR2 := Lib.hid h2
  clear hn h1 h2
  go_enter Try.func8, Try.ntmps8
  go_wp2
  go_loopg [5, 13] n (fun gk _ i wr => ∃ k : Nat, k ≤ n ∧ i = .int .i64 k ∧ n - k ≤ gk ∧ Hid (Below w.heap.size w wr))
  case atStart => exact ⟨0, Nat.zero_le _, rfl, by omega, Below.refl _ _⟩
  case round =>
    obtain ⟨k, hk, rfl, hgk, HB⟩ := hrel
    by_cases hlt : k < n
    · obtain ⟨x, hx⟩ : ∃ x, l[k]? = some x := ⟨_, List.getElem?_eq_getElem (by rw [← HN.out]; exact hlt)⟩
      obtain ⟨b1, off1, rfl⟩ := HR1.out.form (by rw [← HN.out]; omega)
      obtain ⟨b2, off2, rfl⟩ := HR2.out.form (by rw [← HN.out]; omega)
      obtain ⟨f0, f1, f2⟩ := cells3 (HR1.out.keep HB.out) hx
      obtain ⟨g0, g1, g2⟩ := cells3 (HR2.out.keep HB.out) hx
      obtain ⟨x0, x1, x2⟩ := x
      simp only at f0 f1 f2 g0 g1 g2
      have hkz : (0 : Int) ≤ (k : Int) := by omega
      have hkn : (k : Int) < (n : Int) := by omega
      have HBn : Hid (∀ z, Below w.heap.size w (wr.drewN z)) := fun z => drewN_below HB.out z
      clear hx
      go_wp2
      go_quiet (fail)
      go_wp2
      go_roundg (n - (k + 1))
      case measure => omega
      case rel => exact ⟨k + 1, by omega, by go_num, by omega, HBn.out _⟩
    · have e : n = k := by omega
      clear hgk hk
      subst e
      go_wp2
      go_ret
      exact ⟨rfl, HB.out⟩

set_option maxHeartbeats 4000000 in
set_option maxRecDepth 100000 in
theorem eqRp_same (a1 a2 : Option Addr) (c1 c2 : Nat) (l : List Rp) (n : Nat) (w : World) (hn : n = l.length) (h1 : RowG 3 cRp w a1 l) (h2 : RowG 3 cRp w a2 l) (hl : n ≤ 1000000) :
    Calls Try.prog 19 #[.slice a1 n c1, .slice a2 n c2] w fun e w' => e = .returned (.bool true) ∧ Below w.heap.size w w' := by
  have HN := Lib.hid hn
  have HR1 := Lib.hid h1
  have HR2 := Lib.hid h2
  clear hn h1 h2
  go_enter Try.func19, Try.ntmps19
  go_wp2
  go_loopg [5, 13] n (fun gk _ i wr => ∃ k : Nat, k ≤ n ∧ i = .int .i64 k ∧ n - k ≤ gk ∧ Hid (Below w.heap.size w wr))
  case atStart => exact ⟨0, Nat.zero_le _, rfl, by omega, Below.refl _ _⟩
  case round =>
    obtain ⟨k, hk, rfl, hgk, HB⟩ := hrel
    by_cases hlt : k < n
    · obtain ⟨x, hx⟩ : ∃ x, l[k]? = some x := ⟨_, List.getElem?_eq_getElem (by rw [← HN.out]; exact hlt)⟩
      obtain ⟨b1, off1, rfl⟩ := HR1.out.form (by rw [← HN.out]; omega)
      obtain ⟨b2, off2, rfl⟩ := HR2.out.form (by rw [← HN.out]; omega)
      obtain ⟨f0, f1, f2⟩ := cells3 (HR1.out.keep HB.out) hx
      obtain ⟨g0, g1, g2⟩ := cells3 (HR2.out.keep HB.out) hx
      obtain ⟨x0, x1, x2⟩ := x
      simp only at f0 f1 f2 g0 g1 g2
      have hkz : (0 : Int) ≤ (k : Int) := by omega
      have hkn : (k : Int) < (n : Int) := by omega
      have HBn : Hid (∀ z, Below w.heap.size w (wr.drewN z)) := fun z => drewN_below HB.out z
      clear hx
      go_wp2
      go_quiet (fail)
      go_wp2
      go_roundg (n - (k + 1))
      case measure => omega
      case rel => exact ⟨k + 1, by omega, by go_num, by omega, HBn.out _⟩
    · have e : n = k := by omega
      clear hgk hk
      subst e
      go_wp2
      go_ret
      exact ⟨rfl, HB.out⟩

set_option maxHeartbeats 4000000 in
set_option maxRecDepth 100000 in
theorem eqRRc_same (a1 a2 : Option Addr) (c1 c2 : Nat) (l : List Rc) (n : Nat) (w : World) (hn : n = l.length) (h1 : RowG 5 cRc w a1 l) (h2 : RowG 5 cRc w a2 l) (hl : n ≤ 1000000) :
    Calls Try.prog 12 #[.slice a1 n c1, .slice a2 n c2] w fun e w' => e = .returned (.bool true) ∧ Below w.heap.size w w' := by
  have HN := Lib.hid hn
  have HR1 := Lib.hid h1
  have HR2 := Lib.hid h2
  clear hn h1 h2
  go_enter Try.func12, Try.ntmps12
  go_wp2
  go_loopg [5, 13] n (fun gk _ i wr => ∃ k : Nat, k ≤ n ∧ i = .int .i64 k ∧ n - k ≤ gk ∧ Hid (Below w.heap.size w wr))
  case atStart => exact ⟨0, Nat.zero_le _, rfl, by omega, Below.refl _ _⟩
  case round =>
    obtain ⟨k, hk, rfl, hgk, HB⟩ := hrel
    by_cases hlt : k < n
    · obtain ⟨x, hx⟩ : ∃ x, l[k]? = some x := ⟨_, List.getElem?_eq_getElem (by rw [← HN.out]; exact hlt)⟩
      obtain ⟨b1, off1, rfl⟩ := HR1.out.form (by rw [← HN.out]; omega)
      obtain ⟨b2, off2, rfl⟩ := HR2.out.form (by rw [← HN.out]; omega)
      obtain ⟨f0, f1, f2, f3, f4⟩ := cells5 (HR1.out.keep HB.out) hx
      obtain ⟨g0, g1, g2, g3, g4⟩ := cells5 (HR2.out.keep HB.out) hx
      obtain ⟨x0, x1, x2, x3, x4⟩ := x
      simp only at f0 f1 f2 f3 f4 g0 g1 g2 g3 g4
      have hkz : (0 : Int) ≤ (k : Int) := by omega
      have hkn : (k : Int) < (n : Int) := by omega
      have HBn : Hid (∀ z, Below w.heap.size w (wr.drewN z)) := fun z => drewN_below HB.out z
      clear hx
      go_wp2
      go_quiet (fail)
      go_wp2
      go_roundg (n - (k + 1))
      case measure => omega
      case rel => exact ⟨k + 1, by omega, by go_num, by omega, HBn.out _⟩
    · have e : n = k := by omega
      clear hgk hk
      subst e
      go_wp2
      go_ret
      exact ⟨rfl, HB.out⟩

set_option maxHeartbeats 4000000 in
set_option maxRecDepth 100000 in
theorem eqRc_same (a1 a2 : Option Addr) (c1 c2 : Nat) (l : List Rc) (n : Nat) (w : World) (hn : n = l.length) (h1 : RowG 5 cRc w a1 l) (h2 : RowG 5 cRc w a2 l) (hl : n ≤ 1000000) :
    Calls Try.prog 16 #[.slice a1 n c1, .slice a2 n c2] w fun e w' => e = .returned (.bool true) ∧ Below w.heap.size w w' := by
  have HN := Lib.hid hn
  have HR1 := Lib.hid h1
  have HR2 := Lib.hid h2
  clear hn h1 h2
  go_enter Try.func16, Try.ntmps16
  go_wp2
  go_loopg [5, 13] n (fun gk _ i wr => ∃ k : Nat, k ≤ n ∧ i = .int .i64 k ∧ n - k ≤ gk ∧ Hid (Below w.heap.size w wr))
  case atStart => exact ⟨0, Nat.zero_le _, rfl, by omega, Below.refl _ _⟩
  case round =>
    obtain ⟨k, hk, rfl, hgk, HB⟩ := hrel
    by_cases hlt : k < n
    · obtain ⟨x, hx⟩ : ∃ x, l[k]? = some x := ⟨_, List.getElem?_eq_getElem (by rw [← HN.out]; exact hlt)⟩
      obtain ⟨b1, off1, rfl⟩ := HR1.out.form (by rw [← HN.out]; omega)
      obtain ⟨b2, off2, rfl⟩ := HR2.out.form (by rw [← HN.out]; omega)
      obtain ⟨f0, f1, f2, f3, f4⟩ := cells5 (HR1.out.keep HB.out) hx
      obtain ⟨g0, g1, g2, g3, g4⟩ := cells5 (HR2.out.keep HB.out) hx
      obtain ⟨x0, x1, x2, x3, x4⟩ := x
      simp only at f0 f1 f2 f3 f4 g0 g1 g2 g3 g4
      have hkz : (0 : Int) ≤ (k : Int) := by omega
      have hkn : (k : Int) < (n : Int) := by omega
      have HBn : Hid (∀ z, Below w.heap.size w (wr.drewN z)) := fun z => drewN_below HB.out z
      clear hx
      go_wp2
      go_quiet (fail)
      go_wp2
      go_roundg (n - (k + 1))
      case measure => omega
      case rel => exact ⟨k + 1, by omega, by go_num, by omega, HBn.out _⟩
    · have e : n = k := by omega
      clear hgk hk
      subst e
      go_wp2
      go_ret
      exact ⟨rfl, HB.out⟩

set_option maxHeartbeats 800000 in
theorem cloneRc_any (a : Option Addr) (c : Nat) (l : List Rc) (w : World) (hr : RowG 5 cRc w a l) (hl : l.length ≤ 1000000) :
    Calls Try.prog 25 #[.slice a l.length c] w (RowToC 5 cRc l w) := by
  have q22 : ∀ (w : World) (a : Option Addr) (n c n' c' : Nat), Sem.run Try.prog (binOp BinOp.eql 25 (Value.slice a n c) (Value.slice none n' c')) w = Result.ok (Value.bool a.isNone) w := fun w a n c n' c' => Lib.run_eql_slice_nil w _ _ a n c n' c' Try.underlying25
  cases a with
  | none =>
    have h0 : l = [] := by
      rcases Nat.eq_zero_or_pos l.length with h0 | h0
      · exact List.eq_nil_of_length_eq_zero h0
      · obtain ⟨b, off, e, _⟩ := hr h0; cases e
    subst h0
    unfold RowToC
    simp only [List.length_nil]
    clear hr hl
    go_enter Try.func25, Try.ntmps25
    go_wp2
    go_ret
    exact ⟨none, 0, rfl, RowG.nil _ _, (fun p hp => by cases hp), Below.refl _ _, Nat.le_refl _⟩
  | some ad =>
    obtain ⟨i0, hi, hzz⟩ := Option.map_eq_some_iff.1 infoRc
    simp only [Prod.mk.injEq] at hzz
    obtain ⟨hz0, hz1, hz2⟩ := hzz
    have hcells : ∀ j u, (l.flatMap cRc)[j]? = some u → (w.alloc (.cells #[] 58)).cell? (ad.add j) = some u := fun j u hj => by
      have h1 := hr.flat cRc_len j u hj
      have h2 := World.block_lt_of_cell? w _ h1
      rw [World.cell?_alloc_lt _ _ _ h2]
      exact h1
    have HC := Lib.hid hcells
    have HI := Lib.hid hi
    have HL : Hid ((l.flatMap cRc).length = l.length * 5) := flat_len cRc_len l
    have H1 : Hid (∀ u ∈ l.flatMap cRc, u.oneCell' = true) := rc_one
    have HFIN : Hid (∀ (w1 : World) (v : Value), w1.ownsRow w.heap.size 58 5 v l.length (l.flatMap cRc) → Below w.heap.size w w1 → RowToC 5 cRc l w (.returned v) w1) := fun w1 v ho hb => by
      obtain ⟨a2, c2, e1, e2, e3, e4⟩ := RowG.own cRc_len ho rfl
      exact ⟨a2, c2, by rw [e1], e2, e3, hb, e4⟩
    obtain ⟨L, hL⟩ : ∃ L, L = l.flatMap cRc := ⟨_, rfl⟩
    rw [← hL] at HC HL H1 HFIN
    obtain ⟨n, hn⟩ : ∃ n, n = l.length := ⟨_, rfl⟩
    rw [← hn] at HL hl HFIN ⊢
    clear hr hcells hi hL hn
    go_enter Try.func25, Try.ntmps25
    go_wp2_with (at_builtin; refine wpList_append_own _ rfl _ _ 25 rfl w.heap.size 58 i0 _ 5 64 Try.underlying25 HI.out hz0 hz1 hz2 rfl (by decide) _ _ _ rfl (World.ownsRow_made w #[] 0 (Nat.le_refl _) (Nat.zero_le _) rfl) ad n c L rfl HL.out HC.out H1.out (by unfold maxLen; omega) (by omega) (by simp) ?_)
    intro v' w1 hown hgrow _
    have HB : Hid (Below w.heap.size w w1) := ((Below.refl _ w).alloc (Nat.le_refl _) _).grown hgrow (by simp) (by intro k hk; simp [Value.ownBlock] at hk; omega)
    have HO : Hid (w1.ownsRow w.heap.size 58 5 v' n L) := by show World.ownsRow _ _ _ _ _ _ _; simpa using hown
    have HX := Lib.hid (HFIN.out w1 v' HO.out HB.out)
    clear hown hgrow HFIN
    go_wp2
    go_ret
    exact HX.out

set_option maxHeartbeats 800000 in
theorem records_nil (w : World) : Calls Try.prog 14 #[.pointer none] w fun e w' => e = .returned (.slice none 0 0) ∧ w = w' := by
  go_enter Try.func14, Try.ntmps14
  go_wp2
  go_ret
  exact ⟨rfl, rfl⟩

set_option maxHeartbeats 800000 in
theorem records_cap (B b : Nat) (L : List Rc) (Q : List Rp) (v1 v2 : Value) (w : World) (h : GateP 28 58 40 B w b L Q v1 v2) (hl : L.length ≤ 1000000) :
    Calls Try.prog 14 #[.pointer (some ⟨b, 0, none⟩)] w (RowToC 5 cRc L w) := by
  obtain ⟨a, cp, rfl, hrow⟩ := h.row1
  have c0 := h.cell0
  have H := Lib.hid (cloneRc_any a cp L w hrow hl)
  unfold RowToC at H ⊢
  obtain ⟨n, hn⟩ : ∃ n, n = L.length := ⟨_, rfl⟩
  rw [← hn] at H c0 ⊢
  clear hn hrow h hl
  go_enter Try.func14, Try.ntmps14
  go_wp2_with fail
  refine H.out.mono ?_
  rintro e w1 ⟨A, c, rfl, h1, h2, h3, h4⟩
  have HX := Lib.hid (And.intro h1 (And.intro h2 (And.intro h3 h4)))
  clear h1 h2 h3 h4 H
  go_wp2
  go_ret
  exact ⟨A, c, rfl, HX.out.1, HX.out.2.1, HX.out.2.2.1, HX.out.2.2.2⟩

theorem records_any (B b : Nat) (L : List Rc) (Q : List Rp) (v1 v2 : Value) (w : World) (h : GateP 28 58 40 B w b L Q v1 v2) (hl : L.length ≤ 1000000) :
    Calls Try.prog 14 #[.pointer (some ⟨b, 0, none⟩)] w (RowToG 5 cRc L w) :=
  (records_cap B b L Q v1 v2 w h hl).mono fun _ _ ⟨a, c, h1, h2, h3, h4, _⟩ => ⟨a, c, h1, h2, h3, h4⟩
end Go.Proofs.Ytkhkcpoadccflaa
