/-
  Contracts of slices.Clone of records, of gate.Records.
-/
import Derived.Test.YtdahgmkbpiklpaaGtC
import Derived.Laws.StructEq
import Derived.Laws.AppendOwn
import Derived.Lib.SliceRun
import Derived.BigQuiet
namespace Go.Proofs.Ytdahgmkbpiklpaa
open Go.RowKit Go.Deep

theorem take_flatZ {α : Type} {c : α → List Value} {l : List α} {k : Nat} {x : α} (h : l[k]? = some x) : (l.take (k + 1)).flatMap c = (l.take k).flatMap c ++ c x := by
  rw [take_at h]; simp

/-- a new row of them -/
def RowToG {α : Type} (z : Nat) (c : α → List Value) (l : List α) (w : World) (e : Ending) (w' : World) : Prop :=
  ∃ a cp, e = .returned (.slice a l.length cp) ∧ RowG z c w' a l ∧ (∀ p, a = some p → w.heap.size ≤ p.block) ∧ Below w.heap.size w w'
/-- the same, with its room -/
def RowToC {α : Type} (z : Nat) (c : α → List Value) (l : List α) (w : World) (e : Ending) (w' : World) : Prop :=
  ∃ a cp, e = .returned (.slice a l.length cp) ∧ RowG z c w' a l ∧ (∀ p, a = some p → w.heap.size ≤ p.block) ∧ Below w.heap.size w w' ∧ l.length ≤ cp

set_option maxHeartbeats 800000 in
theorem cloneRc_any (a : Option Addr) (c : Nat) (l : List Rc) (w : World) (hr : RowG 5 cRc w a l) (hl : l.length ≤ 1000000) :
    Calls Try.prog 26 #[.slice a l.length c] w (RowToC 5 cRc l w) := by
  have q22 : ∀ (w : World) (a : Option Addr) (n c n' c' : Nat), Sem.run Try.prog (binOp BinOp.eql 43 (Value.slice a n c) (Value.slice none n' c')) w = Result.ok (Value.bool a.isNone) w := fun w a n c n' c' => Lib.run_eql_slice_nil w _ _ a n c n' c' Try.underlying43
  cases a with
  | none =>
    have h0 : l = [] := by
      rcases Nat.eq_zero_or_pos l.length with h0 | h0
      · exact List.eq_nil_of_length_eq_zero h0
      · obtain ⟨b, off, e, _⟩ := hr h0; cases e
    subst h0
    unfold RowToC
    simp only [List.length_nil]
    clear hr hl
    go_enter Try.func26, Try.ntmps26
    go_wp2
    go_ret
    exact ⟨none, 0, rfl, RowG.nil _ _, (fun p hp => by cases hp), Below.refl _ _, Nat.le_refl _⟩
  | some ad =>
    obtain ⟨i0, hi, hzz⟩ := Option.map_eq_some_iff.1 infoRc
    simp only [Prod.mk.injEq] at hzz
    obtain ⟨hz0, hz1, hz2⟩ := hzz
    have hcells : ∀ j u, (l.flatMap cRc)[j]? = some u → (w.alloc (.cells #[] 63)).cell? (ad.add j) = some u := fun j u hj => by
      have h1 := hr.flat cRc_len j u hj
      have h2 := World.block_lt_of_cell? w _ h1
      rw [World.cell?_alloc_lt _ _ _ h2]
      exact h1
    have HC := Lib.hid hcells
    have HI := Lib.hid hi
    have HL : Hid ((l.flatMap cRc).length = l.length * 5) := flat_len cRc_len l
    have H1 : Hid (∀ u ∈ l.flatMap cRc, u.oneCell' = true) := rc_one
    have HFIN : Hid (∀ (w1 : World) (v : Value), w1.ownsRow w.heap.size 63 5 v l.length (l.flatMap cRc) → Below w.heap.size w w1 → RowToC 5 cRc l w (.returned v) w1) := fun w1 v ho hb => by
      obtain ⟨a2, c2, e1, e2, e3, e4⟩ := RowG.own cRc_len ho rfl
      exact ⟨a2, c2, by rw [e1], e2, e3, hb, e4⟩
    obtain ⟨L, hL⟩ : ∃ L, L = l.flatMap cRc := ⟨_, rfl⟩
    rw [← hL] at HC HL H1 HFIN
    obtain ⟨n, hn⟩ : ∃ n, n = l.length := ⟨_, rfl⟩
    rw [← hn] at HL hl HFIN ⊢
    clear hr hcells hi hL hn
    go_enter Try.func26, Try.ntmps26
    go_wp2_with (at_builtin; refine wpList_append_own _ rfl _ _ 43 rfl w.heap.size 63 i0 _ 5 64 Try.underlying43 HI.out hz0 hz1 hz2 rfl (by decide) _ _ _ rfl (World.ownsRow_made w #[] 0 (Nat.le_refl _) (Nat.zero_le _) rfl) ad n c L rfl HL.out HC.out H1.out (by unfold maxLen; omega) (by omega) (by simp) ?_)
    intro v' w1 hown hgrow _
    have HB : Hid (Below w.heap.size w w1) := ((Below.refl _ w).alloc (Nat.le_refl _) _).grown hgrow (by simp) (by intro k hk; simp [Value.ownBlock] at hk; omega)
    have HO : Hid (w1.ownsRow w.heap.size 63 5 v' n L) := by show World.ownsRow _ _ _ _ _ _ _; simpa using hown
    have HX := Lib.hid (HFIN.out w1 v' HO.out HB.out)
    clear hown hgrow HFIN
    go_wp2
    go_ret
    exact HX.out

set_option maxHeartbeats 800000 in
theorem records_nil (w : World) : Calls Try.prog 17 #[.pointer none] w fun e w' => e = .returned (.slice none 0 0) ∧ w = w' := by
  go_enter Try.func17, Try.ntmps17
  go_wp2
  go_ret
  exact ⟨rfl, rfl⟩

set_option maxHeartbeats 800000 in
theorem records_cap (B b : Nat) (L : List Rc) (Q : List Rp) (v1 v2 : Value) (w : World) (h : GateP 46 63 59 B w b L Q v1 v2) (hl : L.length ≤ 1000000) :
    Calls Try.prog 17 #[.pointer (some ⟨b, 0, none⟩)] w (RowToC 5 cRc L w) := by
  obtain ⟨a, cp, rfl, hrow⟩ := h.row1
  have c0 := h.cell0
  have H := Lib.hid (cloneRc_any a cp L w hrow hl)
  unfold RowToC at H ⊢
  obtain ⟨n, hn⟩ : ∃ n, n = L.length := ⟨_, rfl⟩
  rw [← hn] at H c0 ⊢
  clear hn hrow h hl
  go_enter Try.func17, Try.ntmps17
  go_wp2_with fail
  refine H.out.mono ?_
  rintro e w1 ⟨A, c, rfl, h1, h2, h3, h4⟩
  have HX := Lib.hid (And.intro h1 (And.intro h2 (And.intro h3 h4)))
  clear h1 h2 h3 h4 H
  go_wp2
  go_ret
  exact ⟨A, c, rfl, HX.out.1, HX.out.2.1, HX.out.2.2.1, HX.out.2.2.2⟩

theorem records_any (B b : Nat) (L : List Rc) (Q : List Rp) (v1 v2 : Value) (w : World) (h : GateP 46 63 59 B w b L Q v1 v2) (hl : L.length ≤ 1000000) :
    Calls Try.prog 17 #[.pointer (some ⟨b, 0, none⟩)] w (RowToG 5 cRc L w) :=
  (records_cap B b L Q v1 v2 w h hl).mono fun _ _ ⟨a, c, h1, h2, h3, h4, _⟩ => ⟨a, c, h1, h2, h3, h4⟩
end Go.Proofs.Ytdahgmkbpiklpaa
