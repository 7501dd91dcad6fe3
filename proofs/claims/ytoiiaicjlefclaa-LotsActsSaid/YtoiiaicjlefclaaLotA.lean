/-
  Contracts of slices.Clone of lots, of either kind.
-/
import Derived.Test.YtoiiaicjlefclaaLotP
import Derived.Laws.AppendOwn
import Derived.Lib.SliceRun
namespace Go.Proofs.Ytoiiaicjlefclaa
open Go.RowKit Go.Deep

/-- a copy in a row of its own -/
def ClnP (t : TypeId) (l : List Lt) (w : World) (e : Ending) (w' : World) : Prop :=
  ∃ A c, e = .returned (.slice A l.length c) ∧ w'.ownsRow w.heap.size t 4 (.slice A l.length c) l.length (l.flatMap cLt) ∧ Below w.heap.size w w'

set_option maxHeartbeats 800000 in
theorem cloneLot_any (a : Option Addr) (c : Nat) (l : List Lt) (w : World) (hr : RowG 4 cLt w a l) (hl : l.length ≤ 1000000) :
    Calls Try.prog 20 #[.slice a l.length c] w (ClnP 30 l w) := by
  have q22 : ∀ (w : World) (a : Option Addr) (n c n' c' : Nat), Sem.run Try.prog (binOp BinOp.eql 25 (Value.slice a n c) (Value.slice none n' c')) w = Result.ok (Value.bool a.isNone) w := fun w a n c n' c' => Lib.run_eql_slice_nil w _ _ a n c n' c' Try.underlying25
  cases a with
  | none =>
    have h0 : l = [] := by
      rcases Nat.eq_zero_or_pos l.length with h0 | h0
      · exact List.eq_nil_of_length_eq_zero h0
      · obtain ⟨b, off, e, _⟩ := hr h0; cases e
    subst h0
    simp only [List.length_nil]
    clear hr hl
    go_enter Try.func20, Try.ntmps20
    go_wp2
    go_ret
    exact ⟨none, 0, rfl, World.ownsRow_nil _ _ _ _, Below.refl _ _⟩
  | some ad =>
    obtain ⟨i0, hi, hzz⟩ := Option.map_eq_some_iff.1 infoLot
    simp only [Prod.mk.injEq] at hzz
    obtain ⟨hz0, hz1, hz2⟩ := hzz
    have hcells : ∀ j u, (l.flatMap cLt)[j]? = some u → (w.alloc (.cells #[] 30)).cell? (ad.add j) = some u := fun j u hj => by
      have h1 := hr.flat cLt_len j u hj
      have h2 := World.block_lt_of_cell? w _ h1
      rw [World.cell?_alloc_lt _ _ _ h2]
      exact h1
    have HC := Lib.hid hcells
    have HI := Lib.hid hi
    have HL : Hid ((l.flatMap cLt).length = l.length * 4) := flat_len cLt_len l
    have H1 : Hid (∀ u ∈ l.flatMap cLt, u.oneCell' = true) := flat_one
    obtain ⟨L, hL⟩ : ∃ L, L = l.flatMap cLt := ⟨_, rfl⟩
    have HLE := Lib.hid hL
    rw [← hL] at HC HL H1
    unfold ClnP
    rw [← hL]
    obtain ⟨n, hn⟩ : ∃ n, n = l.length := ⟨_, rfl⟩
    rw [← hn] at HL hl ⊢
    clear hr hcells hi hL hn
    go_enter Try.func20, Try.ntmps20
    go_wp2_with (at_builtin; refine wpList_append_own _ rfl _ _ 25 rfl w.heap.size 30 i0 _ 4 48 Try.underlying25 HI.out hz0 hz1 hz2 rfl (by decide) _ _ _ rfl (World.ownsRow_made w #[] 0 (Nat.le_refl _) (Nat.zero_le _) rfl) ad n c L rfl HL.out HC.out H1.out (by unfold maxLen; omega) (by omega) (by simp) ?_)
    intro v' w1 hown hgrow _
    have HB : Hid (Below w.heap.size w w1) := ((Below.refl _ w).alloc (Nat.le_refl _) _).grown hgrow (by simp) (by intro k hk; simp [Value.ownBlock] at hk; omega)
    have HO := Lib.hid hown
    clear hown hgrow
    obtain ⟨A, c', rfl⟩ := own_sliceG HO.out
    go_wp2
    go_ret
    exact ⟨A, c', by first | rfl | simp, by first | exact HO.out | simpa using HO.out, HB.out⟩

set_option maxHeartbeats 800000 in
theorem cloneRLot_any (a : Option Addr) (c : Nat) (l : List Lt) (w : World) (hr : RowG 4 cLt w a l) (hl : l.length ≤ 1000000) :
    Calls Try.prog 12 #[.slice a l.length c] w (ClnP 37 l w) := by
  have q22 : ∀ (w : World) (a : Option Addr) (n c n' c' : Nat), Sem.run Try.prog (binOp BinOp.eql 28 (Value.slice a n c) (Value.slice none n' c')) w = Result.ok (Value.bool a.isNone) w := fun w a n c n' c' => Lib.run_eql_slice_nil w _ _ a n c n' c' Try.underlying28
  cases a with
  | none =>
    have h0 : l = [] := by
      rcases Nat.eq_zero_or_pos l.length with h0 | h0
      · exact List.eq_nil_of_length_eq_zero h0
      · obtain ⟨b, off, e, _⟩ := hr h0; cases e
    subst h0
    simp only [List.length_nil]
    clear hr hl
    go_enter Try.func12, Try.ntmps12
    go_wp2
    go_ret
    exact ⟨none, 0, rfl, World.ownsRow_nil _ _ _ _, Below.refl _ _⟩
  | some ad =>
    obtain ⟨i0, hi, hzz⟩ := Option.map_eq_some_iff.1 infoRLot
    simp only [Prod.mk.injEq] at hzz
    obtain ⟨hz0, hz1, hz2⟩ := hzz
    have hcells : ∀ j u, (l.flatMap cLt)[j]? = some u → (w.alloc (.cells #[] 37)).cell? (ad.add j) = some u := fun j u hj => by
      have h1 := hr.flat cLt_len j u hj
      have h2 := World.block_lt_of_cell? w _ h1
      rw [World.cell?_alloc_lt _ _ _ h2]
      exact h1
    have HC := Lib.hid hcells
    have HI := Lib.hid hi
    have HL : Hid ((l.flatMap cLt).length = l.length * 4) := flat_len cLt_len l
    have H1 : Hid (∀ u ∈ l.flatMap cLt, u.oneCell' = true) := flat_one
    obtain ⟨L, hL⟩ : ∃ L, L = l.flatMap cLt := ⟨_, rfl⟩
    have HLE := Lib.hid hL
    rw [← hL] at HC HL H1
    unfold ClnP
    rw [← hL]
    obtain ⟨n, hn⟩ : ∃ n, n = l.length := ⟨_, rfl⟩
    rw [← hn] at HL hl ⊢
    clear hr hcells hi hL hn
    go_enter Try.func12, Try.ntmps12
    go_wp2_with (at_builtin; refine wpList_append_own _ rfl _ _ 28 rfl w.heap.size 37 i0 _ 4 48 Try.underlying28 HI.out hz0 hz1 hz2 rfl (by decide) _ _ _ rfl (World.ownsRow_made w #[] 0 (Nat.le_refl _) (Nat.zero_le _) rfl) ad n c L rfl HL.out HC.out H1.out (by unfold maxLen; omega) (by omega) (by simp) ?_)
    intro v' w1 hown hgrow _
    have HB : Hid (Below w.heap.size w w1) := ((Below.refl _ w).alloc (Nat.le_refl _) _).grown hgrow (by simp) (by intro k hk; simp [Value.ownBlock] at hk; omega)
    have HO := Lib.hid hown
    clear hown hgrow
    obtain ⟨A, c', rfl⟩ := own_sliceG HO.out
    go_wp2
    go_ret
    exact ⟨A, c', by first | rfl | simp, by first | exact HO.out | simpa using HO.out, HB.out⟩
end Go.Proofs.Ytoiiaicjlefclaa
