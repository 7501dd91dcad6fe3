/-
  Contracts of slices.Clone of amounts, of souklaw13.lives.
-/
import Derived.Test.YtmnhjcfhgcineaaClC
import Derived.Test.YtmnhjcfhgcineaaHeap
import Derived.Laws.AppendOwn
import Derived.Lib.SliceRun
namespace Go.Proofs.Ytmnhjcfhgcineaa
open Go.RowKit Go.Deep

/-- amounts as values -/
def iv (zs : List Int) : List Value := zs.map (Value.int .i64)
theorem iv_length (zs : List Int) : (iv zs).length = zs.length := by simp [iv]
theorem iv_get {zs : List Int} {i : Nat} (h : i < zs.length) : (iv zs)[i]? = some (.int .i64 (zs.getD i 0)) := by
  unfold iv
  rw [List.getElem?_map, List.getD_eq_getElem?_getD, List.getElem?_eq_getElem h]; rfl

theorem addr_add (b o i : Nat) : (⟨b, o, none⟩ : Addr).add i = ⟨b, o + i, none⟩ := by
  unfold Addr.add
  by_cases e0 : i = 0
  · subst e0; rfl
  · simp [e0]

/-- a row of one's own reads as its amounts -/
theorem RowI.of_own {w : World} {base : Nat} {A : Option Addr} {n c : Nat} {zs : List Int} (h : w.ownsRow base 2 1 (.slice A n c) n (iv zs)) : RowI .i64 w A zs := fun hp => by
  have hl := h.1
  rw [iv_length] at hl
  obtain ⟨g, cap, hv, _, hlt⟩ := h.form (by omega)
  have hA : A = some ⟨g, 0, none⟩ := by injection hv
  subst hA
  refine ⟨g, 0, rfl, fun i hi => ?_⟩
  have := h.cells (g := g) rfl i _ (iv_get hi)
  rw [addr_add] at this
  exact this

/-- a copy -/
def ClnPost (zs : List Int) (w : World) (e : Ending) (w' : World) : Prop :=
  ∃ A c, e = .returned (.slice A zs.length c) ∧ w'.ownsRow w.heap.size 2 1 (.slice A zs.length c) zs.length (iv zs) ∧ Below w.heap.size w w'

theorem own_slice {w : World} {base n : Nat} {e : TypeId} {v : Value} {xs : List Value} (h : w.ownsRow base e 1 v n xs) : ∃ A c, v = .slice A n c := by
  rcases h.2 with ⟨rfl, rfl⟩ | ⟨g, cap, cur, rfl, _⟩
  · exact ⟨none, 0, rfl⟩
  · exact ⟨_, _, rfl⟩

set_option maxHeartbeats 800000 in
theorem clone_any (a : Option Addr) (c : Nat) (zs : List Int) (w : World) (hr : RowI .i64 w a zs) (hl : zs.length ≤ 1000000) :
    Calls Try.prog 7 #[.slice a zs.length c] w (ClnPost zs w) := by
  have q22 : ∀ (w : World) (a : Option Addr) (n c n' c' : Nat), Sem.run Try.prog (binOp BinOp.eql 22 (Value.slice a n c) (Value.slice none n' c')) w = Result.ok (Value.bool a.isNone) w := fun w a n c n' c' => Lib.run_eql_slice_nil w _ _ a n c n' c' Try.underlying22
  cases a with
  | none =>
    have h0 : zs = [] := by
      rcases Nat.eq_zero_or_pos zs.length with h0 | h0
      · exact List.eq_nil_of_length_eq_zero h0
      · obtain ⟨b, off, e, _⟩ := hr h0; cases e
    subst h0
    simp only [List.length_nil]
    clear hr hl
    go_enter Try.func7, Try.ntmps7
    go_wp2
    go_ret
    exact ⟨none, 0, rfl, World.ownsRow_nil _ _ _ _, Below.refl _ _⟩
  | some ad =>
    obtain ⟨i0, hi, hzz⟩ := Option.map_eq_some_iff.1 infoI64
    simp only [Prod.mk.injEq] at hzz
    obtain ⟨hz0, hz1, hz2⟩ := hzz
    have hcells : ∀ j u, (iv zs)[j]? = some u → (w.alloc (.cells #[] 2)).cell? (ad.add j) = some u := fun j u hj => by
      have hjl : j < zs.length := by have := (List.getElem?_eq_some_iff.1 hj).1; rw [iv_length] at this; exact this
      rw [iv_get hjl] at hj
      injection hj with hj
      obtain ⟨b, off, e, hc⟩ := hr (by omega)
      injection e with e
      subst e
      have h1 := hc j hjl
      rw [addr_add, World.cell?_alloc_lt _ _ _ (World.block_lt_of_cell? w _ h1), h1, hj]
    have HC := Lib.hid hcells
    have HI := Lib.hid hi
    have HL : Hid ((iv zs).length = zs.length * 1) := by show _ = _; rw [iv_length]; omega
    have H1 : Hid (∀ u ∈ iv zs, u.oneCell' = true) := fun u hu => by
      obtain ⟨z, _, rfl⟩ := List.mem_map.1 hu
      rfl
    obtain ⟨L, hL⟩ : ∃ L, L = iv zs := ⟨_, rfl⟩
    have HLE := Lib.hid hL
    rw [← hL] at HC HL H1
    unfold ClnPost
    rw [← hL]
    obtain ⟨n, hn⟩ : ∃ n, n = zs.length := ⟨_, rfl⟩
    rw [← hn] at HL hl ⊢
    clear hr hcells hi hL hn
    go_enter Try.func7, Try.ntmps7
    go_wp2_with (at_builtin; refine wpList_append_own _ rfl _ _ 22 rfl w.heap.size 2 i0 (.int .i64 0) 1 8 Try.underlying22 HI.out hz0 hz1 hz2 rfl (by decide) _ _ _ rfl (World.ownsRow_made w #[] 0 (Nat.le_refl _) (Nat.zero_le _) rfl) ad n c L rfl HL.out HC.out H1.out (by unfold maxLen; omega) (by omega) (by simp) ?_)
    intro v' w1 hown hgrow _
    have HB : Hid (Below w.heap.size w w1) := ((Below.refl _ w).alloc (Nat.le_refl _) _).grown hgrow (by simp) (by intro k hk; simp [Value.ownBlock] at hk; omega)
    have HO := Lib.hid hown
    clear hown hgrow
    obtain ⟨A, c', rfl⟩ := own_slice HO.out
    go_wp2
    go_ret
    exact ⟨A, c', rfl, HO.out, HB.out⟩

/-- two amounts in a new row -/
theorem row_two (w : World) (x y : Int) : RowI .i64 (w.alloc (.cells #[.int .i64 x, .int .i64 y] 2)) (some ⟨w.heap.size, 0, none⟩) [x, y] := fun _ =>
  ⟨w.heap.size, 0, rfl, fun i hi => by
    rw [(Blk.new w _ _).cell]
    match i, hi with
    | 0, _ => rfl
    | 1, _ => rfl⟩

theorem taken_lives {ps : List Int} (h : Taken [10, 30] 4 ps) : ps = [1, 3] := by
  obtain ⟨s, t, _, rfl⟩ := h
  have hl : leftN (4 : Int).toNat (wsS [10, 30]) (wN [10, 30]) 2 = 0 := by decide
  have p0 : partK (4 : Int).toNat (wsS [10, 30]) (wN [10, 30]) t 0 0 = 1 := by
    unfold partK; rw [if_neg (by omega)]; decide
  have p1 : partK (4 : Int).toNat (wsS [10, 30]) (wN [10, 30]) t 0 1 = 3 := by
    unfold partK; rw [if_neg (by omega)]; decide
  show [((partK (4 : Int).toNat (wsS [10, 30]) (wN [10, 30]) t (leftN (4 : Int).toNat (wsS [10, 30]) (wN [10, 30]) 2) 0 : Nat) : Int), ((partK (4 : Int).toNat (wsS [10, 30]) (wN [10, 30]) t (leftN (4 : Int).toNat (wsS [10, 30]) (wN [10, 30]) 2) 1 : Nat) : Int)] = [1, 3]
  rw [hl, p0, p1]
  rfl

theorem bel_on {B : Nat} {a b w : World} (h : Below B a b) (hs : B ≤ b.heap.size) (h2 : Below b.heap.size b w) : Below B a w := h.trans (h2.mono hs)

theorem take_lives (a : Option Addr) (w : World) (hr : RowI .i64 w a [10, 30]) :
    Calls Try.prog 8 #[.slice a 2 2, .int .i64 4] w fun e w' => ∃ g, e = .returned (.tuple #[.slice (some ⟨g, 0, none⟩) 2 2, .int .i64 0]) ∧ RowI .i64 w' (some ⟨g, 0, none⟩) [1, 3] ∧ Below w.heap.size w w' :=
  Calls.mono (take_yes 4 a 2 [10, 30] w hr (by decide) (by decide) (by decide)) fun e w' ⟨g, ps, he, _, ht, hrow, hb⟩ => ⟨g, he, by rw [← taken_lives ht]; exact hrow, hb⟩

set_option maxHeartbeats 800000 in
theorem lives13_any (w : World) : Calls Try.prog 6 #[] w fun e w' => e = .returned (.bool true) ∧ Below w.heap.size w w' := by
  have HT := Lib.hid (take_lives (some ⟨w.heap.size, 0, none⟩) (w.alloc (.cells #[.int .i64 10, .int .i64 30] 2)) (row_two w 10 30))
  have HB : Hid (Below w.heap.size w (w.alloc (.cells #[.int .i64 10, .int .i64 30] 2))) := (Below.refl _ w).alloc (Nat.le_refl _) _
  go_enter Try.func6, Try.ntmps6
  go_wp2_with fail
  refine HT.out.mono ?_
  rintro e w2 ⟨g, rfl, hrow, hb⟩
  have HB2 := Lib.hid (bel_on HB.out HB.out.size hb)
  have HEQ := Lib.hid (equal_any (some ⟨g, 0, none⟩) (some ⟨w2.heap.size, 0, none⟩) 2 2 [1, 3] [1, 3] (w2.alloc (.cells #[.int .i64 1, .int .i64 3] 2)) (hrow.keep ((Below.refl _ w2).alloc (Nat.le_refl _) _)) (row_two w2 1 3) (by decide))
  have HB3 : Hid (Below w.heap.size w (w2.alloc (.cells #[.int .i64 1, .int .i64 3] 2))) := HB2.out.alloc HB2.out.size _
  clear hrow hb HT HB
  go_wp2_with fail
  refine HEQ.out.mono ?_
  rintro e w3 ⟨rfl, m, rfl⟩
  go_wp2
  go_ret
  exact ⟨rfl, below_drewN HB3.out m⟩
end Go.Proofs.Ytmnhjcfhgcineaa
