/-
  Contract of souklaw01.lives: the chapter's example holds.
-/
import Derived.Test.YthhjlnbmomlhdaaSplitC
namespace Go.Proofs.Ythhjlnbmomlhdaa
open Go.RowKit Go.Deep

theorem below_drewN {B : Nat} {a w : World} (h : Below B a w) (n : Nat) : Below B a (w.drewN n) := ⟨h.os, h.tape, h.output, h.size, h.block⟩

theorem RowI.of_rowIs {k : IntKind} {w : World} {g : Nat} {t : TypeId} {zs : List Int} (h : w.rowIs g t zs.length (fun i => .int k (zs.getD i 0))) : RowI k w (some ⟨g, 0, none⟩) zs :=
  fun _ => ⟨g, 0, rfl, fun i hi => by rw [Nat.zero_add]; exact h.cell hi⟩

theorem RowI.keep {k : IntKind} {w w' : World} {a : Option Addr} {zs : List Int} (h : RowI k w a zs) (hb : Below w.heap.size w w') : RowI k w' a zs := fun hp => by
  obtain ⟨b, off, e, hc⟩ := h hp
  refine ⟨b, off, e, fun i hi => ?_⟩
  have h1 := hc i hi
  rw [hb.cell (p := ⟨b, off + i, none⟩) (World.block_lt_of_cell? w _ h1)]
  exact h1

theorem lives_order {s t : Nat → Nat} (h : Ordr 3 (fun i => (rf 10 3 (wN [1, 1, 1]) i : Int)) s t) (i : Nat) (hi : i < 3) : partK 10 3 (wN [1, 1, 1]) t (leftN 10 3 (wN [1, 1, 1]) 3) i = if i = 0 then 4 else 3 := by
  have k : ∀ i, i < 3 → rf 10 3 (wN [1, 1, 1]) i = 1 := by decide
  have b : ∀ p q, p < q → q < 3 → s p < s q := fun p q h1 h2 => by
    have hb := h.ordd p q (by omega) h1 h2
    unfold bef at hb
    have := k _ (h.lt p (by omega))
    have := k _ (h.lt q h2)
    simp only at hb
    omega
  have b1 := b 0 1 (by omega) (by omega)
  have b2 := b 1 2 (by omega) (by omega)
  have b3 := h.lt 2 (by omega)
  have e : ∀ p, p < 3 → s p = p := fun p hp => by
    match p, hp with
    | 0, _ => omega
    | 1, _ => omega
    | 2, _ => omega
  have et : t i = i := by have := h.ts i; rw [e i hi] at this; exact this
  unfold partK
  rw [et]
  have hl : leftN 10 3 (wN [1, 1, 1]) 3 = 1 := by decide
  rw [hl]
  match i, hi with
  | 0, _ => decide
  | 1, _ => decide
  | 2, _ => decide

def LivesPost (w : World) (e : Ending) (w' : World) : Prop := e = .returned (.bool true) ∧ Below w.heap.size w w'

set_option maxHeartbeats 800000 in
theorem lives_any (w : World) : Calls Try.prog 6 #[] w (LivesPost w) := by
  have hrow : (w.alloc (.cells #[.int .i64 1, .int .i64 1, .int .i64 1] 2)).rowIs w.heap.size 2 [(1 : Int), 1, 1].length (fun i => .int .i64 ([(1 : Int), 1, 1].getD i 0)) :=
    ⟨_, blk_alloc_new _ _, rfl, fun i hi => by
      match i, hi with
      | 0, _ => rfl
      | 1, _ => rfl
      | 2, _ => rfl⟩
  have H := Lib.hid (split_yes 10 3 w.heap.size 0 3 [1, 1, 1] (w.alloc (.cells #[.int .i64 1, .int .i64 1, .int .i64 1] 2)) (by decide) (by decide) (by decide) (by decide) (by decide)
    (fun i hi => by
      rw [Nat.zero_add, hrow.cell hi]
      match i, hi with
      | 0, _ => rfl
      | 1, _ => rfl
      | 2, _ => rfl) (by simp) (by decide) (by decide) (by decide) (RowI.of_rowIs hrow) (by decide) (sortOK_small (by decide))
    (fun i hi _ => by
      match i, hi with
      | 0, _ => exact div64_zero _ _ (by decide) (by decide)
      | 1, _ => exact div64_zero _ _ (by decide) (by decide)
      | 2, _ => exact div64_zero _ _ (by decide) (by decide)))
  clear hrow
  go_enter Try.func6, Try.ntmps6
  go_wp2_with fail
  refine H.out.mono ?_
  rintro e w' ⟨g, s, t, rfl, hg, ho, hr, hb⟩
  have hrow1 : (w'.alloc (.cells #[.int .i64 4, .int .i64 3, .int .i64 3] 2)).rowIs w'.heap.size 2 [(4 : Int), 3, 3].length (fun i => .int .i64 ([(4 : Int), 3, 3].getD i 0)) :=
    ⟨_, blk_alloc_new _ _, rfl, fun i hi => by
      match i, hi with
      | 0, _ => rfl
      | 1, _ => rfl
      | 2, _ => rfl⟩
  have hrow2 : (w'.alloc (.cells #[.int .i64 4, .int .i64 3, .int .i64 3] 2)).rowIs g 2 [(4 : Int), 3, 3].length (fun i => .int .i64 ([(4 : Int), 3, 3].getD i 0)) :=
    (hr.alloc _).congr fun i hi => by
      have e := lives_order ho i hi
      rw [show [(1 : Int), 1, 1].length = 3 from rfl, e]
      match i, hi with
      | 0, _ => rfl
      | 1, _ => rfl
      | 2, _ => rfl
  have HE := Lib.hid (equal_any (some ⟨g, 0, none⟩) (some ⟨w'.heap.size, 0, none⟩) 3 3 [4, 3, 3] [4, 3, 3] _ (RowI.of_rowIs hrow2) (RowI.of_rowIs hrow1) (by decide))
  have hbel : Below w.heap.size w (w'.alloc (.cells #[.int .i64 4, .int .i64 3, .int .i64 3] 2)) :=
    (((Below.refl _ _).alloc (Nat.le_refl _) _).trans (hb.mono (by simp))).alloc (by have := hb.size; simp at this; omega) _
  have HB := Lib.hid hbel
  clear hrow1 hrow2 hr ho hb hbel H hg
  go_wp2_with fail
  refine HE.out.mono ?_
  rintro e w2 ⟨rfl, m, rfl⟩
  go_wp2
  go_ret
  exact ⟨rfl, below_drewN HB.out m⟩
end Go.Proofs.Ythhjlnbmomlhdaa
