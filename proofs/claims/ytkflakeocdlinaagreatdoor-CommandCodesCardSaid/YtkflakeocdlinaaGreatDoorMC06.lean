/-
  Rows of structs of any number of cells: one list of cells, rows of one's own, what steps keep of them.
-/
import Derived.Test.YtkflakeocdlinaaGreatDoorMC01
import Derived.Test.YtkflakeocdlinaaGreatDoorMC03
import Derived.WalkKit
import Derived.WalkLawsBesides
import Derived.WalkSpells
import Derived.Laws.IdiomStrings
import Derived.Outline
import Derived.Deep.LoopGhost
import Derived.Deep.QuietTactic
import Derived.BigQuiet
import Derived.RegionTactic
import Derived.Test.YtkflakeocdlinaaGreatDoorCmCMC
import Derived.Test.YtkflakeocdlinaaGreatDoorMC05
import Derived.Deep.CutRange
import Derived.BigRegion
namespace Go.Proofs.YtkflakeocdlinaaGreatDoor
open Go.RowKit

theorem take_at {α : Type} {l : List α} {k : Nat} {x : α} (h : l[k]? = some x) : l.take (k + 1) = l.take k ++ [x] := by
  obtain ⟨hlt, he⟩ := List.getElem?_eq_some_iff.1 h
  rw [List.take_succ_eq_append_getElem hlt, he]

theorem addr_add (b o i : Nat) : (⟨b, o, none⟩ : Addr).add i = ⟨b, o + i, none⟩ := by
  unfold Addr.add
  by_cases e0 : i = 0
  · subst e0; rfl
  · simp [e0]

theorem drewN_below {B : Nat} {a w : World} (h : Below B a w) (n : Nat) : Below B a (w.drewN n) := ⟨h.os, h.tape, h.output, h.size, h.block⟩

theorem flat_split {α : Type} {z : Nat} {c : α → List Value} (h4 : ∀ x, (c x).length = z) : ∀ (ss : List α) (j : Nat) (u : Value), (ss.flatMap c)[j]? = some u → ∃ i x r, ss[i]? = some x ∧ (c x)[r]? = some u ∧ j = i * z + r
  | [], j, u, h => by simp at h
  | y :: s, j, u, h => by
    rw [List.flatMap_cons] at h
    by_cases hj : j < (c y).length
    · rw [List.getElem?_append_left hj] at h
      exact ⟨0, y, j, rfl, h, by omega⟩
    · rw [List.getElem?_append_right (by omega)] at h
      obtain ⟨i, x, r, h1, h2, h3⟩ := flat_split h4 s _ u h
      refine ⟨i + 1, x, r, h1, h2, ?_⟩
      rw [h4] at h3 hj
      rw [Nat.succ_mul]; omega

theorem flat_len {α : Type} {z : Nat} {c : α → List Value} (h4 : ∀ x, (c x).length = z) : ∀ (ss : List α), (ss.flatMap c).length = ss.length * z
  | [] => by simp
  | y :: s => by rw [List.flatMap_cons, List.length_append, h4, flat_len h4 s, List.length_cons, Nat.succ_mul]; omega

/-- the cells of a row, one behind the other -/
theorem RowG.flat {α : Type} {z : Nat} {c : α → List Value} (h4 : ∀ x, (c x).length = z) {w : World} {ad : Addr} {xs : List α} (h : RowG z c w (some ad) xs) : ∀ j u, (xs.flatMap c)[j]? = some u → w.cell? (ad.add j) = some u := by
  intro j u hj
  obtain ⟨i, x, r, h1, h2, rfl⟩ := flat_split h4 xs j u hj
  have hlt := (List.getElem?_eq_some_iff.1 h1).1
  obtain ⟨b, off, e, hc⟩ := h (by omega)
  injection e with e
  subst e
  rw [addr_add, ← Nat.add_assoc]
  exact hc i x h1 r u h2

theorem own_sliceG {w : World} {base : Nat} {e : TypeId} {size : Nat} {v : Value} {n : Nat} {xs : List Value} (h : w.ownsRow base e size v n xs) : ∃ a c, v = .slice a n c := by
  rcases h.2 with ⟨hv, h0⟩ | ⟨g, cap, cur, hv, _⟩
  · exact ⟨none, 0, by rw [hv, h0]⟩
  · exact ⟨_, _, hv⟩
theorem own_blkG {w : World} {base : Nat} {e : TypeId} {size : Nat} {v : Value} {n : Nat} {xs : List Value} (h : w.ownsRow base e size v n xs) {k : Nat} (hk : v.ownBlock = some k) : ∃ cur, Blk w k e cur := by
  rcases h.2 with ⟨hv, h0⟩ | ⟨g, cap, cur, hv, _, hg, _⟩
  · rw [hv] at hk; cases hk
  · rw [hv] at hk
    injection hk with hk
    subst hk
    exact ⟨cur, hg⟩
theorem own_baseG {w : World} {B B' n z : Nat} {e : TypeId} {v : Value} {xs : List Value} (h : w.ownsRow B' e z v n xs) (hb : B ≤ B') : w.ownsRow B e z v n xs := by
  refine ⟨h.1, ?_⟩
  rcases h.2 with h1 | ⟨g, cap, cur, h1, h2, h3⟩
  · exact .inl h1
  · exact .inr ⟨g, cap, cur, h1, Nat.le_trans hb h2, h3⟩
theorem own_keepG {w w' : World} {B : Nat} {e : TypeId} {z : Nat} {v : Value} {n : Nat} {xs : List Value} (h : w.ownsRow B e z v n xs) (hb : Below w.heap.size w w') : w'.ownsRow B e z v n xs :=
  own_stp h (Stp.of_below (fp := []) hb) (fun _ _ hk => by cases hk)

theorem RowG.stp {α : Type} {z : Nat} {c : α → List Value} {fp : List Nat} {w w' : World} {a : Option Addr} {xs : List α} (h : RowG z c w a xs) (hs : Stp fp w w') (hn : ∀ p, a = some p → p.block ∉ fp) : RowG z c w' a xs := by
  intro h0
  obtain ⟨b, off, e, hc⟩ := h h0
  refine ⟨b, off, e, fun i x hx j u hu => ?_⟩
  have q := hc i x hx j u hu
  have hb := hs.block b (World.block_lt_of_cell? w _ q) (hn _ e)
  simp only [World.cell?, hb]
  exact q

theorem st_empty {p : List UInt8} (h : p.length = 0) : (st p).toList.isEmpty = true := by
  rw [Go.Lib.toList_data, st_toList, List.eq_nil_of_length_eq_zero h]; rfl
theorem st_full {p : List UInt8} (h : p.length ≠ 0) : (st p).toList.isEmpty = false := by
  rw [Go.Lib.toList_data, st_toList]
  cases p with
  | nil => exact absurd rfl h
  | cons x r => rfl
end Go.Proofs.YtkflakeocdlinaaGreatDoor
/-
  Contract of command.Right.
-/
namespace Go.Proofs.YtkflakeocdlinaaGreatDoor
open Go.RowKit Go.Deep Go.Lib

theorem Blk.put7 {w : World} {b : Nat} {t : TypeId} {a0 a1 a2 a3 a4 a5 a6 : Value} (h : Blk w b t #[a0, a1, a2, a3, a4, a5, a6]) (v0 v1 v2 v3 v4 v5 v6 : Value) :
    Blk (((((((w.setCell ⟨b, 0, none⟩ v0).setCell ⟨b, 1, none⟩ v1).setCell ⟨b, 2, none⟩ v2).setCell ⟨b, 3, none⟩ v3).setCell ⟨b, 4, none⟩ v4).setCell ⟨b, 5, none⟩ v5).setCell ⟨b, 6, none⟩ v6) b t #[v0, v1, v2, v3, v4, v5, v6] := by
  have h0 := h.set 0 v0
  have h1 := h0.set 1 v1
  have h2 := h1.set 2 v2
  have h3 := h2.set 3 v3
  have h4 := h3.set 4 v4
  have h5 := h4.set 5 v5
  have h6 := h5.set 6 v6
  simp only [List.setIfInBounds_toArray, List.set_cons_zero, List.set_cons_succ] at h6
  exact h6
theorem put7_stp (wr : World) (b : Nat) (x0 x1 x2 x3 x4 x5 x6 : Value) : Stp [b] wr (((((((wr.setCell ⟨b, 0, none⟩ x0).setCell ⟨b, 1, none⟩ x1).setCell ⟨b, 2, none⟩ x2).setCell ⟨b, 3, none⟩ x3).setCell ⟨b, 4, none⟩ x4).setCell ⟨b, 5, none⟩ x5).setCell ⟨b, 6, none⟩ x6) := by
  repeat refine Stp.setCell ?_ (.inl (by simp)) _
  exact Stp.refl _ _
theorem RowF.stpF {w w' : World} {g b : Nat} {f : List Nat} (h : RowF w g f) (hs : Stp [b] w w') (hn : g ≠ b) : RowF w' g f := h.stp hs (by simpa using hn)

theorem all_takeF {p : Nat → Bool} {l : List Nat} {k x : Nat} (h : (l.take k).all p = true) (hx : l[k]? = some x) (hp : p x = true) : (l.take (k + 1)).all p = true := by
  obtain ⟨h1, h2⟩ := List.getElem?_eq_some_iff.1 hx
  rw [List.take_succ_eq_append_getElem h1, List.all_append, h, h2]
  simp [hp]
theorem foldl_takeF {α : Type} {g : α → Nat → α} {l : List Nat} {k x : Nat} {c0 c : α} (h : (l.take k).foldl g c0 = c) (hx : l[k]? = some x) : (l.take (k + 1)).foldl g c0 = g c x := by
  obtain ⟨h1, h2⟩ := List.getElem?_eq_some_iff.1 hx
  rw [List.take_succ_eq_append_getElem h1, h2, List.foldl_append, h]; rfl
theorem all_notF {p : Nat → Bool} {l : List Nat} {k x : Nat} (hx : l[k]? = some x) (hp : p x = false) : l.all p = false := by
  rw [List.all_eq_false]
  exact ⟨x, List.mem_of_getElem? hx, by rw [hp]; simp⟩
theorem formC_le {k : List UInt8} {f : List Nat} (h : formC k = some f) : f.length ≤ 5 ∧ ∀ x ∈ f, x ≤ 8 := by
  rcases formC_nine k with ⟨e, h2⟩ | ⟨e, h2⟩ | ⟨e, h2⟩ | ⟨e, h2⟩ | ⟨e, h2⟩ | ⟨e, h2⟩ | ⟨e, h2⟩ | ⟨e, h2⟩ | ⟨h2, _⟩ <;> rw [h2] at h <;> first | cases h; done | (injection h with h; subst h; decide)

set_option maxHeartbeats 1600000 in
theorem right18_none (k i b u t : List UInt8) (m : Int) (a : Option Addr) (cp : Nat) (xs : List Sh) (w : World) (hk : k.length ≤ maxLen) (hf : formC k = none) :
    Calls Tryz.prog 8 #[.agg #[.string (st k), .string (st i), .string (st b), .string (st u), .string (st t), .int .i64 m, .slice a xs.length cp]] w fun e w' => e = .returned (.int .i64 1) ∧ Below w.heap.size w w' := by
  have HBX : Hid (Blk (w.alloc (.cells #[.string (st k), .string (st i), .string (st b), .string (st u), .string (st t), .int .i64 m, .slice a xs.length cp] 24)) w.heap.size 24 #[.string (st k), .string (st i), .string (st b), .string (st u), .string (st t), .int .i64 m, .slice a xs.length cp]) := Blk.new w _ _
  have HB0 : Hid (Below w.heap.size w (w.alloc (.cells #[.string (st k), .string (st i), .string (st b), .string (st u), .string (st t), .int .i64 m, .slice a xs.length cp] 24))) := (Below.refl _ w).alloc (Nat.le_refl _) _
  go_enter Tryz.func8, Tryz.ntmps8
  go_upto_region 1 with fail
  obtain ⟨bx, hbx⟩ : ∃ bx, bx = w.heap.size := ⟨_, rfl⟩
  rw [← hbx] at HBX HB0 ⊢
  generalize w.alloc (.cells #[.string (st k), .string (st i), .string (st b), .string (st u), .string (st t), .int .i64 m, .slice a xs.length cp] 24) = w0 at HBX HB0 ⊢
  have hsz : bx ≤ w0.heap.size := Nat.le_of_lt HBX.out.lt
  have HE := Lib.hid hbx
  clear hbx
  have HF : ∀ W, Hid (Blk W bx 24 #[.string (st k), .string (st i), .string (st b), .string (st u), .string (st t), .int .i64 m, .slice a xs.length cp] → Calls Tryz.prog 18 #[] W fun e w' => ∃ mm, e = .returned (.map (some mm)) ∧ (Instr.lookup 42 (.map (some mm)) (.string (st k)) true).run Tryz.prog w' = .ok (.tuple #[.slice none 0 0, .bool false]) w' ∧ Blk w' bx 24 #[.string (st k), .string (st i), .string (st b), .string (st u), .string (st t), .int .i64 m, .slice a xs.length cp] ∧ Below W.heap.size W w') := fun W hW => by
    refine (cforms_none hf hk true W).mono ?_
    rintro e w' ⟨mm, rfl, hl, hb⟩
    exact ⟨mm, rfl, hl, hW.since hb, hb⟩
  obtain ⟨d0, d1, d2, d3, d4, d5, d6⟩ := cell_seven HBX.out
  clear hf hk
  go_cut [3, 4] from 8 to 14 (fun v3 v4 wx => v4 = .bool false ∧ Hid (Below bx w wx))
  case first =>
    go_region_with (first | (go_at_call 18; refine ((HF _).out (by exact HBX.out)).mono ?_; rintro e w1 ⟨mm, rfl, hrun, hbk, hb⟩; have HB1 : Hid (Below bx w w1) := HB0.out.trans (bel_lessG (show Below w0.heap.size w0 w1 from ⟨hb.os, hb.tape, hb.output, hb.size, hb.block⟩) hsz); have c0 := (cell_seven hbk).1; clear hb) | fail)
    all_goals (go_wp2; go_meet; exact ⟨rfl, HB1.out⟩)
  case rest =>
    obtain ⟨rfl, HB1⟩ := hcut
    go_wp2
    go_ret
    exact ⟨rfl, by rw [← HE.out]; exact HB1.out⟩
/-- nothing is wrong with the fields -/
theorem rightC_of {c : Cm} {f : List Nat} (h : formC c.kind = some f) : rightC c = if f.all (isR c) = true then (if bareB (f.foldl woF c) = true then (if f.contains 8 = true then rgF c.sh else 0) else 1) else 1 := by
  unfold rightC; rw [h]
theorem woF_kind (c : Cm) (x : Nat) : (woF c x).kind = c.kind := by
  unfold woF; split <;> rfl

set_option maxHeartbeats 6400000 in
set_option maxRecDepth 100000 in
theorem right18_some (k i b u t : List UInt8) (m : Int) (a : Option Addr) (cp : Nat) (xs : List Sh) (f : List Nat) (w : World) (hk : k.length ≤ maxLen) (hf : formC k = some f)
    (hr : RowG 2 cSh w a xs) (hc : xs.length ≤ cp) (hl : xs.length ≤ 4611686018427387904) (R : Int) (hR : R = rightC ⟨k, i, b, u, t, m, xs⟩) :
    Calls Tryz.prog 8 #[.agg #[.string (st k), .string (st i), .string (st b), .string (st u), .string (st t), .int .i64 m, .slice a xs.length cp]] w fun e w' => e = .returned (.int .i64 R) ∧ Below w.heap.size w w' := by
  have HBX : Hid (Blk (w.alloc (.cells #[.string (st k), .string (st i), .string (st b), .string (st u), .string (st t), .int .i64 m, .slice a xs.length cp] 24)) w.heap.size 24 #[.string (st k), .string (st i), .string (st b), .string (st u), .string (st t), .int .i64 m, .slice a xs.length cp]) := Blk.new w _ _
  have HB0 : Hid (Below w.heap.size w (w.alloc (.cells #[.string (st k), .string (st i), .string (st b), .string (st u), .string (st t), .int .i64 m, .slice a xs.length cp] 24))) := (Below.refl _ w).alloc (Nat.le_refl _) _
  have HR := Lib.hid hr
  have HFL := Lib.hid (formC_le hf)
  rw [rightC_of hf] at hR
  have HRV := Lib.hid hR
  have HFF := Lib.hid hf
  have HKL := Lib.hid hk
  obtain ⟨n, hn⟩ : ∃ n, n = xs.length := ⟨_, rfl⟩
  have HN := Lib.hid hn
  have HNC : Hid (n ≤ cp) := by rw [hn]; exact hc
  have HNL : Hid (n ≤ 4611686018427387904) := by rw [hn]; exact hl
  rw [← hn] at HBX HB0 ⊢
  obtain ⟨fl, hfl⟩ : ∃ fl, fl = f.length := ⟨_, rfl⟩
  have HFN := Lib.hid hfl
  clear hn hr hc hl hR hf hk
  go_enter Tryz.func8, Tryz.ntmps8
  go_upto_region 1 with fail
  obtain ⟨bx, hbx⟩ : ∃ bx, bx = w.heap.size := ⟨_, rfl⟩
  have HE := Lib.hid hbx
  rw [← hbx] at HBX HB0 ⊢
  generalize w.alloc (.cells #[.string (st k), .string (st i), .string (st b), .string (st u), .string (st t), .int .i64 m, .slice a n cp] 24) = w0 at HBX HB0 ⊢
  have hsz : bx ≤ w0.heap.size := Nat.le_of_lt HBX.out.lt
  clear hbx
  have HF : ∀ W, Hid (Blk W bx 24 #[.string (st k), .string (st i), .string (st b), .string (st u), .string (st t), .int .i64 m, .slice a n cp] → Calls Tryz.prog 18 #[] W fun e w' => ∃ mm g, e = .returned (.map (some mm)) ∧ (Instr.lookup 42 (.map (some mm)) (.string (st k)) true).run Tryz.prog w' = .ok (.tuple #[.slice (some ⟨g, 0, none⟩) fl fl, .bool true]) w' ∧ RowF w' g f ∧ Blk w' bx 24 #[.string (st k), .string (st i), .string (st b), .string (st u), .string (st t), .int .i64 m, .slice a n cp] ∧ Below W.heap.size W w') := fun W hW => by
    refine (cforms_some HFF.out HKL.out true W).mono ?_
    rintro e w' ⟨mm, g, rfl, hl, hrw, hb⟩
    rw [← hfl] at hl
    exact ⟨mm, g, rfl, hl, hrw, hW.since hb, hb⟩
  obtain ⟨d0, d1, d2, d3, d4, d5, d6⟩ := cell_seven HBX.out
  clear hfl
  go_cut [3, 4] from 8 to 14 (fun v3 v4 wx => ∃ g, v3 = .slice (some ⟨g, 0, none⟩) fl fl ∧ v4 = .bool true ∧ Hid (RowF wx g f) ∧ Hid (Blk wx bx 24 #[.string (st k), .string (st i), .string (st b), .string (st u), .string (st t), .int .i64 m, .slice a n cp]) ∧ Hid (Below bx w wx))
  case first =>
    go_region_with (first | (go_at_call 18; refine ((HF _).out (by exact HBX.out)).mono ?_; rintro e w1 ⟨mm, g, rfl, hrun, hrow, hbk, hb⟩; have HB1 : Hid (Below bx w w1) := HB0.out.trans (bel_lessG (show Below w0.heap.size w0 w1 from ⟨hb.os, hb.tape, hb.output, hb.size, hb.block⟩) hsz); have c0 := (cell_seven hbk).1; have HBK := Lib.hid hbk; have HRW := Lib.hid hrow; clear hb hbk hrow) | fail)
    all_goals (go_wp2; go_meet; exact ⟨g, rfl, rfl, HRW.out, HBK.out, HB1.out⟩)
  case rest =>
    obtain ⟨g, rfl, rfl, HRW, HBK, HB1⟩ := hcut
    clear HF HBX d0 d1 d2 d3 d4 d5 d6 hsz HB0
    obtain ⟨d0, d1, d2, d3, d4, d5, d6⟩ := cell_seven HBK.out
    obtain ⟨w1, hw1⟩ : ∃ w1, w1 = wc := ⟨_, rfl⟩
    subst hw1
    go_upto_region 5 with fail
    have hlt := HBK.out.lt
    obtain ⟨b5, hb5⟩ : ∃ b5, b5 = w1.heap.size := ⟨_, rfl⟩
    have HB5 : Hid (Blk (w1.alloc (.cells #[.string (st k), .string (st i), .string (st b), .string (st u), .string (st t), .int .i64 m, .slice a n cp] 24)) b5 24 #[.string (st k), .string (st i), .string (st b), .string (st u), .string (st t), .int .i64 m, .slice a n cp]) := by rw [hb5]; exact Blk.new w1 _ _
    have HBK2 : Hid (Blk (w1.alloc (.cells #[.string (st k), .string (st i), .string (st b), .string (st u), .string (st t), .int .i64 m, .slice a n cp] 24)) bx 24 #[.string (st k), .string (st i), .string (st b), .string (st u), .string (st t), .int .i64 m, .slice a n cp]) := HBK.out.alloc _
    have HNE : Hid (bx ≠ b5) := by show _ ≠ _; omega
    have HGB : Hid (g ≠ b5) := by have := HRW.out.lt; show _ ≠ _; omega
    have HRW2 : Hid (RowF (w1.alloc (.cells #[.string (st k), .string (st i), .string (st b), .string (st u), .string (st t), .int .i64 m, .slice a n cp] 24)) g f) := HRW.out.keep ((Below.refl _ w1).alloc (Nat.le_refl _) _)
    have HB2 : Hid (Below bx w (w1.alloc (.cells #[.string (st k), .string (st i), .string (st b), .string (st u), .string (st t), .int .i64 m, .slice a n cp] 24))) := HB1.out.alloc (by omega) _
    have HB5X : Hid (bx ≤ b5) := by show _ ≤ _; omega
    rw [← hb5]
    generalize w1.alloc (.cells #[.string (st k), .string (st i), .string (st b), .string (st u), .string (st t), .int .i64 m, .slice a n cp] 24) = w2 at HB5 HBK2 HRW2 HB2 ⊢
    clear hb5 hlt d0 d1 d2 d3 d4 d5 d6 HBK HRW HB1
    have HBW : Hid (∀ W, Stp [b5] w2 W → Below bx w W) := fun W hs => HB2.out.trans (hs.below (fun kk hk => by rw [List.mem_singleton] at hk; rw [hk]; exact HB5X.out) (Nat.le_trans HB5X.out (Nat.le_of_lt HB5.out.lt)))
    have HRX : Hid (∀ W, Stp [b5] w2 W → RowG 2 cSh W a xs) := fun W hs => HR.out.keep (by rw [← HE.out]; exact HBW.out W hs)
    have HFC : Hid (∀ W, Stp [b5] w2 W → RowF W g f) := fun W hs => HRW2.out.stpF hs HGB.out
    clear HRW2 HB2
    have hfl5 : fl ≤ 5 := by rw [HFN.out]; exact HFL.out.1
    go_wp2
    go_loopg [7, 20] fl (fun gk _ ix wr => ∃ (j : Nat) (k2 i2 b2 u2 t2 : List UInt8) (m2 : Int) (xs2 : List Sh) (aa : Option Addr) (cc : Nat), j ≤ fl ∧ ix = .int .i64 j ∧ fl - j ≤ gk ∧ Hid ((f.take j).all (isR ⟨k, i, b, u, t, m, xs⟩) = true) ∧ Hid ((f.take j).foldl woF ⟨k, i, b, u, t, m, xs⟩ = ⟨k2, i2, b2, u2, t2, m2, xs2⟩) ∧ Hid (Blk wr b5 24 #[.string (st k2), .string (st i2), .string (st b2), .string (st u2), .string (st t2), .int .i64 m2, .slice aa xs2.length cc]) ∧ Hid (Stp [b5] w2 wr))
    case atStart => exact ⟨0, k, i, b, u, t, m, xs, a, cp, Nat.zero_le _, rfl, by omega, rfl, rfl, by rw [← HN.out]; exact HB5.out, Stp.refl _ _⟩
    case round =>
      obtain ⟨j, k2, i2, b2, u2, t2, m2, xs2, aa, cc, hj, rfl, hgk, HAL, HFO, HBM, HS⟩ := hrel
      have HBKr : Hid (Blk wr bx 24 #[.string (st k), .string (st i), .string (st b), .string (st u), .string (st t), .int .i64 m, .slice a n cp]) := HBK2.out.stp HS.out (by simpa using HNE.out)
      have hrow := HRX.out wr HS.out
      by_cases hlt : j < fl
      · obtain ⟨x, hx⟩ : ∃ x, f[j]? = some x := ⟨_, List.getElem?_eq_getElem (by rw [← HFN.out]; exact hlt)⟩
        have hx8 : x ≤ 8 := HFL.out.2 x (List.mem_of_getElem? hx)
        have c0 := (HFC.out wr HS.out).get hx
        have HC := Lib.hid (isRight_any ⟨k, i, b, u, t, m, xs⟩ x a cp wr hx8 hrow (by rw [← HN.out]; exact HNL.out))
        simp only at HC
        rw [← HN.out] at HC
        have HX := Lib.hid hx
        have HX8 := Lib.hid hx8
        have hjz : (0 : Int) ≤ (j : Int) := by omega
        have hjn : (j : Int) < (fl : Int) := by omega
        obtain ⟨e0, e1, e2, e3, e4, e5, e6⟩ := cell_seven HBKr.out
        cases hb : isR ⟨k, i, b, u, t, m, xs⟩ x with
        | false =>
          rw [hb] at HC
          have HV : Hid (R = 1) := by show _ = _; rw [HRV.out, all_notF hx hb]; rfl
          have HBL := Lib.hid (HBW.out wr HS.out)
          have hszr : bx ≤ wr.heap.size := Nat.le_of_lt HBKr.out.lt
          clear hb hx hx8 hrow HBM HFO HAL HBKr
          go_wp2_with fail
          refine HC.out.mono ?_
          rintro e w3 ⟨rfl, hb⟩
          have HB3 : Hid (Below bx w w3) := HBL.out.trans (bel_lessG hb hszr)
          clear hb
          go_wp2
          go_ret
          exact ⟨by rw [HV.out]; first | done | rfl, by rw [← HE.out]; exact HB3.out⟩
        | true =>
          rw [hb] at HC
          obtain ⟨M3, hM3⟩ : ∃ M3, M3 = woF ⟨k2, i2, b2, u2, t2, m2, xs2⟩ x := ⟨_, rfl⟩
          have HAL2 : Hid ((f.take (j + 1)).all (isR ⟨k, i, b, u, t, m, xs⟩) = true) := all_takeF HAL.out hx hb
          have HFO2 : Hid ((f.take (j + 1)).foldl woF ⟨k, i, b, u, t, m, xs⟩ = M3) := by show _ = _; rw [foldl_takeF HFO.out hx, hM3]
          obtain ⟨a3, ha3⟩ : ∃ a3 : Option Addr, a3 = if x = 8 then none else aa := ⟨_, rfl⟩
          obtain ⟨cp3, hcp3⟩ : ∃ cp3 : Nat, cp3 = if x = 8 then 0 else cc := ⟨_, rfl⟩
          have HW : ∀ W, Hid (Calls Tryz.prog 20 #[.agg #[.string (st k2), .string (st i2), .string (st b2), .string (st u2), .string (st t2), .int .i64 m2, .slice aa xs2.length cc], .int .i64 (x : Int)] W fun e w' => e = .returned (.agg #[.string (st M3.kind), .string (st M3.id), .string (st M3.about), .string (st M3.cur), .string (st M3.cat), .int .i64 M3.amt, .slice a3 M3.sh.length cp3]) ∧ Below W.heap.size W w') := fun W => by
            have h := without_any ⟨k2, i2, b2, u2, t2, m2, xs2⟩ x aa cc W HX8.out
            unfold WoPost at h
            rw [← hM3, ← ha3, ← hcp3] at h
            exact h
          obtain ⟨k3, i3, b3, u3, t3, m3, xs3⟩ := M3
          simp only at HW
          obtain ⟨n2, hn2⟩ : ∃ n2, n2 = xs2.length := ⟨_, rfl⟩
          rw [← hn2] at HW HBM
          obtain ⟨n3, hn3⟩ : ∃ n3, n3 = xs3.length := ⟨_, rfl⟩
          have HN3 := Lib.hid hn3
          simp only [← hn3] at HW
          clear hb hx hx8 hrow HAL HFO hM3 ha3 hcp3 hn2 hn3
          go_wp2_with fail
          refine HC.out.mono ?_
          rintro e w3 ⟨rfl, hb⟩
          have HBM3 := Lib.hid (HBM.out.since hb)
          have HS3 : Hid (Stp [b5] w2 w3) := HS.out.trans (Stp.of_below (fp := []) hb) (fun _ hk => by cases hk)
          clear hb e0 e1 e2 e3 e4 e5 e6 HBM HBKr HS HC
          obtain ⟨e0, e1, e2, e3, e4, e5, e6⟩ := cell_seven HBM3.out
          go_wp2_with fail
          refine (HW _).out.mono ?_
          rintro e w4 ⟨rfl, hb⟩
          have HBM4 := Lib.hid (HBM3.out.since hb)
          have HS4 : Hid (Stp [b5] w2 w4) := HS3.out.trans (Stp.of_below (fp := []) hb) (fun _ hk => by cases hk)
          have HP5 := Lib.hid (Blk.put7 HBM4.out (.string (st k3)) (.string (st i3)) (.string (st b3)) (.string (st u3)) (.string (st t3)) (.int .i64 m3) (.slice a3 n3 cp3))
          have HS5 := Lib.hid (HS4.out.trans (put7_stp w4 b5 (.string (st k3)) (.string (st i3)) (.string (st b3)) (.string (st u3)) (.string (st t3)) (.int .i64 m3) (.slice a3 n3 cp3)) (fun _ hk => .inl hk))
          clear hb e0 e1 e2 e3 e4 e5 e6 HBM3 HS3 HW
          obtain ⟨e0, e1, e2, e3, e4, e5, e6⟩ := cell_seven HBM4.out
          have f0 := HBM4.out.frozen 0
          have f1 := HBM4.out.frozen 1
          have f2 := HBM4.out.frozen 2
          have f3 := HBM4.out.frozen 3
          have f4 := HBM4.out.frozen 4
          have f5 := HBM4.out.frozen 5
          have f6 := HBM4.out.frozen 6
          go_wp2
          go_roundg (fl - (j + 1))
          case measure => omega
          case rel => exact ⟨j + 1, k3, i3, b3, u3, t3, m3, xs3, a3, cp3, by omega, by go_num, by omega, HAL2.out, HFO2.out, by rw [← HN3.out]; exact HP5.out, HS5.out⟩
      · have hjn : ¬ ((j : Int) < (fl : Int)) := by omega
        have HJF : Hid (f.take j = f) := List.take_of_length_le (by rw [← HFN.out]; omega)
        have HV : Hid (R = if bareB ⟨k2, i2, b2, u2, t2, m2, xs2⟩ = true then (if f.contains 8 = true then rgF xs else 0) else 1) := by
          show _ = _
          have h1 := HAL.out
          have h2 := HFO.out
          rw [HJF.out] at h1 h2
          rw [HRV.out, if_pos h1, h2]
        have HC := Lib.hid (isBare_any ⟨k2, i2, b2, u2, t2, m2, xs2⟩ aa cc wr)
        simp only at HC
        have HRr := Lib.hid hrow
        have HGR : Hid (RowF wr g f) := HFC.out wr HS.out
        have HBL := Lib.hid (HBW.out wr HS.out)
        have hszr : bx ≤ wr.heap.size := Nat.le_of_lt HBKr.out.lt
        obtain ⟨e0, e1, e2, e3, e4, e5, e6⟩ := cell_seven HBM.out
        clear hrow HAL HFO HBM
        cases hb : bareB ⟨k2, i2, b2, u2, t2, m2, xs2⟩ with
        | false =>
          rw [hb] at HC HV
          clear hb
          go_wp2_with fail
          refine HC.out.mono ?_
          rintro e w3 ⟨rfl, hb⟩
          have HB3 : Hid (Below bx w w3) := HBL.out.trans (bel_lessG hb hszr)
          clear hb
          go_wp2
          go_ret
          exact ⟨by rw [HV.out]; first | done | rfl, by rw [← HE.out]; exact HB3.out⟩
        | true =>
          rw [hb] at HC HV
          clear hb
          go_wp2_with fail
          refine HC.out.mono ?_
          rintro e w3 ⟨rfl, hb⟩
          have HB3 : Hid (Below bx w w3) := HBL.out.trans (bel_lessG hb hszr)
          have hszr3 : bx ≤ w3.heap.size := Nat.le_trans hszr hb.size
          have HBK3 := Lib.hid (HBKr.out.since hb)
          have HR3 := Lib.hid (HRr.out.keep hb)
          have HCT : Hid (Calls Tryz.prog 22 #[.slice (some ⟨g, 0, none⟩) fl fl, .int .i64 8] w3 fun e w' => e = .returned (.bool (f.contains 8)) ∧ w3 = w') := by
            have h := ctF_any g fl f 8 w3 (HGR.out.keep hb) (by have := HFL.out.1; omega)
            rw [← HFN.out] at h
            exact h
          clear hb e0 e1 e2 e3 e4 e5 e6 HC HRr HGR HBKr
          cases hb8 : f.contains 8 with
          | false =>
            rw [hb8] at HCT HV
            clear hb8
            go_wp2_with fail
            refine HCT.out.mono ?_
            rintro e w4 ⟨rfl, rfl⟩
            go_wp2
            go_ret
            exact ⟨by rw [HV.out]; first | done | rfl, by rw [← HE.out]; exact HB3.out⟩
          | true =>
            rw [hb8] at HCT HV
            have HRI := Lib.hid (right_any a cp xs w3 HR3.out (by rw [← HN.out]; exact HNC.out))
            rw [← HN.out] at HRI
            have HV2 : Hid (R = rgF xs) := HV.out
            clear hb8 HV HR3
            obtain ⟨e0, e1, e2, e3, e4, e5, e6⟩ := cell_seven HBK3.out
            go_wp2_with fail
            refine HCT.out.mono ?_
            rintro e w4 ⟨rfl, rfl⟩
            clear HCT
            go_wp2_with fail
            refine HRI.out.mono ?_
            rintro e w5 ⟨rfl, hb⟩
            have HB5 : Hid (Below bx w w5) := HB3.out.trans (bel_lessG hb hszr3)
            clear hb
            go_wp2
            go_ret
            exact ⟨by rw [HV2.out]; first | done | rfl, by rw [← HE.out]; exact HB5.out⟩

/-- ████ THE CONTRACT OF command.Right ████ -/
theorem right18_any (k i b u t : List UInt8) (m : Int) (a : Option Addr) (cp : Nat) (xs : List Sh) (w : World) (hk : k.length ≤ maxLen) (hr : RowG 2 cSh w a xs) (hc : xs.length ≤ cp) (hl : xs.length ≤ 4611686018427387904) :
    Calls Tryz.prog 8 #[.agg #[.string (st k), .string (st i), .string (st b), .string (st u), .string (st t), .int .i64 m, .slice a xs.length cp]] w fun e w' => e = .returned (.int .i64 (rightC ⟨k, i, b, u, t, m, xs⟩)) ∧ Below w.heap.size w w' := by
  cases hf : formC k with
  | none =>
    have e : rightC ⟨k, i, b, u, t, m, xs⟩ = 1 := by unfold rightC; simp only; rw [hf]
    rw [e]
    exact right18_none k i b u t m a cp xs w hk hf
  | some f => exact right18_some k i b u t m a cp xs f w hk hf hr hc hl _ rfl
end Go.Proofs.YtkflakeocdlinaaGreatDoor
