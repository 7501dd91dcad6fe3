/-
  Plain: lots, those that are due, the first one due, a party's; rows of them; lots in a box.
-/
import Derived.Test.YtoiiaicjlefclaaPtP
import Derived.Test.YtoiiaicjlefclaaStrs
import Derived.Test.YtoiiaicjlefclaaAddA
import Derived.Test.YtoiiaicjlefclaaOwnS
import Derived.WalkKit
import Derived.WalkLawsBesides
import Derived.WalkSpells
import Derived.Laws.IdiomStrings
import Derived.Outline
import Derived.Deep.LoopGhost
import Derived.Deep.QuietTactic
import Derived.BigQuiet
import Derived.RegionTactic
namespace Go.Proofs.Ytoiiaicjlefclaa
open Go.RowKit

/-- a lot: its party, its currency, its amount, till when -/
abbrev Lt := List UInt8 × List UInt8 × Int × Int
def cLt (x : Lt) : List Value := [.string (st x.1), .string (st x.2.1), .int .i64 x.2.2.1, .int .i64 x.2.2.2]
theorem cLt_len (x : Lt) : (cLt x).length = 4 := rfl
/-- its numbers are amounts -/
def AmtL (x : Lt) : Prop := Amt x.2.2.1 ∧ Amt x.2.2.2
def badLt (x : Lt) : Bool := decide (x.1.length = 0 ∨ x.2.1.length = 0 ∨ x.2.2.1 < 0 ∨ x.2.2.2 < 0)
def isDue (now : Int) (x : Lt) : Bool := decide (x.2.2.2 ≤ now)
def dueL (now : Int) (l : List Lt) : List Lt := l.filter (isDue now)
def restL (now : Int) (l : List Lt) : List Lt := l.filter fun x => !isDue now x
def nxS (n : Int) (x : Lt) : Int := if n < 0 ∨ x.2.2.2 < n then x.2.2.2 else n
def nxL (l : List Lt) : Int := l.foldl nxS (-1)
def isOf (p c : List UInt8) (x : Lt) : Bool := decide (x.1 = p) && decide (x.2.1 = c)
def mineL (p c : List UInt8) (l : List Lt) : List Int := (l.filter (isOf p c)).map fun x => x.2.2.1

theorem take_at {α : Type} {l : List α} {k : Nat} {x : α} (h : l[k]? = some x) : l.take (k + 1) = l.take k ++ [x] := by
  obtain ⟨hlt, he⟩ := List.getElem?_eq_some_iff.1 h
  rw [List.take_succ_eq_append_getElem hlt, he]
theorem take_flat {l : List Lt} {k : Nat} {x : Lt} (h : l[k]? = some x) : (l.take (k + 1)).flatMap cLt = (l.take k).flatMap cLt ++ cLt x := by
  rw [take_at h]; simp
theorem due_yes {now : Int} {l : List Lt} {k : Nat} {x : Lt} (h : l[k]? = some x) (hd : x.2.2.2 ≤ now) : dueL now (l.take (k + 1)) = dueL now (l.take k) ++ [x] ∧ restL now (l.take (k + 1)) = restL now (l.take k) := by
  unfold dueL restL
  rw [take_at h]
  have e : isDue now x = true := decide_eq_true hd
  simp [List.filter_append, e]
theorem due_no {now : Int} {l : List Lt} {k : Nat} {x : Lt} (h : l[k]? = some x) (hd : ¬ x.2.2.2 ≤ now) : dueL now (l.take (k + 1)) = dueL now (l.take k) ∧ restL now (l.take (k + 1)) = restL now (l.take k) ++ [x] := by
  unfold dueL restL
  rw [take_at h]
  have e : isDue now x = false := decide_eq_false hd
  simp [List.filter_append, e]
theorem due_length (now : Int) (l : List Lt) (k : Nat) : (dueL now (l.take k)).length ≤ k ∧ (restL now (l.take k)).length ≤ k := by
  have h1 : (dueL now (l.take k)).length ≤ (l.take k).length := List.length_filter_le _ _
  have h2 : (restL now (l.take k)).length ≤ (l.take k).length := List.length_filter_le _ _
  have h3 : (l.take k).length ≤ k := by rw [List.length_take]; omega
  omega
theorem nx_step {l : List Lt} {k : Nat} {x : Lt} (h : l[k]? = some x) : nxL (l.take (k + 1)) = nxS (nxL (l.take k)) x := by
  unfold nxL
  rw [take_at h, List.foldl_append]; rfl
theorem mine_yes {p c : List UInt8} {l : List Lt} {k : Nat} {x : Lt} (h : l[k]? = some x) (h1 : x.1 = p) (h2 : x.2.1 = c) : mineL p c (l.take (k + 1)) = mineL p c (l.take k) ++ [x.2.2.1] := by
  unfold mineL
  rw [take_at h]
  have e : isOf p c x = true := by unfold isOf; rw [decide_eq_true h1, decide_eq_true h2]; rfl
  simp [List.filter_append, e]
theorem mine_no {p c : List UInt8} {l : List Lt} {k : Nat} {x : Lt} (h : l[k]? = some x) (hn : x.1 ≠ p ∨ x.2.1 ≠ c) : mineL p c (l.take (k + 1)) = mineL p c (l.take k) := by
  unfold mineL
  rw [take_at h]
  have e : isOf p c x = false := by
    unfold isOf
    rcases hn with h1 | h1
    · rw [decide_eq_false h1]; rfl
    · rw [decide_eq_false h1, Bool.and_false]
  simp [List.filter_append, e]
theorem mine_length (p c : List UInt8) (l : List Lt) : (mineL p c l).length ≤ l.length := by
  unfold mineL
  rw [List.length_map]
  exact List.length_filter_le _ _
theorem mine_amt {p c : List UInt8} {l : List Lt} (h : ∀ x ∈ l, AmtL x) : ∀ z ∈ mineL p c l, Amt z := by
  intro z hz
  unfold mineL at hz
  obtain ⟨x, hx, rfl⟩ := List.mem_map.1 hz
  exact (h x (List.mem_filter.1 hx).1).1

/-- amounts as values -/
def iv (zs : List Int) : List Value := zs.map (Value.int .i64)
theorem iv_length (zs : List Int) : (iv zs).length = zs.length := by simp [iv]
theorem iv_get {zs : List Int} {i : Nat} (h : i < zs.length) : (iv zs)[i]? = some (.int .i64 (zs.getD i 0)) := by
  unfold iv
  rw [List.getElem?_map, List.getD_eq_getElem?_getD, List.getElem?_eq_getElem h]; rfl
theorem addr_add (b o i : Nat) : (⟨b, o, none⟩ : Addr).add i = ⟨b, o + i, none⟩ := by
  unfold Addr.add
  by_cases e0 : i = 0
  · subst e0; rfl
  · simp [e0]
theorem RowI.of_own {w : World} {base : Nat} {A : Option Addr} {n c : Nat} {zs : List Int} (h : w.ownsRow base 2 1 (.slice A n c) n (iv zs)) : RowI .i64 w A zs := fun hp => by
  have hl := h.1
  rw [iv_length] at hl
  obtain ⟨g, cap, hv, _, hlt⟩ := h.form (by omega)
  have hA : A = some ⟨g, 0, none⟩ := by injection hv
  subst hA
  refine ⟨g, 0, rfl, fun i hi => ?_⟩
  have := h.cells (g := g) rfl i _ (iv_get hi)
  rw [addr_add] at this
  exact this

theorem drewN_below {B : Nat} {a w : World} (h : Below B a w) (n : Nat) : Below B a (w.drewN n) := ⟨h.os, h.tape, h.output, h.size, h.block⟩

theorem infoI64 : (Try.prog.info? 2).map (fun i => (i.zero, i.size, i.bytes)) = some (some (.int .i64 0), 1, 8) := by kernel_rfl
theorem infoLot : (Try.prog.info? 30).map (fun i => (i.zero, i.size, i.bytes)) = some (some (.agg #[.string ⟨#[]⟩, .string ⟨#[]⟩, .int .i64 0, .int .i64 0]), 4, 48) := by kernel_rfl
theorem infoRLot : (Try.prog.info? 37).map (fun i => (i.zero, i.size, i.bytes)) = some (some (.agg #[.string ⟨#[]⟩, .string ⟨#[]⟩, .int .i64 0, .int .i64 0]), 4, 48) := by kernel_rfl

theorem cells4 {w : World} {b off : Nat} {xs : List Lt} (h : RowG 4 cLt w (some ⟨b, off, none⟩) xs) {k : Nat} {p c : List UInt8} {n d : Int} (hx : xs[k]? = some (p, c, n, d)) :
    w.cell? ⟨b, off + k * 4, none⟩ = some (.string (st p)) ∧ w.cell? ⟨b, off + k * 4 + 1, none⟩ = some (.string (st c)) ∧ w.cell? ⟨b, off + k * 4 + 2, none⟩ = some (.int .i64 n) ∧ w.cell? ⟨b, off + k * 4 + 3, none⟩ = some (.int .i64 d) := by
  have := h.at hx
  exact ⟨by simpa using this 0 _ rfl, this 1 _ rfl, this 2 _ rfl, this 3 _ rfl⟩

theorem flat_split {α : Type} {z : Nat} {c : α → List Value} (h4 : ∀ x, (c x).length = z) : ∀ (ss : List α) (j : Nat) (u : Value), (ss.flatMap c)[j]? = some u → ∃ i x r, ss[i]? = some x ∧ (c x)[r]? = some u ∧ j = i * z + r
  | [], j, u, h => by simp at h
  | y :: s, j, u, h => by
    rw [List.flatMap_cons] at h
    by_cases hj : j < (c y).length
    · rw [List.getElem?_append_left hj] at h
      exact ⟨0, y, j, rfl, h, by omega⟩
    · rw [List.getElem?_append_right (by omega)] at h
      obtain ⟨i, x, r, h1, h2, h3⟩ := flat_split h4 s _ u h
      refine ⟨i + 1, x, r, h1, h2, ?_⟩
      rw [h4] at h3 hj
      rw [Nat.succ_mul]; omega

theorem flat_len {α : Type} {z : Nat} {c : α → List Value} (h4 : ∀ x, (c x).length = z) : ∀ (ss : List α), (ss.flatMap c).length = ss.length * z
  | [] => by simp
  | y :: s => by rw [List.flatMap_cons, List.length_append, h4, flat_len h4 s, List.length_cons, Nat.succ_mul]; omega

theorem flat_one {ss : List Lt} : ∀ u ∈ ss.flatMap cLt, u.oneCell' = true := by
  intro u hu
  obtain ⟨x, _, hx⟩ := List.mem_flatMap.1 hu
  simp only [cLt, List.mem_cons, List.not_mem_nil, or_false] at hx
  rcases hx with rfl | rfl | rfl | rfl <;> rfl

/-- the cells of a row, one behind the other -/
theorem RowG.flat {α : Type} {z : Nat} {c : α → List Value} (h4 : ∀ x, (c x).length = z) {w : World} {ad : Addr} {xs : List α} (h : RowG z c w (some ad) xs) : ∀ j u, (xs.flatMap c)[j]? = some u → w.cell? (ad.add j) = some u := by
  intro j u hj
  obtain ⟨i, x, r, h1, h2, rfl⟩ := flat_split h4 xs j u hj
  have hlt := (List.getElem?_eq_some_iff.1 h1).1
  obtain ⟨b, off, e, hc⟩ := h (by omega)
  injection e with e
  subst e
  rw [addr_add, ← Nat.add_assoc]
  exact hc i x h1 r u h2

theorem own_sliceG {w : World} {base : Nat} {e : TypeId} {size : Nat} {v : Value} {n : Nat} {xs : List Value} (h : w.ownsRow base e size v n xs) : ∃ a c, v = .slice a n c := by
  rcases h.2 with ⟨hv, h0⟩ | ⟨g, cap, cur, hv, _⟩
  · exact ⟨none, 0, by rw [hv, h0]⟩
  · exact ⟨_, _, hv⟩
theorem own_blkG {w : World} {base : Nat} {e : TypeId} {size : Nat} {v : Value} {n : Nat} {xs : List Value} (h : w.ownsRow base e size v n xs) {k : Nat} (hk : v.ownBlock = some k) : ∃ cur, Blk w k e cur := by
  rcases h.2 with ⟨hv, h0⟩ | ⟨g, cap, cur, hv, _, hg, _⟩
  · rw [hv] at hk; cases hk
  · rw [hv] at hk
    injection hk with hk
    subst hk
    exact ⟨cur, hg⟩
theorem own_baseG {w : World} {B B' n z : Nat} {e : TypeId} {v : Value} {xs : List Value} (h : w.ownsRow B' e z v n xs) (hb : B ≤ B') : w.ownsRow B e z v n xs := by
  refine ⟨h.1, ?_⟩
  rcases h.2 with h1 | ⟨g, cap, cur, h1, h2, h3⟩
  · exact .inl h1
  · exact .inr ⟨g, cap, cur, h1, Nat.le_trans hb h2, h3⟩
theorem own_keepG {w w' : World} {B : Nat} {e : TypeId} {z : Nat} {v : Value} {n : Nat} {xs : List Value} (h : w.ownsRow B e z v n xs) (hb : Below w.heap.size w w') : w'.ownsRow B e z v n xs :=
  own_stp h (Stp.of_below (fp := []) hb) (fun _ _ hk => by cases hk)

theorem RowG.stp {α : Type} {z : Nat} {c : α → List Value} {fp : List Nat} {w w' : World} {a : Option Addr} {xs : List α} (h : RowG z c w a xs) (hs : Stp fp w w') (hn : ∀ p, a = some p → p.block ∉ fp) : RowG z c w' a xs := by
  intro h0
  obtain ⟨b, off, e, hc⟩ := h h0
  refine ⟨b, off, e, fun i x hx j u hu => ?_⟩
  have q := hc i x hx j u hu
  have hb := hs.block b (World.block_lt_of_cell? w _ q) (hn _ e)
  simp only [World.cell?, hb]
  exact q

/-- lots in a box, of which l is held, in a row of their own -/
structure LotsP (B : Nat) (w : World) (b : Nat) (l : List Lt) (v : Value) : Prop where
  hb : B ≤ b
  box : Blk w b 27 #[v]
  own : w.ownsRow B 30 4 v l.length (l.flatMap cLt)

/-- what a call may write -/
def fpL (b : Nat) (v : Value) : List Nat := b :: v.ownBlock.toList
theorem mem_fpL {b k : Nat} {v : Value} : k ∈ fpL b v ↔ k = b ∨ v.ownBlock = some k := by
  unfold fpL
  rw [List.mem_cons, Option.mem_toList]
theorem LotsP.keep {B : Nat} {w w' : World} {b : Nat} {l : List Lt} {v : Value} (h : LotsP B w b l v) (hb : Below w.heap.size w w') : LotsP B w' b l v := ⟨h.hb, h.box.since hb, own_keepG h.own hb⟩
theorem LotsP.stp {B : Nat} {w w' : World} {b : Nat} {l : List Lt} {v : Value} {fp : List Nat} (h : LotsP B w b l v) (hs : Stp fp w w') (hn : ∀ k ∈ fp, k < B) : LotsP B w' b l v :=
  ⟨h.hb, h.box.stp hs (fun hm => by have := hn _ hm; have := h.hb; omega), own_stp h.own hs fun k hk hm => by
    have h1 := (h.own.lt k hk).1
    have := hn _ hm
    omega⟩
theorem LotsP.ne {B : Nat} {w : World} {b : Nat} {l : List Lt} {v : Value} (h : LotsP B w b l v) : ∀ k, v.ownBlock = some k → k ≠ b ∧ B ≤ k ∧ k < w.heap.size := fun k hk => by
  obtain ⟨cur, hcur⟩ := own_blkG h.own hk
  exact ⟨fun e => by subst e; exact absurd rfl (h.box.ne hcur (by decide)), (h.own.lt k hk).1, hcur.lt⟩
theorem LotsP.cell {B : Nat} {w : World} {b : Nat} {l : List Lt} {v : Value} (h : LotsP B w b l v) : w.cell? ⟨b, 0, none⟩ = some v := h.box.cell 0
theorem LotsP.lt {B : Nat} {w : World} {b : Nat} {l : List Lt} {v : Value} (h : LotsP B w b l v) : ∀ k ∈ fpL b v, k < w.heap.size ∧ B ≤ k := fun k hk => by
  rcases mem_fpL.1 hk with rfl | hk
  · exact ⟨h.box.lt, h.hb⟩
  · exact ⟨(h.ne k hk).2.2, (h.ne k hk).2.1⟩
/-- the list as a row -/
theorem LotsP.row {B : Nat} {w : World} {b : Nat} {l : List Lt} {v : Value} (h : LotsP B w b l v) : ∃ a cp, v = .slice a l.length cp ∧ RowG 4 cLt w a l := by
  obtain ⟨a, cp, h1, h2, _, _⟩ := RowG.own cLt_len h.own rfl
  exact ⟨a, cp, h1, h2⟩

theorem st_empty {p : List UInt8} (h : p.length = 0) : (st p).toList.isEmpty = true := by
  rw [Go.Lib.toList_data, st_toList, List.eq_nil_of_length_eq_zero h]; rfl
theorem st_full {p : List UInt8} (h : p.length ≠ 0) : (st p).toList.isEmpty = false := by
  rw [Go.Lib.toList_data, st_toList]
  cases p with
  | nil => exact absurd rfl h
  | cons x r => rfl
end Go.Proofs.Ytoiiaicjlefclaa
