/-
  Rows of structs of any number of cells: one list of cells, rows of one's own, what steps keep of them.
-/
import Derived.Test.YtkflakeocdlinaaGreatDoorMP01
import Derived.Test.YtkflakeocdlinaaGreatDoorMP03
import Derived.WalkKit
import Derived.WalkLawsBesides
import Derived.WalkSpells
import Derived.Laws.IdiomStrings
import Derived.Outline
import Derived.Deep.LoopGhost
import Derived.Deep.QuietTactic
import Derived.BigQuiet
import Derived.RegionTactic
namespace Go.Proofs.YtkflakeocdlinaaGreatDoor
open Go.RowKit

theorem take_at {α : Type} {l : List α} {k : Nat} {x : α} (h : l[k]? = some x) : l.take (k + 1) = l.take k ++ [x] := by
  obtain ⟨hlt, he⟩ := List.getElem?_eq_some_iff.1 h
  rw [List.take_succ_eq_append_getElem hlt, he]

theorem addr_add (b o i : Nat) : (⟨b, o, none⟩ : Addr).add i = ⟨b, o + i, none⟩ := by
  unfold Addr.add
  by_cases e0 : i = 0
  · subst e0; rfl
  · simp [e0]

theorem drewN_below {B : Nat} {a w : World} (h : Below B a w) (n : Nat) : Below B a (w.drewN n) := ⟨h.os, h.tape, h.output, h.size, h.block⟩

theorem flat_split {α : Type} {z : Nat} {c : α → List Value} (h4 : ∀ x, (c x).length = z) : ∀ (ss : List α) (j : Nat) (u : Value), (ss.flatMap c)[j]? = some u → ∃ i x r, ss[i]? = some x ∧ (c x)[r]? = some u ∧ j = i * z + r
  | [], j, u, h => by simp at h
  | y :: s, j, u, h => by
    rw [List.flatMap_cons] at h
    by_cases hj : j < (c y).length
    · rw [List.getElem?_append_left hj] at h
      exact ⟨0, y, j, rfl, h, by omega⟩
    · rw [List.getElem?_append_right (by omega)] at h
      obtain ⟨i, x, r, h1, h2, h3⟩ := flat_split h4 s _ u h
      refine ⟨i + 1, x, r, h1, h2, ?_⟩
      rw [h4] at h3 hj
      rw [Nat.succ_mul]; omega

theorem flat_len {α : Type} {z : Nat} {c : α → List Value} (h4 : ∀ x, (c x).length = z) : ∀ (ss : List α), (ss.flatMap c).length = ss.length * z
  | [] => by simp
  | y :: s => by rw [List.flatMap_cons, List.length_append, h4, flat_len h4 s, List.length_cons, Nat.succ_mul]; omega

/-- the cells of a row, one behind the other -/
theorem RowG.flat {α : Type} {z : Nat} {c : α → List Value} (h4 : ∀ x, (c x).length = z) {w : World} {ad : Addr} {xs : List α} (h : RowG z c w (some ad) xs) : ∀ j u, (xs.flatMap c)[j]? = some u → w.cell? (ad.add j) = some u := by
  intro j u hj
  obtain ⟨i, x, r, h1, h2, rfl⟩ := flat_split h4 xs j u hj
  have hlt := (List.getElem?_eq_some_iff.1 h1).1
  obtain ⟨b, off, e, hc⟩ := h (by omega)
  injection e with e
  subst e
  rw [addr_add, ← Nat.add_assoc]
  exact hc i x h1 r u h2

theorem own_sliceG {w : World} {base : Nat} {e : TypeId} {size : Nat} {v : Value} {n : Nat} {xs : List Value} (h : w.ownsRow base e size v n xs) : ∃ a c, v = .slice a n c := by
  rcases h.2 with ⟨hv, h0⟩ | ⟨g, cap, cur, hv, _⟩
  · exact ⟨none, 0, by rw [hv, h0]⟩
  · exact ⟨_, _, hv⟩
theorem own_blkG {w : World} {base : Nat} {e : TypeId} {size : Nat} {v : Value} {n : Nat} {xs : List Value} (h : w.ownsRow base e size v n xs) {k : Nat} (hk : v.ownBlock = some k) : ∃ cur, Blk w k e cur := by
  rcases h.2 with ⟨hv, h0⟩ | ⟨g, cap, cur, hv, _, hg, _⟩
  · rw [hv] at hk; cases hk
  · rw [hv] at hk
    injection hk with hk
    subst hk
    exact ⟨cur, hg⟩
theorem own_baseG {w : World} {B B' n z : Nat} {e : TypeId} {v : Value} {xs : List Value} (h : w.ownsRow B' e z v n xs) (hb : B ≤ B') : w.ownsRow B e z v n xs := by
  refine ⟨h.1, ?_⟩
  rcases h.2 with h1 | ⟨g, cap, cur, h1, h2, h3⟩
  · exact .inl h1
  · exact .inr ⟨g, cap, cur, h1, Nat.le_trans hb h2, h3⟩
theorem own_keepG {w w' : World} {B : Nat} {e : TypeId} {z : Nat} {v : Value} {n : Nat} {xs : List Value} (h : w.ownsRow B e z v n xs) (hb : Below w.heap.size w w') : w'.ownsRow B e z v n xs :=
  own_stp h (Stp.of_below (fp := []) hb) (fun _ _ hk => by cases hk)

theorem RowG.stp {α : Type} {z : Nat} {c : α → List Value} {fp : List Nat} {w w' : World} {a : Option Addr} {xs : List α} (h : RowG z c w a xs) (hs : Stp fp w w') (hn : ∀ p, a = some p → p.block ∉ fp) : RowG z c w' a xs := by
  intro h0
  obtain ⟨b, off, e, hc⟩ := h h0
  refine ⟨b, off, e, fun i x hx j u hu => ?_⟩
  have q := hc i x hx j u hu
  have hb := hs.block b (World.block_lt_of_cell? w _ q) (hn _ e)
  simp only [World.cell?, hb]
  exact q

theorem st_empty {p : List UInt8} (h : p.length = 0) : (st p).toList.isEmpty = true := by
  rw [Go.Lib.toList_data, st_toList, List.eq_nil_of_length_eq_zero h]; rfl
theorem st_full {p : List UInt8} (h : p.length ≠ 0) : (st p).toList.isEmpty = false := by
  rw [Go.Lib.toList_data, st_toList]
  cases p with
  | nil => exact absurd rfl h
  | cons x r => rfl
end Go.Proofs.YtkflakeocdlinaaGreatDoor
