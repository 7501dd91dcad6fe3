/-
  Plain: costs that may be; weights of shares.
-/
import Derived.Test.YtkflakeocdlinaaGreatDoorMP01
import Derived.Test.YtkflakeocdlinaaGreatDoorMP05
import Derived.Test.YtkflakeocdlinaaGreatDoorPtBMP
namespace Go.Proofs.YtkflakeocdlinaaGreatDoor
open Go.RowKit

/-- costs that may be -/
def cstB (A f t h : Int) : Bool := decide (A ≤ 1125899906842624 ∧ 0 ≤ f ∧ 0 ≤ t ∧ 0 ≤ h ∧ h ≤ 10000 ∧ f + t ≤ A)
def wiV (A f t h : Int) : Int := if cstB A f t h then A - f - t else 0
def wiE (A f t h : Int) : Int := if cstB A f t h then 0 else 1
def WiPost (A f t h : Int) (w : World) (e : Ending) (w' : World) : Prop := e = .returned (.tuple #[.int .i64 (wiV A f t h), .int .i64 (wiE A f t h)]) ∧ Below w.heap.size w w'

theorem cst_not {A f t h : Int} (hn : ¬ (A ≤ 1125899906842624 ∧ 0 ≤ f ∧ 0 ≤ t ∧ 0 ≤ h ∧ h ≤ 10000 ∧ f + t ≤ A)) : wiV A f t h = 0 ∧ wiE A f t h = 1 := by
  have e : cstB A f t h = false := decide_eq_false hn
  unfold wiV wiE
  rw [e]
  exact ⟨rfl, rfl⟩
theorem cst_yes {A f t h : Int} (hn : A ≤ 1125899906842624 ∧ 0 ≤ f ∧ 0 ≤ t ∧ 0 ≤ h ∧ h ≤ 10000 ∧ f + t ≤ A) : wiV A f t h = A - f - t ∧ wiE A f t h = 0 := by
  have e : cstB A f t h = true := decide_eq_true hn
  unfold wiV wiE
  rw [e]
  exact ⟨rfl, rfl⟩
theorem cst_get {A f t h : Int} (e : cstB A f t h = true) : A ≤ 1125899906842624 ∧ 0 ≤ f ∧ 0 ≤ t ∧ 0 ≤ h ∧ h ≤ 10000 ∧ f + t ≤ A := of_decide_eq_true e

/-- the shares' weights -/
def wts (l : List Sh) : List Int := l.map (·.2)
theorem wts_length (l : List Sh) : (wts l).length = l.length := by simp [wts]
theorem wts_get {l : List Sh} {i : Nat} {s : Sh} (h : l[i]? = some s) : (wts l).getD i 0 = s.2 := by
  unfold wts; rw [List.getD_eq_getElem?_getD, List.getElem?_map, h]; rfl
end Go.Proofs.YtkflakeocdlinaaGreatDoor
/-
  Plain: the weights of right shares; parts; the row of parts while it is laid down.
-/
namespace Go.Proofs.YtkflakeocdlinaaGreatDoor
open Go.RowKit Go.Deep

/-- the weights as counts, and their sum -/
def ptW (xs : List Sh) : Nat → Nat := wN (wts xs)
def ptS (xs : List Sh) : Nat := sumN (ptW xs) xs.length

structure GoodW (xs : List Sh) : Prop where
  each : ∀ i, i < xs.length → 1 ≤ ptW xs i ∧ ptW xs i ≤ 1125899906842624 ∧ (wts xs).getD i 0 = (ptW xs i : Int)
  pos : 0 < ptS xs
  le : ptS xs ≤ 9007199254740992
  sum : sumTo 0 (wts xs) = some (ptS xs : Int)
  neg : anyNeg (wts xs) = false
  amt : ∀ z ∈ wts xs, Amt z

theorem GoodW.of {xs : List Sh} (h0 : 0 < xs.length) (h8 : xs.length ≤ 8) (hg : rgTo xs xs.length = 0) : GoodW xs := by
  have at_ : ∀ i, i < xs.length → 1 ≤ (wts xs).getD i 0 ∧ (wts xs).getD i 0 ≤ 1125899906842624 := fun i hi => by
    obtain ⟨s, hs⟩ : ∃ s, xs[i]? = some s := ⟨_, List.getElem?_eq_getElem hi⟩
    have := badS_not (rgTo_good hg hi hs)
    rw [wts_get hs]; omega
  have each : ∀ i, i < xs.length → 1 ≤ ptW xs i ∧ ptW xs i ≤ 1125899906842624 ∧ (wts xs).getD i 0 = (ptW xs i : Int) := fun i hi => by
    have := at_ i hi
    unfold ptW wN
    omega
  have hle : ptS xs ≤ 1125899906842624 * xs.length := sumN_le_of fun i hi => (each i hi).2.1
  have hpos : 0 < ptS xs := by
    have h1 := le_sumN (f := ptW xs) h0
    have h2 := (each 0 h0).1
    unfold ptS; omega
  have hsum : (wts xs).sum = (ptS xs : Int) := by
    have := sum_wN (wts xs) (fun i hi => by rw [wts_length] at hi; have := at_ i hi; omega)
    rw [this, wts_length]; rfl
  have hmem : ∀ z ∈ wts xs, 1 ≤ z ∧ z ≤ 1125899906842624 := fun z hz => by
    obtain ⟨i, hi⟩ := List.mem_iff_getElem?.1 hz
    have hl := (List.getElem?_eq_some_iff.1 hi).1
    rw [wts_length] at hl
    have := at_ i hl
    rw [List.getD_eq_getElem?_getD, hi] at this
    exact this
  refine ⟨each, hpos, by omega, ?_, ?_, fun z hz => by have := hmem z hz; unfold Amt; omega⟩
  · have := sumTo_nonneg (wts xs) 0 (by omega) (fun z hz => by have := hmem z hz; omega) (by rw [hsum]; omega)
    rw [this, hsum]; simp
  · exact anyNeg_none fun k hk => by rw [wts_length] at hk; have := at_ k hk; omega

/-- the parts -/
def prtL (xs : List Sh) (P : Nat → Nat) (h : Int) : List Prt := (List.range xs.length).map fun i => ((xs.getD i ([], 0)).1, (P i : Int), mdV (P i : Int) h 10000 0)
theorem prtL_length (xs : List Sh) (P : Nat → Nat) (h : Int) : (prtL xs P h).length = xs.length := by simp [prtL]
theorem prtL_get {xs : List Sh} {i : Nat} {p : List UInt8} {m : Int} (P : Nat → Nat) (h : Int) (hs : xs[i]? = some (p, m)) : (prtL xs P h)[i]? = some (p, (P i : Int), mdV (P i : Int) h 10000 0) := by
  have hl := (List.getElem?_eq_some_iff.1 hs).1
  unfold prtL
  rw [List.getElem?_map, List.getElem?_range hl, Option.map_some, List.getD_eq_getElem?_getD, hs]
  rfl

/-- comes it ahead, or is it the same -/
def leB (key : Nat → Int) (i j : Nat) : Bool := decide (key j < key i ∨ (key i = key j ∧ i ≤ j))

theorem Ordr.exists (n : Nat) (key : Nat → Int) : ∃ s t, Ordr n key s t := by
  obtain ⟨l, hl⟩ : ∃ l, l = (List.range n).mergeSort (leB key) := ⟨_, rfl⟩
  have hperm : l.Perm (List.range n) := by rw [hl]; exact List.mergeSort_perm _ _
  have hlen : l.length = n := by rw [hperm.length_eq, List.length_range]
  have hmem : ∀ i, i ∈ l ↔ i < n := fun i => by rw [hperm.mem_iff, List.mem_range]
  have hnd : l.Nodup := hperm.nodup_iff.2 List.nodup_range
  have hpw : List.Pairwise (fun a b => leB key a b = true) l := by
    rw [hl]
    refine List.pairwise_mergeSort (fun a b c h1 h2 => ?_) (fun a b => ?_) _
    · have h1 := of_decide_eq_true h1
      have h2 := of_decide_eq_true h2
      exact decide_eq_true (by omega)
    · rw [Bool.or_eq_true]
      by_cases h : key b < key a ∨ (key a = key b ∧ a ≤ b)
      · exact .inl (decide_eq_true h)
      · exact .inr (decide_eq_true (by omega))
  have hord : ∀ p q (hp : p < l.length) (hq : q < l.length), p < q → bef key l[p] l[q] := fun p q hp hq hpq => by
    have h1 := of_decide_eq_true (List.pairwise_iff_getElem.1 hpw p q hp hq hpq)
    have h2 : l[p] ≠ l[q] := List.pairwise_iff_getElem.1 hnd p q hp hq hpq
    unfold bef; omega
  refine ⟨fun p => if h : p < l.length then l[p] else p, fun i => if i < n then l.idxOf i else i, fun i => ?_, fun p => ?_, fun p hp => ?_, fun p hp => ?_, fun p q _ hpq hq => ?_⟩
  · by_cases hi : i < n
    · have h1 : l.idxOf i < l.length := List.idxOf_lt_length_of_mem ((hmem i).2 hi)
      rw [if_pos hi, dif_pos h1]
      exact List.getElem_idxOf h1
    · rw [if_neg hi, dif_neg (by omega)]
  · by_cases hp : p < l.length
    · have hin : l[p] < n := (hmem _).1 (List.getElem_mem hp)
      have h1 : l.idxOf l[p] < l.length := List.idxOf_lt_length_of_mem (List.getElem_mem hp)
      have h2 := List.getElem_idxOf h1
      rw [dif_pos hp, if_pos hin]
      rcases Nat.lt_trichotomy (l.idxOf l[p]) p with h | h | h
      · have := hord _ _ h1 hp h
        rw [h2] at this
        unfold bef at this; omega
      · exact h
      · have := hord _ _ hp h1 h
        rw [h2] at this
        unfold bef at this; omega
    · rw [dif_neg hp, if_neg (by omega)]
  · rw [dif_pos (by omega)]
    exact (hmem _).1 (List.getElem_mem _)
  · rw [dif_neg (by omega)]
  · rw [dif_pos (by omega), dif_pos (by omega)]
    exact hord _ _ _ _ hpq
end Go.Proofs.YtkflakeocdlinaaGreatDoor
/-
  Plain: what is wrong with parts.
-/
namespace Go.Proofs.YtkflakeocdlinaaGreatDoor
open Go.RowKit

/-- what is wrong with an amount, its costs, its shares -/
def ofE (A f t h : Int) (xs : List Sh) : Int := if cstB A f t h then rgF xs else 1

theorem cell_three {w : World} {b o g i j l : Nat} {va vb vc v : Value} (h : b ≠ g) (hc : w.cell? ⟨b, o, none⟩ = some v) : (((w.setCell ⟨g, i, none⟩ va).setCell ⟨g, j, none⟩ vb).setCell ⟨g, l, none⟩ vc).cell? ⟨b, o, none⟩ = some v := by
  have h1 : (((w.setCell ⟨g, i, none⟩ va).setCell ⟨g, j, none⟩ vb).setCell ⟨g, l, none⟩ vc).heap[b]? = w.heap[b]? := by
    rw [Below.heap_setCell _ _ _ _ h, Below.heap_setCell _ _ _ _ h, Below.heap_setCell _ _ _ _ h]
  have h2 : ∀ w' : World, w'.heap[b]? = w.heap[b]? → w'.cell? ⟨b, o, none⟩ = w.cell? ⟨b, o, none⟩ := fun w' e => by
    simp only [World.cell?, e]
  rw [h2 _ h1]
  exact hc
theorem rowIs_keepB {w w' : World} {b n : Nat} {t : TypeId} {F : Nat → Value} (h : w.rowIs b t n F) (hb : Below w.heap.size w w') : w'.rowIs b t n F := h.of_block (hb.block b h.lt)
/-- something is wrong -/
def OfBad (E : Int) (w : World) (e : Ending) (w' : World) : Prop := e = .returned (.tuple #[.slice none 0 0, .int .i64 E]) ∧ Below w.heap.size w w'
end Go.Proofs.YtkflakeocdlinaaGreatDoor
