/-
  Plain: the weights of right shares; parts; the row of parts while it is laid down.
-/
import Derived.Test.YthhcbpimkaahnaaPtC
namespace Go.Proofs.Ythhcbpimkaahnaa
open Go.RowKit Go.Deep

/-- the weights as counts, and their sum -/
def ptW (xs : List Sh) : Nat → Nat := wN (wts xs)
def ptS (xs : List Sh) : Nat := sumN (ptW xs) xs.length

structure GoodW (xs : List Sh) : Prop where
  each : ∀ i, i < xs.length → 1 ≤ ptW xs i ∧ ptW xs i ≤ 1125899906842624 ∧ (wts xs).getD i 0 = (ptW xs i : Int)
  pos : 0 < ptS xs
  le : ptS xs ≤ 9007199254740992
  sum : sumTo 0 (wts xs) = some (ptS xs : Int)
  neg : anyNeg (wts xs) = false
  amt : ∀ z ∈ wts xs, Amt z

theorem GoodW.of {xs : List Sh} (h0 : 0 < xs.length) (h8 : xs.length ≤ 8) (hg : rgTo xs xs.length = 0) : GoodW xs := by
  have at_ : ∀ i, i < xs.length → 1 ≤ (wts xs).getD i 0 ∧ (wts xs).getD i 0 ≤ 1125899906842624 := fun i hi => by
    obtain ⟨s, hs⟩ : ∃ s, xs[i]? = some s := ⟨_, List.getElem?_eq_getElem hi⟩
    have := badS_not (rgTo_good hg hi hs)
    rw [wts_get hs]; omega
  have each : ∀ i, i < xs.length → 1 ≤ ptW xs i ∧ ptW xs i ≤ 1125899906842624 ∧ (wts xs).getD i 0 = (ptW xs i : Int) := fun i hi => by
    have := at_ i hi
    unfold ptW wN
    omega
  have hle : ptS xs ≤ 1125899906842624 * xs.length := sumN_le_of fun i hi => (each i hi).2.1
  have hpos : 0 < ptS xs := by
    have h1 := le_sumN (f := ptW xs) h0
    have h2 := (each 0 h0).1
    unfold ptS; omega
  have hsum : (wts xs).sum = (ptS xs : Int) := by
    have := sum_wN (wts xs) (fun i hi => by rw [wts_length] at hi; have := at_ i hi; omega)
    rw [this, wts_length]; rfl
  have hmem : ∀ z ∈ wts xs, 1 ≤ z ∧ z ≤ 1125899906842624 := fun z hz => by
    obtain ⟨i, hi⟩ := List.mem_iff_getElem?.1 hz
    have hl := (List.getElem?_eq_some_iff.1 hi).1
    rw [wts_length] at hl
    have := at_ i hl
    rw [List.getD_eq_getElem?_getD, hi] at this
    exact this
  refine ⟨each, hpos, by omega, ?_, ?_, fun z hz => by have := hmem z hz; unfold Amt; omega⟩
  · have := sumTo_nonneg (wts xs) 0 (by omega) (fun z hz => by have := hmem z hz; omega) (by rw [hsum]; omega)
    rw [this, hsum]; simp
  · exact anyNeg_none fun k hk => by rw [wts_length] at hk; have := at_ k hk; omega

/-- the parts -/
def prtL (xs : List Sh) (P : Nat → Nat) (h : Int) : List Prt := (List.range xs.length).map fun i => ((xs.getD i ([], 0)).1, (P i : Int), mdV (P i : Int) h 10000 0)
theorem prtL_length (xs : List Sh) (P : Nat → Nat) (h : Int) : (prtL xs P h).length = xs.length := by simp [prtL]
theorem prtL_get {xs : List Sh} {i : Nat} {p : List UInt8} {m : Int} (P : Nat → Nat) (h : Int) (hs : xs[i]? = some (p, m)) : (prtL xs P h)[i]? = some (p, (P i : Int), mdV (P i : Int) h 10000 0) := by
  have hl := (List.getElem?_eq_some_iff.1 hs).1
  unfold prtL
  rw [List.getElem?_map, List.getElem?_range hl, Option.map_some, List.getD_eq_getElem?_getD, hs]
  rfl

/-- the row of parts while it is laid down -/
structure OfAt (L : List Prt) (n g : Nat) (w wr : World) (k : Nat) : Prop where
  below : Below w.heap.size w wr
  new : w.heap.size ≤ g
  blk : ∃ cs, Blk wr g 35 cs ∧ cs.size = n * 3 ∧ ∀ (i : Nat) (x : Prt), i < k → L[i]? = some x → ∀ (j : Nat) (u : Value), (cPt x)[j]? = some u → cs[i * 3 + j]? = some u

theorem OfAt.keep {L : List Prt} {n g k : Nat} {w wr wr' : World} (h : OfAt L n g w wr k) (hb : Below wr.heap.size wr wr') : OfAt L n g w wr' k := by
  obtain ⟨cs, h1, h2, h3⟩ := h.blk
  exact ⟨bel_onG h.below h.below.size hb, h.new, cs, h1.since hb, h2, h3⟩

theorem OfAt.step {L : List Prt} {n g k : Nat} {w wr : World} {x : Prt} (h : OfAt L n g w wr k) (hk : k < n) (hx : L[k]? = some x) :
    OfAt L n g w (((wr.setCell ⟨g, k * 3, none⟩ (.string (st x.1))).setCell ⟨g, k * 3 + 1, none⟩ (.int .i64 x.2.1)).setCell ⟨g, k * 3 + 2, none⟩ (.int .i64 x.2.2)) (k + 1) := by
  obtain ⟨cs, h1, h2, h3⟩ := h.blk
  refine ⟨((h.below.setCell h.new _).setCell h.new _).setCell h.new _, h.new, _, ((h1.set (k * 3) _).set (k * 3 + 1) _).set (k * 3 + 2) _, by simp [h2], fun i y hi hy j u hu => ?_⟩
  have hj : j < 3 := (List.getElem?_eq_some_iff.1 hu).1
  by_cases e : i = k
  · subst e
    rw [hx] at hy
    injection hy with hy
    subst hy
    match j, hj with
    | 0, _ =>
      have hu' : Value.string (st x.1) = u := by simpa [cPt] using hu
      rw [Array.getElem?_setIfInBounds_ne (by omega), Array.getElem?_setIfInBounds_ne (by omega), Nat.add_zero, Array.getElem?_setIfInBounds_self_of_lt (by omega), hu']
    | 1, _ =>
      have hu' : Value.int .i64 x.2.1 = u := by simpa [cPt] using hu
      rw [Array.getElem?_setIfInBounds_ne (by omega), Array.getElem?_setIfInBounds_self_of_lt (by simp; omega), hu']
    | 2, _ =>
      have hu' : Value.int .i64 x.2.2 = u := by simpa [cPt] using hu
      rw [Array.getElem?_setIfInBounds_self_of_lt (by simp; omega), hu']
  · rw [Array.getElem?_setIfInBounds_ne (by omega), Array.getElem?_setIfInBounds_ne (by omega), Array.getElem?_setIfInBounds_ne (by omega)]
    exact h3 i y (by omega) hy j u hu

/-- there is room for a part -/
theorem OfAt.room {L : List Prt} {n g k : Nat} {w wr : World} (h : OfAt L n g w wr k) (hk : k < n) :
    ∃ v0 v1 v2, wr.cell? ⟨g, k * 3, none⟩ = some v0 ∧ wr.cell? ⟨g, k * 3 + 1, none⟩ = some v1 ∧ wr.cell? ⟨g, k * 3 + 2, none⟩ = some v2 ∧
      wr.frozen? ⟨g, k * 3, none⟩ = false ∧ wr.frozen? ⟨g, k * 3 + 1, none⟩ = false ∧ wr.frozen? ⟨g, k * 3 + 2, none⟩ = false := by
  obtain ⟨cs, h1, h2, h3⟩ := h.blk
  exact ⟨cs[k * 3], cs[k * 3 + 1], cs[k * 3 + 2], by rw [h1.cell]; exact Array.getElem?_eq_getElem (by omega), by rw [h1.cell]; exact Array.getElem?_eq_getElem (by omega), by rw [h1.cell]; exact Array.getElem?_eq_getElem (by omega), h1.frozen _, h1.frozen _, h1.frozen _⟩

theorem OfAt.row {L : List Prt} {n g : Nat} {w wr : World} (h : OfAt L n g w wr n) (hl : L.length = n) : RowG 3 cPt wr (some ⟨g, 0, none⟩) L := fun _ => by
  obtain ⟨cs, h1, h2, h3⟩ := h.blk
  refine ⟨g, 0, rfl, fun i x hx j u hu => ?_⟩
  rw [Nat.zero_add, h1.cell]
  exact h3 i x (by have := (List.getElem?_eq_some_iff.1 hx).1; omega) hx j u hu

/-- comes it ahead, or is it the same -/
def leB (key : Nat → Int) (i j : Nat) : Bool := decide (key j < key i ∨ (key i = key j ∧ i ≤ j))

theorem Ordr.exists (n : Nat) (key : Nat → Int) : ∃ s t, Ordr n key s t := by
  obtain ⟨l, hl⟩ : ∃ l, l = (List.range n).mergeSort (leB key) := ⟨_, rfl⟩
  have hperm : l.Perm (List.range n) := by rw [hl]; exact List.mergeSort_perm _ _
  have hlen : l.length = n := by rw [hperm.length_eq, List.length_range]
  have hmem : ∀ i, i ∈ l ↔ i < n := fun i => by rw [hperm.mem_iff, List.mem_range]
  have hnd : l.Nodup := hperm.nodup_iff.2 List.nodup_range
  have hpw : List.Pairwise (fun a b => leB key a b = true) l := by
    rw [hl]
    refine List.pairwise_mergeSort (fun a b c h1 h2 => ?_) (fun a b => ?_) _
    · have h1 := of_decide_eq_true h1
      have h2 := of_decide_eq_true h2
      exact decide_eq_true (by omega)
    · rw [Bool.or_eq_true]
      by_cases h : key b < key a ∨ (key a = key b ∧ a ≤ b)
      · exact .inl (decide_eq_true h)
      · exact .inr (decide_eq_true (by omega))
  have hord : ∀ p q (hp : p < l.length) (hq : q < l.length), p < q → bef key l[p] l[q] := fun p q hp hq hpq => by
    have h1 := of_decide_eq_true (List.pairwise_iff_getElem.1 hpw p q hp hq hpq)
    have h2 : l[p] ≠ l[q] := List.pairwise_iff_getElem.1 hnd p q hp hq hpq
    unfold bef; omega
  refine ⟨fun p => if h : p < l.length then l[p] else p, fun i => if i < n then l.idxOf i else i, fun i => ?_, fun p => ?_, fun p hp => ?_, fun p hp => ?_, fun p q _ hpq hq => ?_⟩
  · by_cases hi : i < n
    · have h1 : l.idxOf i < l.length := List.idxOf_lt_length_of_mem ((hmem i).2 hi)
      rw [if_pos hi, dif_pos h1]
      exact List.getElem_idxOf h1
    · rw [if_neg hi, dif_neg (by omega)]
  · by_cases hp : p < l.length
    · have hin : l[p] < n := (hmem _).1 (List.getElem_mem hp)
      have h1 : l.idxOf l[p] < l.length := List.idxOf_lt_length_of_mem (List.getElem_mem hp)
      have h2 := List.getElem_idxOf h1
      rw [dif_pos hp, if_pos hin]
      rcases Nat.lt_trichotomy (l.idxOf l[p]) p with h | h | h
      · have := hord _ _ h1 hp h
        rw [h2] at this
        unfold bef at this; omega
      · exact h
      · have := hord _ _ hp h1 h
        rw [h2] at this
        unfold bef at this; omega
    · rw [dif_neg hp, if_neg (by omega)]
  · rw [dif_pos (by omega)]
    exact (hmem _).1 (List.getElem_mem _)
  · rw [dif_neg (by omega)]
  · rw [dif_pos (by omega), dif_pos (by omega)]
    exact hord _ _ _ _ hpq
end Go.Proofs.Ythhcbpimkaahnaa
