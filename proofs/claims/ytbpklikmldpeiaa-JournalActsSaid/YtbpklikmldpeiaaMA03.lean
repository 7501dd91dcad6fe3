/-
  Plain lemmas: the pieces of a payload, and what a list of blocks begins with.
-/
import Derived.Test.YtbpklikmldpeiaaBlkGMA
namespace Go.Proofs.Ytbpklikmldpeiaa
open Go.RowKit

/-- a block's bytes of the payload, as it tells of them -/
def pieceOf (s : List UInt8) : List UInt8 := (s.drop 7).take (min (s.getD 6 0).toNat 49)
/-- those of the first k blocks -/
def outL (ls : List (List UInt8)) (k : Nat) : List UInt8 := ((ls.take k).map pieceOf).flatten

theorem outL_succ {ls : List (List UInt8)} {k : Nat} {s : List UInt8} (h : ls[k]? = some s) : outL ls (k + 1) = outL ls k ++ pieceOf s := by
  obtain ⟨hlt, he⟩ := List.getElem?_eq_some_iff.1 h
  unfold outL
  rw [List.take_succ_eq_append_getElem hlt, he]
  simp

theorem pieceOf_length (s : List UInt8) : (pieceOf s).length ≤ 49 := by unfold pieceOf; rw [List.length_take]; omega

theorem outL_length (ls : List (List UInt8)) (k : Nat) : (outL ls k).length ≤ k * 49 := by
  induction k with
  | zero => simp [outL]
  | succ k ih =>
    by_cases h : k < ls.length
    · rw [outL_succ (List.getElem?_eq_getElem h), List.length_append]
      have := pieceOf_length ls[k]
      omega
    · have : outL ls (k + 1) = outL ls k := by
        unfold outL; rw [List.take_of_length_le (by omega), List.take_of_length_le (by omega)]
      rw [this]; omega

theorem IsBlk.piece {number place count : Nat} {l d : List UInt8} (h : IsBlk number place count l d) : pieceOf l = d := by
  obtain ⟨_, _, a, _, e⟩ := h
  unfold pieceOf
  rw [e, blkL_get6 _ _ _ _ a, Nat.min_eq_left a, blkL_data]

theorem Begins.pieces {number : Nat} {ls ds : List (List UInt8)} (h : Begins number ls ds) : ds = (ls.take ds.length).map pieceOf := by
  apply List.ext_getElem?
  intro i
  by_cases hi : i < ds.length
  · have hl := h.2.1
    have g1 := List.getElem?_eq_getElem hi
    have g3 := List.getElem?_eq_getElem (show i < ls.length by omega)
    have b1 := (h.2.2.2 i _ _ g3 g1).piece
    rw [g1, List.getElem?_map, List.getElem?_take_of_lt hi, g3]
    simp [b1]
  · rw [List.getElem?_eq_none (by omega), List.getElem?_eq_none (by simp; omega)]

theorem Begins.out {number : Nat} {ls ds : List (List UInt8)} (h : Begins number ls ds) : ds.flatten = outL ls ds.length := by
  conv => lhs; rw [h.pieces]
  rfl

/-- each piece is full, but for the last -/
def Pieces : List (List UInt8) → Prop
  | [] => True
  | d :: r => 1 ≤ d.length ∧ d.length ≤ 49 ∧ (d.length = 49 ∨ r = []) ∧ Pieces r

theorem Pieces.of {ds : List (List UInt8)} (h : ∀ i d, ds[i]? = some d → 1 ≤ d.length ∧ d.length ≤ 49 ∧ (d.length = 49 ∨ i + 1 = ds.length)) : Pieces ds := by
  induction ds with
  | nil => trivial
  | cons d r ih =>
    obtain ⟨a, b, c⟩ := h 0 d rfl
    refine ⟨a, b, ?_, ih fun i x hx => ?_⟩
    · rcases c with c | c
      · exact .inl c
      · exact .inr (List.length_eq_zero_iff.1 (by rw [List.length_cons] at c; omega))
    · obtain ⟨a, b, c⟩ := h (i + 1) x (by simpa using hx)
      refine ⟨a, b, ?_⟩
      rcases c with c | c
      · exact .inl c
      · right; rw [List.length_cons] at c; omega

theorem dat_append (d x : List UInt8) (h : d.length = 49) (i : Nat) : dat (d ++ x) (i + 1) = dat x i := by
  unfold dat
  rw [show (i + 1) * 49 = d.length + i * 49 by omega, List.drop_append]
  rw [List.drop_of_length_le (by omega), show d.length + i * 49 - d.length = i * 49 by omega]
  rfl

theorem Pieces.dat {ds : List (List UInt8)} (h : Pieces ds) : ∀ i d, ds[i]? = some d → dat ds.flatten i = d := by
  induction ds with
  | nil => intro i d hd; simp at hd
  | cons x r ih =>
    obtain ⟨a, b, c, hr⟩ := h
    intro i d hd
    match i, hd with
    | 0, hd =>
      simp at hd
      subst hd
      rcases c with c | c
      · unfold Go.Proofs.Ytbpklikmldpeiaa.dat
        rw [List.flatten_cons, Nat.zero_mul, List.drop_zero, List.take_append_of_le_length (by omega), List.take_of_length_le (by omega)]
      · subst c
        unfold Go.Proofs.Ytbpklikmldpeiaa.dat
        rw [List.flatten_cons, List.flatten_nil, List.append_nil, Nat.zero_mul, List.drop_zero, List.take_of_length_le (by omega)]
    | i + 1, hd =>
      rcases c with c | c
      · rw [List.flatten_cons, dat_append _ _ c]
        exact ih hr i d (by simpa using hd)
      · subst c; simp at hd

theorem Pieces.length {ds : List (List UInt8)} (h : Pieces ds) (h0 : ds ≠ []) : (ds.length - 1) * 49 + 1 ≤ ds.flatten.length ∧ ds.flatten.length ≤ ds.length * 49 := by
  induction ds with
  | nil => exact absurd rfl h0
  | cons x r ih =>
    obtain ⟨a, b, c, hr⟩ := h
    rw [List.flatten_cons, List.length_append, List.length_cons]
    rcases c with c | c
    · by_cases hr0 : r = []
      · subst hr0; simp; omega
      · have := ih hr hr0
        have : 0 < r.length := List.length_pos_iff.mpr hr0
        omega
    · subst c; simp; omega

theorem flat_dat (p : List UInt8) (n : Nat) : ((List.range n).map (dat p)).flatten = p.take (n * 49) := by
  induction n with
  | zero => simp
  | succ n ih =>
    rw [List.range_succ, List.map_append, List.flatten_append, ih]
    unfold dat
    simp only [List.map_cons, List.map_nil, List.flatten_cons, List.flatten_nil, List.append_nil]
    rw [show (n + 1) * 49 = n * 49 + 49 by omega, List.take_add]

theorem Begins.isPieces {number : Nat} {ls ds : List (List UInt8)} (h : Begins number ls ds) : Pieces ds := by
  refine Pieces.of fun i d hd => ?_
  have hi := (List.getElem?_eq_some_iff.1 hd).1
  have hl := h.2.1
  obtain ⟨_, a, b, c, _⟩ := h.2.2.2 i _ d (List.getElem?_eq_getElem (show i < ls.length by omega)) hd
  exact ⟨a, b, c⟩

theorem ne_nil_of_len {α : Type} {l : List α} (h : 1 ≤ l.length) : l ≠ [] := by
  intro e; subst e; simp at h

theorem Begins.rec {number : Nat} {ls ds : List (List UInt8)} (h : Begins number ls ds) (hn : number ≤ 4294967294) : recOK number ds.flatten ∧ cnt ds.flatten.length = ds.length ∧ blks number ds.flatten = ls.take ds.length := by
  have hp := h.isPieces
  obtain ⟨h1, h2, h3, h4⟩ := h
  have hl := hp.length (ne_nil_of_len h1)
  have hc : cnt ds.flatten.length = ds.length := by unfold cnt; omega
  refine ⟨⟨by omega, by omega, by omega, by omega⟩, hc, ?_⟩
  apply List.ext_getElem?
  intro i
  by_cases hi : i < ds.length
  · have g1 := List.getElem?_eq_getElem hi
    have g3 := List.getElem?_eq_getElem (show i < ls.length by omega)
    have b1 := (h4 i _ _ g3 g1).2.2.2.2
    rw [List.getElem?_take_of_lt hi, g3, b1]
    unfold blks
    rw [List.getElem?_map, List.getElem?_range (by rw [hc]; exact hi)]
    rw [Option.map_some]
    unfold blkAt
    rw [hc, hp.dat i _ g1]
  · rw [List.getElem?_eq_none (by rw [blks_length, hc]; omega), List.getElem?_eq_none (by rw [List.length_take]; omega)]

theorem begins_of {number : Nat} {ls : List (List UInt8)} {p : List UInt8} (hr : recOK number p) (he : blks number p = ls.take (cnt p.length)) (hl : cnt p.length ≤ ls.length) : ∃ ds, Begins number ls ds ∧ ds.flatten = p ∧ ds.length = cnt p.length := by
  obtain ⟨_, _, r1, r2⟩ := hr
  have hlen : ((List.range (cnt p.length)).map (dat p)).length = cnt p.length := by simp
  have hc1 : 1 ≤ cnt p.length := by unfold cnt; omega
  have hc2 : cnt p.length ≤ 255 := by unfold cnt; omega
  refine ⟨(List.range (cnt p.length)).map (dat p), ⟨by omega, by omega, by omega, fun i l d hl hd => ?_⟩, ?_, hlen⟩
  · rw [hlen]
    have hi := (List.getElem?_eq_some_iff.1 hd).1
    rw [hlen] at hi
    rw [List.getElem?_map, List.getElem?_range hi] at hd
    simp at hd
    subst hd
    have e2 : (ls.take (cnt p.length))[i]? = some l := by rw [List.getElem?_take_of_lt hi]; exact hl
    rw [← he] at e2
    unfold blks at e2
    rw [List.getElem?_map, List.getElem?_range hi] at e2
    simp at e2
    have hd := dat_length p i
    refine ⟨hi, ?_, ?_, ?_, e2.symm⟩
    · rw [hd]; unfold cnt at hi; omega
    · rw [hd]; omega
    · rw [hd]; unfold cnt at hi ⊢; omega
  · rw [flat_dat, List.take_of_length_le (by unfold cnt; omega)]
end Go.Proofs.Ytbpklikmldpeiaa
/-
  A record's block at a place: its length, its byte of length.
-/
namespace Go.Proofs.Ytbpklikmldpeiaa
open Go.RowKit

theorem blkAt_length (number : Nat) (p : List UInt8) (k : Nat) : (blkAt number p k).length = 64 := blkL_length _ _ _ _ (by rw [dat_length]; omega)
theorem blkAt_get6 (number : Nat) (p : List UInt8) (k : Nat) : ((blkAt number p k).getD 6 0).toNat = min 49 (p.length - k * 49) := by
  unfold blkAt
  rw [blkL_get6 _ _ _ _ (by rw [dat_length]; omega), dat_length]

theorem blks_get (number : Nat) (p : List UInt8) (k : Nat) (h : k < cnt p.length) : (blks number p)[k]? = some (blkAt number p k) := by
  unfold blks; rw [List.getElem?_map, List.getElem?_range h]; rfl
end Go.Proofs.Ytbpklikmldpeiaa
