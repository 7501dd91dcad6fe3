/-
  Plain lemmas: a record's blocks, one of which keeps its end from any byte on.
-/
import Derived.Test.YtbpklikmldpeiaaBlkM
import Derived.Test.YtbpklikmldpeiaaBlkK
namespace Go.Proofs.Ytbpklikmldpeiaa
open Go.RowKit

theorem lowL_inj {n x y : Nat} (hx : x < 256 ^ n) (hy : y < 256 ^ n) (h : lowL n x = lowL n y) : x = y := by
  rw [← numL_lowL n x hx, h, numL_lowL n y hy]

theorem blkL_tag (number place count : Nat) (d : List UInt8) (h : d.length ≤ 49) : (blkL number place count d).drop 60 = lowL 4 (number + 1) := by
  unfold blkL
  rw [List.drop_append_of_le_length (by rw [List.length_append, bodyL_length _ _ _ _ h, lowL_length]; omega), List.drop_of_length_le (by rw [List.length_append, bodyL_length _ _ _ _ h, lowL_length]; omega), List.nil_append]

/-- a block that is none of a record of that number: its end is another tag -/
def NotTag (number : Nat) (u : List UInt8) : Prop := u.length = 64 ∧ u.drop 60 ≠ lowL 4 (number + 1)

theorem notTag_blk {number other place count : Nat} {d : List UInt8} (hn : number ≤ 4294967294) (ho : other ≤ 4294967294) (hne : number ≠ other) (h : d.length ≤ 49) : NotTag number (blkL other place count d) := by
  refine ⟨blkL_length _ _ _ _ h, fun e => ?_⟩
  rw [blkL_tag _ _ _ _ h] at e
  have := lowL_inj (n := 4) (by omega) (by omega) e
  omega

def zero64 : List UInt8 := List.replicate 64 0
theorem notTag_zero {number : Nat} (hn : number ≤ 4294967294) : NotTag number zero64 := by
  refine ⟨by simp [zero64], fun e => ?_⟩
  have h0 : zero64.drop 60 = lowL 4 0 := by decide
  rw [h0] at e
  have := lowL_inj (n := 4) (by omega) (by omega) e
  omega

theorem take_get {x y : List UInt8} {n i : Nat} (h : x.take n = y.take n) (hi : i < n) : x.getD i 0 = y.getD i 0 := by
  rw [List.getD_eq_getElem?_getD, List.getD_eq_getElem?_getD, ← List.getElem?_take_of_lt (l := x) hi, ← List.getElem?_take_of_lt (l := y) hi, h]

theorem take_data {x y : List UInt8} {m : Nat} (h : x.take 60 = y.take 60) (hm : m ≤ 49) : (x.drop 7).take m = (y.drop 7).take m := by
  have e : ∀ z : List UInt8, (z.drop 7).take m = ((z.take 60).drop 7).take m := fun z => by
    rw [List.drop_take, List.take_take, show min m (60 - 7) = m by omega]
  rw [e x, e y, h]

/-- torn: the front of one block, the end of another -/
def torn (x u : List UInt8) (cut : Nat) : List UInt8 := x.take cut ++ u.drop cut

theorem torn_length {x u : List UInt8} {cut : Nat} (hx : x.length = 64) (hu : u.length = 64) (hc : cut ≤ 64) : (torn x u cut).length = 64 := by
  unfold torn; rw [List.length_append, List.length_take, List.length_drop]; omega

theorem torn_end {x u : List UInt8} {cut : Nat} (hx : x.length = 64) (hc : cut ≤ 60) : (torn x u cut).drop 60 = u.drop 60 := by
  unfold torn
  rw [List.drop_append, List.drop_of_length_le (by rw [List.length_take]; omega), List.nil_append, List.length_take, List.drop_drop]
  congr 1; omega

theorem torn_front {x u : List UInt8} {cut : Nat} (hx : x.length = 64) (hc : 60 ≤ cut) : (torn x u cut).take 60 = x.take 60 := by
  unfold torn
  rw [List.take_append_of_le_length (by rw [List.length_take]; omega), List.take_take, show min 60 cut = 60 by omega]

theorem torn_none {number : Nat} {p u : List UInt8} {k cut : Nat} (hr : recOK number p) (hk : k < cnt p.length) (hu : NotTag number u) (hne : torn (blkAt number p k) u cut ≠ blkAt number p k) :
    ∀ ds, ¬ Begins number ((blks number p).set k (torn (blkAt number p k) u cut)) ds := by
  intro ds hb
  obtain ⟨hr0, hr1, hr2, hr3⟩ := hr
  have hq2 : cnt p.length ≤ 255 := by unfold cnt; omega
  have h1 := hb.1
  have h3 := hb.2.2.1
  have hlen : ((blks number p).set k (torn (blkAt number p k) u cut)).length = cnt p.length := by rw [List.length_set, blks_length]
  have gk : ((blks number p).set k (torn (blkAt number p k) u cut))[k]? = some (torn (blkAt number p k) u cut) := by
    rw [List.getElem?_set_self (by rw [blks_length]; exact hk)]
  -- the torn one is among those that are read
  have hkc : k < ds.length := by
    rcases Nat.eq_zero_or_pos k with h0 | h0
    · omega
    · have g0 : ((blks number p).set k (torn (blkAt number p k) u cut))[0]? = some (blkAt number p 0) := by
        rw [List.getElem?_set_ne (by omega), blks_get number p 0 (by omega)]
      have e := hb.told _ g0
      unfold cntOf at e
      rw [if_pos (blkAt_length _ _ _)] at e
      unfold blkAt at e
      rw [blkL_get5 _ _ _ _ hq2] at e
      omega
  obtain ⟨d, hd⟩ : ∃ d, ds[k]? = some d := ⟨_, List.getElem?_eq_getElem hkc⟩
  obtain ⟨_, b1, b2, _, be⟩ := hb.2.2.2 k _ d gk hd
  by_cases hc : cut ≤ 60
  · have e := torn_end (x := blkAt number p k) (u := u) (blkAt_length _ _ _) hc
    rw [be, blkL_tag _ _ _ _ b2] at e
    exact hu.2 e.symm
  · have e := torn_front (x := blkAt number p k) (u := u) (cut := cut) (blkAt_length _ _ _) (by omega)
    rw [be] at e
    have hd49 : (dat p k).length ≤ 49 := by rw [dat_length]; omega
    have g5 := congrArg UInt8.toNat (take_get (i := 5) e (by omega))
    have g6 := congrArg UInt8.toNat (take_get (i := 6) e (by omega))
    unfold blkAt at g5 g6
    rw [blkL_get5 _ _ _ _ h3, blkL_get5 _ _ _ _ hq2] at g5
    rw [blkL_get6 _ _ _ _ b2, blkL_get6 _ _ _ _ hd49] at g6
    have gd := take_data e b2
    rw [blkL_data] at gd
    unfold blkAt at gd
    rw [g6, blkL_data] at gd
    apply hne
    rw [be, gd, g5]
    rfl

theorem blks_begin (number : Nat) (p : List UInt8) (more : List (List UInt8)) (h : recOK number p) : ∃ ds, Begins number (blks number p ++ more) ds ∧ ds.flatten = p ∧ ds.length = cnt p.length := by
  refine begins_of h ?_ (by rw [List.length_append, blks_length]; omega)
  rw [List.take_append_of_le_length (by rw [blks_length]; omega), List.take_of_length_le (by rw [blks_length]; omega)]

theorem set_same {number : Nat} {p : List UInt8} {k : Nat} {x : List UInt8} (hk : k < cnt p.length) (h : x = blkAt number p k) : (blks number p).set k x = blks number p := by
  subst h
  apply List.ext_getElem?
  intro i
  by_cases hi : i = k
  · subst hi
    rw [List.getElem?_set_self (by rw [blks_length]; exact hk), blks_get _ _ _ hk]
  · rw [List.getElem?_set_ne (by omega)]
end Go.Proofs.Ytbpklikmldpeiaa
