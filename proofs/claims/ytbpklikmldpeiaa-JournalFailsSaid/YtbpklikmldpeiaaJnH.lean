/-
  A disk whose power failed while a record was written, or while it was emptied, again and again, plain.
-/
import Derived.Test.YtbpklikmldpeiaaJnG
namespace Go.Proofs.Ytbpklikmldpeiaa

/-- a block whose bytes from a place up to another are another one's; all else is 0 -/
def Mix (t x : List UInt8) : Prop := x.length = 64 ∧ ∃ a b : Nat, ∀ j, j < 64 → x.getD j 0 = if a ≤ j ∧ j < b then t.getD j 0 else 0

theorem z64_get (j : Nat) : z64.getD j 0 = 0 := by
  rw [List.getD_eq_getElem?_getD]
  unfold z64
  rw [List.getElem?_replicate]
  split <;> rfl
theorem getD_torn {d x : List UInt8} {n j : Nat} (hd : d.length = 64) (hn : n ≤ 64) : (d.take n ++ x.drop n).getD j 0 = if j < n then d.getD j 0 else x.getD j 0 := by
  simp only [List.getD_eq_getElem?_getD]
  by_cases h : j < n
  · rw [if_pos h, List.getElem?_append_left (by rw [List.length_take]; omega), List.getElem?_take_of_lt h]
  · rw [if_neg h, List.getElem?_append_right (by rw [List.length_take]; omega), List.length_take, List.getElem?_drop, show n + (j - min n d.length) = j by omega]

theorem Mix.zero {t x : List UInt8} (h : Mix t x) {n : Nat} (hn : n ≤ 64) : Mix t (z64.take n ++ x.drop n) := by
  obtain ⟨h64, a, b, hm⟩ := h
  refine ⟨by simp [z64_length, h64]; omega, max a n, b, fun j hj => ?_⟩
  rw [getD_torn z64_length hn, z64_get]
  by_cases h1 : j < n
  · rw [if_pos h1, if_neg (by omega)]
  · rw [if_neg h1, hm j hj]
    by_cases h2 : a ≤ j ∧ j < b
    · rw [if_pos h2, if_pos (by omega)]
    · rw [if_neg h2, if_neg (by omega)]
theorem Mix.put {d : List UInt8} (hd : d.length = 64) {n : Nat} (hn : n ≤ 64) : Mix d (d.take n ++ z64.drop n) := by
  refine ⟨by simp [z64_length, hd]; omega, 0, n, fun j _ => ?_⟩
  rw [getD_torn hd hn, z64_get]
  by_cases h1 : j < n
  · rw [if_pos h1, if_pos (by omega)]
  · rw [if_neg h1, if_neg (by omega)]
theorem Mix.nothing (t : List UInt8) : Mix t z64 := ⟨z64_length, 0, 0, fun j _ => by rw [z64_get, if_neg (by omega)]⟩

theorem eq_of_getD {x y : List UInt8} (hx : x.length = 64) (hy : y.length = 64) (h : ∀ j, j < 64 → x.getD j 0 = y.getD j 0) : x = y := by
  apply List.ext_getElem?
  intro j
  by_cases hj : j < 64
  · have := h j hj
    simp only [List.getD_eq_getElem?_getD] at this
    rw [List.getElem?_eq_getElem (by omega), List.getElem?_eq_getElem (by omega)] at this ⊢
    simpa using this
  · rw [List.getElem?_eq_none (by omega), List.getElem?_eq_none (by omega)]
theorem Mix.of_zero {x : List UInt8} (h : Mix z64 x) : x = z64 := by
  obtain ⟨h64, a, b, hm⟩ := h
  refine eq_of_getD h64 z64_length fun j hj => ?_
  rw [hm j hj, z64_get]
  split <;> rfl

/-! a tag is at both ends -/

theorem blkL_front (number place count : Nat) (d : List UInt8) : (blkL number place count d).take 4 = lowL 4 (number + 1) := by
  unfold blkL
  generalize lowL 4 (wd (sumI (bodyL number place count d))) = X
  unfold bodyL
  simp only [List.append_assoc]
  exact List.take_left' (lowL_length 4 _)

/-- a tag has a byte that isn't 0 -/
theorem tag_byte {number : Nat} (hn : number ≤ 4294967294) : ∃ i, i < 4 ∧ (lowL 4 (number + 1)).getD i 0 ≠ 0 := by
  refine Classical.byContradiction fun hno => ?_
  have h0 : ∀ i, i < 4 → (lowL 4 (number + 1)).getD i 0 = 0 := fun i hi => Classical.byContradiction fun h => hno ⟨i, hi, h⟩
  have e : lowL 4 (number + 1) = lowL 4 0 := by
    apply List.ext_getElem?
    intro i
    by_cases hi : i < 4
    · have h1 := h0 i hi
      rw [List.getD_eq_getElem?_getD, List.getElem?_eq_getElem (by rw [lowL_length]; exact hi)] at h1
      rw [List.getElem?_eq_getElem (by rw [lowL_length]; exact hi)]
      simp only [Option.getD_some] at h1
      rw [h1]
      match i, hi with
      | 0, _ => rfl
      | 1, _ => rfl
      | 2, _ => rfl
      | 3, _ => rfl
    · rw [List.getElem?_eq_none (by rw [lowL_length]; omega), List.getElem?_eq_none (by rw [lowL_length]; omega)]
  have := lowL_inj (n := 4) (x := number + 1) (y := 0) (by omega) (by omega) e
  omega

/-- a block of a record, that is mixed from a block of a record of the same number, is that one -/
theorem Mix.whole {number p1 c1 p2 c2 : Nat} {d1 d2 x : List UInt8} (hn : number ≤ 4294967294) (h1 : d1.length ≤ 49) (h : Mix (blkL number p1 c1 d1) x) (hx : IsBlk number p2 c2 x d2) : x = blkL number p1 c1 d1 := by
  obtain ⟨h64, a, b, hm⟩ := h
  obtain ⟨_, _, h2, _, hx⟩ := hx
  obtain ⟨i, hi, hb⟩ := tag_byte hn
  have ft : ∀ j, j < 4 → x.getD j 0 = (lowL 4 (number + 1)).getD j 0 ∧ (blkL number p1 c1 d1).getD j 0 = (lowL 4 (number + 1)).getD j 0 := fun j hj => by
    have e1 := blkL_front number p2 c2 d2
    have e2 := blkL_front number p1 c1 d1
    rw [← hx] at e1
    refine ⟨?_, ?_⟩
    · rw [← e1]; simp only [List.getD_eq_getElem?_getD]; rw [List.getElem?_take_of_lt hj]
    · rw [← e2]; simp only [List.getD_eq_getElem?_getD]; rw [List.getElem?_take_of_lt hj]
  have bt : ∀ j, j < 4 → x.getD (60 + j) 0 = (lowL 4 (number + 1)).getD j 0 ∧ (blkL number p1 c1 d1).getD (60 + j) 0 = (lowL 4 (number + 1)).getD j 0 := fun j _ => by
    have e1 := blkL_tag number p2 c2 d2 h2
    have e2 := blkL_tag number p1 c1 d1 h1
    rw [← hx] at e1
    refine ⟨?_, ?_⟩
    · rw [← e1]; simp only [List.getD_eq_getElem?_getD]; rw [List.getElem?_drop]
    · rw [← e2]; simp only [List.getD_eq_getElem?_getD]; rw [List.getElem?_drop]
  have ha : a ≤ i := by
    have h3 := hm i (by omega)
    rw [(ft i hi).1] at h3
    by_cases h4 : a ≤ i ∧ i < b
    · exact h4.1
    · rw [if_neg h4] at h3; exact absurd h3 hb
  have hbb : 60 + i < b := by
    have h3 := hm (60 + i) (by omega)
    rw [(bt i hi).1] at h3
    by_cases h4 : a ≤ 60 + i ∧ 60 + i < b
    · exact h4.2
    · rw [if_neg h4] at h3; exact absurd h3 hb
  refine eq_of_getD h64 (blkL_length _ _ _ _ h1) fun j hj => ?_
  by_cases h5 : j < 4
  · rw [(ft j h5).1, (ft j h5).2]
  · by_cases h6 : j < 60
    · rw [hm j hj, if_pos (by omega)]
    · obtain ⟨k, rfl⟩ : ∃ k, j = 60 + k := ⟨j - 60, by omega⟩
      rw [(bt k (by omega)).1, (bt k (by omega)).2]

theorem Mix.no_blk {number p2 c2 : Nat} {d2 x : List UInt8} (hn : number ≤ 4294967294) (h : Mix z64 x) : ¬ IsBlk number p2 c2 x d2 := by
  rw [h.of_zero]; exact not_zero hn

/-! what may stand -/

/-- the records, and behind them what a record's blocks, or none's, have become -/
structure Fit (bl ps q : List (List UInt8)) : Prop where
  ok : AllOk ps
  room : used ps + q.length ≤ bl.length
  lay : bl.take (used ps) = layd 0 ps
  mix : ∀ i x, bl[used ps + i]? = some x → Mix (q.getD i z64) x

theorem Fit.few {bl ps q : List (List UInt8)} (h : Fit bl ps q) : ps.length ≤ bl.length := by have := h.ok.few; have := h.room; omega

theorem Fit.clean {bl ps : List (List UInt8)} (h : Fit bl ps []) : bl = fitL ps (bl.length - used ps) := by
  have hr := h.room
  simp only [List.length_nil] at hr
  conv => lhs; rw [← List.take_append_drop (used ps) bl, h.lay]
  rw [fitL]
  congr 1
  apply List.ext_getElem?
  intro i
  by_cases hi : i < bl.length - used ps
  · obtain ⟨x, hx⟩ : ∃ x, bl[used ps + i]? = some x := ⟨_, List.getElem?_eq_getElem (by omega)⟩
    have := h.mix i x hx
    rw [List.getD_eq_getElem?_getD, List.getElem?_nil] at this
    rw [List.getElem?_drop, List.getElem?_replicate, if_pos hi, hx, this.of_zero]
  · rw [List.getElem?_eq_none (by rw [List.length_drop]; omega), List.getElem?_eq_none (by rw [List.length_replicate]; omega)]

theorem Fit.ofCl {ps : List (List UInt8)} {z : Nat} (h : AllOk ps) : Fit (fitL ps z) ps [] := by
  refine ⟨h, by rw [fitL_length]; simp, by show (layd 0 ps ++ _).take (layd 0 ps).length = _; rw [List.take_left' rfl], fun i x hx => ?_⟩
  rw [fitL, List.getElem?_append_right (by show used ps ≤ _; omega)] at hx
  rw [(List.mem_replicate.1 (List.mem_of_getElem? hx)).2]
  exact Mix.nothing _

/-- with which records such blocks begin -/
theorem Fit.recs {bl ps q qs : List (List UInt8)} {u : Nat} (h : Fit bl ps q) (hl : bl.length ≤ 65536) (hq : q = [] ∨ ∃ p, recOK ((ps.length : Nat) : Int) p ∧ q = blks ps.length p) (hr : Recs 0 bl qs u) :
    (qs = ps ∧ u = used ps) ∨ ∃ p, q = blks ps.length p ∧ recOK ((ps.length : Nat) : Int) p ∧ qs = ps ++ [p] ∧ u = used (ps ++ [p]) := by
  have hfew := h.few
  have hlead : Lead 0 bl ps (used ps) := ⟨fun i p hp => by rw [Nat.zero_add]; exact h.ok i p hp, h.lay, by have := h.room; omega⟩
  have hnz : ∀ i x number place count d, number ≤ 4294967294 → bl[used ps + i]? = some x → q.length ≤ i → ¬ IsBlk number place count x d := fun i x number place count d hn hx hi => by
    have := h.mix i x hx
    rw [List.getD_eq_getElem?_getD, List.getElem?_eq_none hi] at this
    exact Mix.no_blk hn this
  by_cases hb : ∃ ds, Begins (0 + ps.length) (bl.drop (used ps)) ds
  · obtain ⟨ds, hd⟩ := hb
    rw [Nat.zero_add] at hd
    have hn : ps.length ≤ 4294967294 := by omega
    obtain ⟨l0, d0, hl0, hb0⟩ := begins_first hd
    rw [List.getElem?_drop] at hl0
    rcases hq with rfl | ⟨p, hp, rfl⟩
    · exact absurd hb0 (hnz 0 l0 _ _ _ _ hn hl0 (Nat.zero_le _))
    · right
      have hc := cnt_pos hp
      have key : ∀ i l d, i < ds.length → bl[used ps + i]? = some l → ds[i]? = some d → i < cnt p.length ∧ l = blkAt ps.length p i := fun i l d hi hl hdd => by
        have hblk := hd.2.2.2 i l d (by rw [List.getElem?_drop]; exact hl) hdd
        by_cases hic : i < cnt p.length
        · have hm := h.mix i l hl
          rw [List.getD_eq_getElem?_getD, blks_get ps.length p i hic] at hm
          exact ⟨hic, Mix.whole hn (by rw [dat_length]; omega) hm hblk⟩
        · exact absurd hblk (hnz i l _ _ _ _ hn hl (by rw [blks_length]; omega))
      have h1 := hd.1
      have h2 := hd.2.1
      rw [List.length_drop] at h2
      have hlen : ds.length = cnt p.length := by
        obtain ⟨d, hdd⟩ : ∃ d, ds[0]? = some d := ⟨_, List.getElem?_eq_getElem (by omega)⟩
        obtain ⟨_, e⟩ := key 0 l0 d (by omega) hl0 hdd
        have ht := hd.told l0 (by rw [List.getElem?_drop]; exact hl0)
        rw [ht]
        unfold cntOf
        rw [e, if_pos (blkAt_length _ _ _)]
        unfold blkAt
        rw [blkL_get5 _ _ _ _ hc.2]
      have hbt : blks ps.length p = (bl.drop (used ps)).take (cnt p.length) := by
        apply List.ext_getElem?
        intro i
        by_cases hi : i < cnt p.length
        · obtain ⟨l, hl⟩ : ∃ l, bl[used ps + i]? = some l := ⟨_, List.getElem?_eq_getElem (by omega)⟩
          obtain ⟨d, hdd⟩ : ∃ d, ds[i]? = some d := ⟨_, List.getElem?_eq_getElem (by omega)⟩
          rw [blks_get _ _ _ hi, List.getElem?_take_of_lt hi, List.getElem?_drop, hl, (key i l d (by omega) hl hdd).2]
        · rw [List.getElem?_eq_none (by rw [blks_length]; omega), List.getElem?_eq_none (by rw [List.length_take]; omega)]
      obtain ⟨ds', hd', hf', hl'⟩ := begins_of hp hbt (by rw [List.length_drop]; omega)
      have e := hd.inj hd'
      subst e
      have hlead2 := hlead.snoc (by rw [Nat.zero_add]; exact hd) (by omega)
      rw [hf', hlen, ← used_snoc] at hlead2
      have hr2 : Recs 0 bl (ps ++ [p]) (used (ps ++ [p])) := ⟨hlead2, fun ds2 hd2 => by
        obtain ⟨l2, d2, hl2, hb2⟩ := begins_first hd2
        rw [List.getElem?_drop, used_snoc, Nat.add_zero] at hl2
        exact hnz (cnt p.length) l2 _ _ _ _ (by simp; omega) hl2 (by rw [blks_length]; exact Nat.le_refl _) hb2⟩
      obtain ⟨e1, e2⟩ := hr.inj hr2
      exact ⟨p, rfl, hp, e1, e2⟩
  · left
    exact hr.inj ⟨hlead, fun ds hd => hb ⟨ds, hd⟩⟩

/-- a record is put on empty blocks: whatever of it stands -/
theorem Fit.put {ps : List (List UInt8)} {z : Nat} {p : List UInt8} (h : AllOk ps) (hz : cnt p.length ≤ z) {k : Nat} {kf : Nat → Nat} (hk : k ≤ cnt p.length) (hkf : ∀ i, kf i ≤ 64) :
    Fit (settleN (fitL ps z) ((putTo (used ps) (blks ps.length p) (cnt p.length)).take k) kf k) ps (blks ps.length p) := by
  have hL := fitL_length ps z
  have hs := settle_apart (bl := fitL ps z) (kf := kf) ((putTo_apart (used ps) (blks ps.length p) (cnt p.length)).take k) k (by rw [List.length_take, putTo_length]; omega)
  have hg : ∀ j k' d, ((putTo (used ps) (blks ps.length p) (cnt p.length)).take k)[j]? = some (k', d) → k' = used ps + j ∧ j < k ∧ (blks ps.length p)[j]? = some d := fun j k' d hd => by
    have hj := (List.getElem?_eq_some_iff.1 hd).1
    rw [List.length_take, putTo_length] at hj
    rw [List.getElem?_take_of_lt (by omega), putTo_get _ _ (by omega)] at hd
    injection hd with hd
    injection hd with e1 e2
    refine ⟨e1.symm, by omega, ?_⟩
    rw [List.getElem?_eq_getElem (by rw [blks_length]; omega)]
    rw [List.getD_eq_getElem?_getD, List.getElem?_eq_getElem (by rw [blks_length]; omega)] at e2
    simpa using e2
  refine ⟨h, by rw [settleN_length, hL, blks_length]; omega, ?_, fun i x hx => ?_⟩
  · apply List.ext_getElem?
    intro i
    by_cases hi : i < used ps
    · rw [List.getElem?_take_of_lt hi, hs.2 i (fun j d _ hd => by have := (hg j i d hd).1; omega), fitL, List.getElem?_append_left hi]
    · rw [List.getElem?_eq_none (by rw [List.length_take]; omega), List.getElem?_eq_none (by show used ps ≤ i; omega)]
  · have hi := (List.getElem?_eq_some_iff.1 hx).1
    rw [settleN_length, hL] at hi
    have hz0 : (fitL ps z)[used ps + i]? = some z64 := by
      rw [fitL, List.getElem?_append_right (by show used ps ≤ _; omega), List.getElem?_replicate, if_pos (by have : (layd 0 ps).length = used ps := rfl; omega)]
    by_cases hik : i < k
    · obtain ⟨d, hd⟩ : ∃ d, (blks ps.length p)[i]? = some d := ⟨_, List.getElem?_eq_getElem (by rw [blks_length]; omega)⟩
      have hp : ((putTo (used ps) (blks ps.length p) (cnt p.length)).take k)[i]? = some (used ps + i, d) := by
        rw [List.getElem?_take_of_lt hik, putTo_get _ _ (by omega), List.getD_eq_getElem?_getD, hd]; rfl
      rw [hs.1 i (used ps + i) d z64 hik hp hz0] at hx
      injection hx with hx
      rw [← hx, List.getD_eq_getElem?_getD, hd]
      exact Mix.put (blks_mem (List.mem_of_getElem? hd)) (hkf i)
    · rw [hs.2 _ (fun j d _ hd => by have := (hg j _ d hd); omega), hz0] at hx
      injection hx with hx
      rw [← hx]
      exact Mix.nothing _

/-- blocks behind are emptied: whatever of that stands -/
theorem Fit.zero {bl ps q : List (List UInt8)} (h : Fit bl ps q) {u : Nat} (hu : used ps ≤ u) {k : Nat} {kf : Nat → Nat} (hk : k ≤ (zw (dirtyTo bl u bl.length)).length) (hkf : ∀ i, kf i ≤ 64) :
    Fit (settleN bl ((zw (dirtyTo bl u bl.length)).take k) kf k) ps q := by
  have hs := settle_apart (bl := bl) (kf := kf) ((zw_apart (dirty_nodup bl u bl.length)).take k) k (by rw [List.length_take]; omega)
  have hg : ∀ j k' d, ((zw (dirtyTo bl u bl.length)).take k)[j]? = some (k', d) → j < k ∧ u ≤ k' ∧ d = z64 := fun j k' d hd => by
    have hj := (List.getElem?_eq_some_iff.1 hd).1
    rw [List.length_take] at hj
    rw [List.getElem?_take_of_lt (by omega)] at hd
    obtain ⟨h1, h2⟩ := zw_get hd
    exact ⟨by omega, (mem_dirty.1 (List.mem_of_getElem? h1)).2.1, h2⟩
  refine ⟨h.ok, by rw [settleN_length]; exact h.room, ?_, fun i x hx => ?_⟩
  · rw [← h.lay]
    apply List.ext_getElem?
    intro i
    by_cases hi : i < used ps
    · rw [List.getElem?_take_of_lt hi, List.getElem?_take_of_lt hi, hs.2 i (fun j d _ hd => by have := (hg j i d hd); omega)]
    · rw [List.getElem?_eq_none (by rw [List.length_take]; omega), List.getElem?_eq_none (by rw [List.length_take]; omega)]
  · have hi := (List.getElem?_eq_some_iff.1 hx).1
    rw [settleN_length] at hi
    obtain ⟨y, hy⟩ : ∃ y, bl[used ps + i]? = some y := ⟨_, List.getElem?_eq_getElem hi⟩
    by_cases hm : ∃ (j : Nat) (d : List UInt8), ((zw (dirtyTo bl u bl.length)).take k)[j]? = some (used ps + i, d)
    · obtain ⟨j, d, hd⟩ := hm
      obtain ⟨h1, _, h3⟩ := hg j _ d hd
      subst h3
      rw [hs.1 j (used ps + i) z64 y h1 hd hy] at hx
      injection hx with hx
      rw [← hx]
      exact (h.mix i y hy).zero (hkf j)
    · rw [hs.2 _ (fun j d _ hd => hm ⟨j, d, hd⟩), hy] at hx
      injection hx with hx
      rw [← hx]
      exact h.mix i y hy
end Go.Proofs.Ytbpklikmldpeiaa
