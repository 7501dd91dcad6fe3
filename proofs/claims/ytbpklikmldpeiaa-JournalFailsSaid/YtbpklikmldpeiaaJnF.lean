/-
  What stands behind writes that fail, and behind those that don't, plain.
-/
import Derived.Test.YtbpklikmldpeiaaJnQ
namespace Go.Proofs.Ytbpklikmldpeiaa

/-! writes of distinct blocks -/

def Apart (pe : List (Nat × List UInt8)) : Prop := ∀ (i j k : Nat) (d e : List UInt8), pe[i]? = some (k, d) → pe[j]? = some (k, e) → i = j

theorem Apart.take {pe : List (Nat × List UInt8)} (h : Apart pe) (n : Nat) : Apart (pe.take n) := fun i j k d e hi hj => by
  rw [List.getElem?_take] at hi hj
  split at hi
  · split at hj
    · exact h i j k d e hi hj
    · cases hj
  · cases hi

theorem settle_apart {bl : List (List UInt8)} {pe : List (Nat × List UInt8)} {kf : Nat → Nat} (hp : Apart pe) : ∀ n, n ≤ pe.length →
    (∀ (j k : Nat) (d x : List UInt8), j < n → pe[j]? = some (k, d) → bl[k]? = some x → (settleN bl pe kf n)[k]? = some (d.take (kf j) ++ x.drop (kf j))) ∧ ∀ k, (∀ j d, j < n → pe[j]? ≠ some (k, d)) → (settleN bl pe kf n)[k]? = bl[k]?
  | 0, _ => ⟨fun j k d x hj => absurd hj (Nat.not_lt_zero _), fun k _ => rfl⟩
  | n + 1, hn => by
    obtain ⟨h1, h2⟩ := settle_apart (bl := bl) (kf := kf) hp n (by omega)
    obtain ⟨q, hq⟩ : ∃ q, pe[n]? = some q := ⟨_, List.getElem?_eq_getElem (by omega)⟩
    obtain ⟨kn, dn⟩ := q
    have hg : pe.getD n (0, []) = (kn, dn) := by rw [List.getD_eq_getElem?_getD, hq]; rfl
    rw [settleN, hg, settle1]
    refine ⟨fun j k d x hj hd hx => ?_, fun k hk => ?_⟩
    · by_cases e : j = n
      · subst e
        rw [hq] at hd
        injection hd with hd
        injection hd with e1 e2
        subst e1 e2
        have hun := h2 kn (fun i d hi hd => by have := hp i j kn d dn hd hq; omega)
        rw [List.getElem?_set_self (by rw [settleN_length]; exact (List.getElem?_eq_some_iff.1 hx).1), List.getD_eq_getElem?_getD, hun, hx]
        rfl
      · have hne : kn ≠ k := fun e2 => by subst e2; exact e (hp j n kn d dn hd hq)
        rw [List.getElem?_set_ne hne]
        exact h1 j k d x (by omega) hd hx
    · have hne : kn ≠ k := fun e2 => by subst e2; exact hk n dn (by omega) hq
      rw [List.getElem?_set_ne hne]
      exact h2 k (fun j d hj => hk j d (by omega))

theorem putTo_get (u : Nat) (ls : List (List UInt8)) {n i : Nat} (h : i < n) : (putTo u ls n)[i]? = some (u + i, ls.getD i []) := by
  unfold putTo
  rw [List.getElem?_map, List.getElem?_range h]; rfl
theorem putTo_apart (u : Nat) (ls : List (List UInt8)) (n : Nat) : Apart (putTo u ls n) := fun i j k d e hi hj => by
  have h1 := (List.getElem?_eq_some_iff.1 hi).1
  have h2 := (List.getElem?_eq_some_iff.1 hj).1
  rw [putTo_length] at h1 h2
  rw [putTo_get u ls h1] at hi
  rw [putTo_get u ls h2] at hj
  injection hi with hi
  injection hj with hj
  injection hi with hi _
  injection hj with hj _
  omega

theorem zw_get {l : List Nat} {i k : Nat} {d : List UInt8} (h : (zw l)[i]? = some (k, d)) : l[i]? = some k ∧ d = z64 := by
  unfold zw at h
  rw [List.getElem?_map] at h
  obtain ⟨x, hx, e⟩ := Option.map_eq_some_iff.1 h
  injection e with e1 e2
  exact ⟨by rw [hx, e1], e2.symm⟩
theorem zw_apart {l : List Nat} (h : l.Nodup) : Apart (zw l) := fun i j k d e hi hj => by
  obtain ⟨h1, _⟩ := zw_get hi
  obtain ⟨h2, _⟩ := zw_get hj
  obtain ⟨l1, e1⟩ := List.getElem?_eq_some_iff.1 h1
  obtain ⟨l2, e2⟩ := List.getElem?_eq_some_iff.1 h2
  exact (List.getElem_inj h).1 (e1.trans e2.symm)
theorem dirty_nodup (ls : List (List UInt8)) (u k : Nat) : (dirtyTo ls u k).Nodup := List.Sublist.nodup List.filter_sublist List.nodup_range
theorem mem_dirty {ls : List (List UInt8)} {u k i : Nat} : i ∈ dirtyTo ls u k ↔ i < k ∧ u ≤ i ∧ ls.getD i [] ≠ z64 := by
  unfold dirtyTo
  rw [List.mem_filter, List.mem_range]
  simp

/-! whether writes fail -/

/-- writes that may be -/
def May (bl : List (List UInt8)) (ps : List (Nat × List UInt8)) : Prop := ∀ p ∈ ps, p.1 < bl.length ∧ p.2.length = 64

theorem DS.write_may (bl : List (List UInt8)) (pe : List (Nat × List UInt8)) (fu : Int) (k : Nat) (d : List UInt8) (hk : k < bl.length) (hd : d.length = 64) :
    (DS.mk bl pe fu false).write (k : Nat) d = ((DS.mk bl (pe ++ [(k, d)]) fu false).thing.1, bit7 (DS.mk bl (pe ++ [(k, d)]) fu false).thing.2) := by
  have hr : (DS.mk bl pe fu false).refusal (k : Nat) = 0 := by
    unfold DS.refusal
    rw [if_neg (by simp), if_neg (by simp only; omega)]
  unfold DS.write
  rw [if_neg (by rw [hr]; decide), if_neg (by simpa using hd), Int.toNat_natCast]
  rfl

theorem thing_cases (bl : List (List UInt8)) (pe : List (Nat × List UInt8)) (fu : Int) : (∃ fu', (DS.mk bl pe fu false).thing = (⟨bl, pe, fu', false⟩, true)) ∨ (DS.mk bl pe fu false).thing = (⟨bl, pe, fu, true⟩, false) := by
  unfold DS.thing
  split
  · exact .inl ⟨_, rfl⟩
  · split
    · exact .inr rfl
    · exact .inl ⟨_, rfl⟩

theorem DS.writes_cases (bl : List (List UInt8)) (fu : Int) (ps : List (Nat × List UInt8)) : May bl ps →
    (∃ fu', (DS.mk bl [] fu false).writes ps = (⟨bl, ps, fu', false⟩, 0)) ∨ ∃ k fu', k ≤ ps.length ∧ (DS.mk bl [] fu false).writes ps = (⟨bl, ps.take k, fu', true⟩, 7) := by
  induction ps using snoc_ind with
  | h0 => exact fun _ => .inl ⟨fu, rfl⟩
  | h1 r p ih =>
    intro hm
    obtain ⟨hp1, hp2⟩ := hm p (by simp)
    rw [DS.writes_snoc]
    rcases ih (fun q hq => hm q (List.mem_append_left _ hq)) with ⟨fu', h⟩ | ⟨k, fu', hk, h⟩
    · rw [h, if_pos rfl]
      simp only
      rw [DS.write_may bl r fu' p.1 p.2 hp1 hp2]
      rcases thing_cases bl (r ++ [(p.1, p.2)]) fu' with ⟨fu2, h2⟩ | h2
      · rw [h2]; exact .inl ⟨fu2, rfl⟩
      · rw [h2]; exact .inr ⟨r.length + 1, fu', by simp, by rw [List.take_of_length_le (by simp)]; rfl⟩
    · rw [h, if_neg (by simp)]
      exact .inr ⟨k, fu', by simp; omega, by rw [List.take_append_of_le_length hk]⟩

/-- a sync behind them: all stands, or the disk is dead, and some are pending -/
theorem DS.wsync_cases {bl : List (List UInt8)} {fu : Int} {ps : List (Nat × List UInt8)} (hm : May bl ps) :
    (∃ fu', (DS.mk bl [] fu false).wsync ps = (⟨settleN bl ps (fun _ => 64) ps.length, [], fu', false⟩, 0)) ∨ ∃ k fu', k ≤ ps.length ∧ (DS.mk bl [] fu false).wsync ps = (⟨bl, ps.take k, fu', true⟩, 7) := by
  unfold DS.wsync
  rcases DS.writes_cases bl fu ps hm with ⟨fu', h⟩ | ⟨k, fu', hk, h⟩
  · rw [h, if_pos rfl]
    simp only
    unfold DS.sync
    rw [if_neg (by simp)]
    rcases thing_cases bl ps fu' with ⟨fu2, h2⟩ | h2
    · rw [h2, if_pos rfl]; exact .inl ⟨fu2, rfl⟩
    · rw [h2, if_neg (by simp)]; exact .inr ⟨ps.length, fu', Nat.le_refl _, by rw [List.take_of_length_le (Nat.le_refl _)]⟩
  · rw [h, if_neg (by simp)]
    exact .inr ⟨k, fu', hk, rfl⟩

/-- without a fuse nothing fails -/
theorem DS.wsync_fine {bl : List (List UInt8)} {ps : List (Nat × List UInt8)} (hm : May bl ps) : (DS.mk bl [] (-1) false).wsync ps = (⟨settleN bl ps (fun _ => 64) ps.length, [], -1, false⟩, 0) := by
  have h : ∀ ps, May bl ps → (DS.mk bl [] (-1) false).writes ps = (⟨bl, ps, -1, false⟩, 0) := fun ps => by
    induction ps using snoc_ind with
    | h0 => exact fun _ => rfl
    | h1 r p ih =>
      intro hm
      obtain ⟨hp1, hp2⟩ := hm p (by simp)
      rw [DS.writes_snoc, ih (fun q hq => hm q (List.mem_append_left _ hq)), if_pos rfl]
      simp only
      rw [DS.write_may bl r (-1) p.1 p.2 hp1 hp2]
      rfl
  unfold DS.wsync
  rw [h ps hm, if_pos rfl]
  rfl

/-- behind a restart: of the first k writes so many bytes each stand -/
theorem DS.wsync_restart {bl : List (List UInt8)} {fu : Int} {ps : List (Nat × List UInt8)} (hm : May bl ps) (keep : List Nat) :
    ∃ k kf, k ≤ ps.length ∧ (∀ i, kf i ≤ 64) ∧ ((DS.mk bl [] fu false).wsync ps).1.restart keep = ⟨settleN bl (ps.take k) kf k, [], -1, false⟩ ∧ (((DS.mk bl [] fu false).wsync ps).2 = 0 → k = ps.length ∧ kf = fun _ => 64) := by
  rcases DS.wsync_cases (fu := fu) hm with ⟨fu', h⟩ | ⟨k, fu', hk, h⟩
  · refine ⟨ps.length, fun _ => 64, Nat.le_refl _, fun _ => Nat.le_refl _, ?_, fun _ => ⟨rfl, rfl⟩⟩
    rw [h, List.take_of_length_le (Nat.le_refl _)]
    rfl
  · refine ⟨k, kOf keep, hk, kOf_le keep, ?_, fun h0 => ?_⟩
    · rw [h]
      unfold DS.restart
      simp only
      rw [List.length_take, Nat.min_eq_left hk]
    · rw [h] at h0; exact absurd h0 (by simp)

theorem zw_may {bl : List (List UInt8)} (u : Nat) : May bl (zw (dirtyTo bl u bl.length)) := fun p hp => by
  unfold zw at hp
  obtain ⟨k, hk, rfl⟩ := List.mem_map.1 hp
  exact ⟨(mem_dirty.1 hk).1, z64_length⟩
theorem blks_mem {n : Nat} {p x : List UInt8} (h : x ∈ blks n p) : x.length = 64 := by
  unfold blks at h
  obtain ⟨k, _, rfl⟩ := List.mem_map.1 h
  exact blkAt_length n p k
theorem put_may {bl : List (List UInt8)} {u n : Nat} {p : List UInt8} (h : u + cnt p.length ≤ bl.length) : May bl (putTo u (blks n p) (cnt p.length)) := fun q hq => by
  unfold putTo at hq
  obtain ⟨i, hi, rfl⟩ := List.mem_map.1 hq
  rw [List.mem_range] at hi
  refine ⟨by simp only; omega, blks_mem (n := n) (p := p) ?_⟩
  simp only
  rw [List.getD_eq_getElem?_getD, List.getElem?_eq_getElem (by rw [blks_length]; exact hi)]
  exact List.getElem_mem _

/-! what stands, without a failure -/

theorem layd_len (ps : List (List UInt8)) : ∀ n, ∀ x ∈ layd n ps, x.length = 64 := by
  induction ps with
  | nil => intro n x hx; simp [layd] at hx
  | cons p r ih =>
    intro n x hx
    rw [layd] at hx
    rcases List.mem_append.1 hx with h | h
    · exact blks_mem h
    · exact ih (n + 1) x h

/-- behind Open, if nothing fails -/
theorem clear_fine {bl ps : List (List UInt8)} {u : Nat} (hbl : ∀ x ∈ bl, x.length = 64) (h : Recs 0 bl ps u) : (DS.mk bl [] (-1) false).clear u = (⟨fitL ps (bl.length - u), [], -1, false⟩, 0) := by
  have hle := h.lead.le
  rw [← h.cleared]
  unfold DS.clear
  simp only
  split
  · rename_i h0
    have : bl = bl.take u ++ List.replicate (bl.length - u) z64 := by
      conv => lhs; rw [← List.take_append_drop u bl]
      congr 1
      apply List.ext_getElem?
      intro i
      by_cases hi : i < bl.length - u
      · rw [List.getElem?_drop, List.getElem?_replicate, if_pos hi, List.getElem?_eq_getElem (by omega)]
        congr 1
        by_cases hz : bl[u + i] = z64
        · exact hz
        · have : u + i ∈ dirtyTo bl u bl.length := mem_dirty.2 ⟨by omega, by omega, by rw [List.getD_eq_getElem?_getD, List.getElem?_eq_getElem (by omega)]; exact hz⟩
          rw [h0] at this; cases this
      · rw [List.getElem?_eq_none (by rw [List.length_drop]; omega), List.getElem?_eq_none (by rw [List.length_replicate]; omega)]
    rw [← this]
  · rw [DS.wsync_fine (zw_may u)]
    congr 2
    have hs := settle_apart (bl := bl) (kf := fun _ => 64) (zw_apart (dirty_nodup bl u bl.length)) _ (Nat.le_refl _)
    apply List.ext_getElem?
    intro i
    by_cases hi : i < bl.length
    · have hx := List.getElem?_eq_getElem hi
      have h64 := hbl _ (List.getElem_mem hi)
      by_cases hm : i ∈ dirtyTo bl u bl.length
      · obtain ⟨j, hj⟩ := List.getElem?_of_mem hm
        have hj2 : (zw (dirtyTo bl u bl.length))[j]? = some (i, z64) := by unfold zw; rw [List.getElem?_map, hj]; rfl
        rw [hs.1 j i z64 _ (List.getElem?_eq_some_iff.1 hj2).1 hj2 hx]
        have hui := (mem_dirty.1 hm).2.1
        rw [List.getElem?_append_right (by rw [List.length_take]; omega), List.length_take, Nat.min_eq_left hle, List.getElem?_replicate, if_pos (by omega), List.take_of_length_le (by rw [z64_length]; omega), List.drop_of_length_le (by rw [h64]; omega), List.append_nil]
      · rw [hs.2 i (fun j d _ hd => hm (List.mem_of_getElem? (zw_get hd).1))]
        by_cases hiu : i < u
        · rw [List.getElem?_append_left (by rw [List.length_take]; omega), List.getElem?_take_of_lt hiu]
        · rw [List.getElem?_append_right (by rw [List.length_take]; omega), List.length_take, Nat.min_eq_left hle, List.getElem?_replicate, if_pos (by omega), hx]
          congr 1
          by_cases hz : bl[i] = z64
          · exact hz
          · exact absurd (mem_dirty.2 ⟨hi, by omega, by rw [List.getD_eq_getElem?_getD, hx]; exact hz⟩) hm
    · rw [List.getElem?_eq_none (by rw [settleN_length]; omega), List.getElem?_eq_none (by rw [List.length_append, List.length_take, List.length_replicate]; omega)]
end Go.Proofs.Ytbpklikmldpeiaa
