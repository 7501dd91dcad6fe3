/-
  Plain lemmas: a record's blocks, one of which keeps its end from any byte on.
-/
import Derived.Test.YtbpklikmldpeiaaMA03
import Derived.Test.YtbpklikmldpeiaaBlkKMA
import Derived.Test.YtbpklikmldpeiaaMA01
namespace Go.Proofs.Ytbpklikmldpeiaa
open Go.RowKit

theorem lowL_inj {n x y : Nat} (hx : x < 256 ^ n) (hy : y < 256 ^ n) (h : lowL n x = lowL n y) : x = y := by
  rw [← numL_lowL n x hx, h, numL_lowL n y hy]

theorem blkL_tag (number place count : Nat) (d : List UInt8) (h : d.length ≤ 49) : (blkL number place count d).drop 60 = lowL 4 (number + 1) := by
  unfold blkL
  rw [List.drop_append_of_le_length (by rw [List.length_append, bodyL_length _ _ _ _ h, lowL_length]; omega), List.drop_of_length_le (by rw [List.length_append, bodyL_length _ _ _ _ h, lowL_length]; omega), List.nil_append]

/-- a block that is none of a record of that number: its end is another tag -/
def NotTag (number : Nat) (u : List UInt8) : Prop := u.length = 64 ∧ u.drop 60 ≠ lowL 4 (number + 1)

theorem notTag_blk {number other place count : Nat} {d : List UInt8} (hn : number ≤ 4294967294) (ho : other ≤ 4294967294) (hne : number ≠ other) (h : d.length ≤ 49) : NotTag number (blkL other place count d) := by
  refine ⟨blkL_length _ _ _ _ h, fun e => ?_⟩
  rw [blkL_tag _ _ _ _ h] at e
  have := lowL_inj (n := 4) (by omega) (by omega) e
  omega

def zero64 : List UInt8 := List.replicate 64 0
theorem notTag_zero {number : Nat} (hn : number ≤ 4294967294) : NotTag number zero64 := by
  refine ⟨by simp [zero64], fun e => ?_⟩
  have h0 : zero64.drop 60 = lowL 4 0 := by decide
  rw [h0] at e
  have := lowL_inj (n := 4) (by omega) (by omega) e
  omega

theorem take_get {x y : List UInt8} {n i : Nat} (h : x.take n = y.take n) (hi : i < n) : x.getD i 0 = y.getD i 0 := by
  rw [List.getD_eq_getElem?_getD, List.getD_eq_getElem?_getD, ← List.getElem?_take_of_lt (l := x) hi, ← List.getElem?_take_of_lt (l := y) hi, h]

theorem take_data {x y : List UInt8} {m : Nat} (h : x.take 60 = y.take 60) (hm : m ≤ 49) : (x.drop 7).take m = (y.drop 7).take m := by
  have e : ∀ z : List UInt8, (z.drop 7).take m = ((z.take 60).drop 7).take m := fun z => by
    rw [List.drop_take, List.take_take, show min m (60 - 7) = m by omega]
  rw [e x, e y, h]

/-- torn: the front of one block, the end of another -/
def torn (x u : List UInt8) (cut : Nat) : List UInt8 := x.take cut ++ u.drop cut

theorem torn_length {x u : List UInt8} {cut : Nat} (hx : x.length = 64) (hu : u.length = 64) (hc : cut ≤ 64) : (torn x u cut).length = 64 := by
  unfold torn; rw [List.length_append, List.length_take, List.length_drop]; omega

theorem torn_end {x u : List UInt8} {cut : Nat} (hx : x.length = 64) (hc : cut ≤ 60) : (torn x u cut).drop 60 = u.drop 60 := by
  unfold torn
  rw [List.drop_append, List.drop_of_length_le (by rw [List.length_take]; omega), List.nil_append, List.length_take, List.drop_drop]
  congr 1; omega

theorem torn_front {x u : List UInt8} {cut : Nat} (hx : x.length = 64) (hc : 60 ≤ cut) : (torn x u cut).take 60 = x.take 60 := by
  unfold torn
  rw [List.take_append_of_le_length (by rw [List.length_take]; omega), List.take_take, show min 60 cut = 60 by omega]

theorem torn_none {number : Nat} {p u : List UInt8} {k cut : Nat} (hr : recOK number p) (hk : k < cnt p.length) (hu : NotTag number u) (hne : torn (blkAt number p k) u cut ≠ blkAt number p k) :
    ∀ ds, ¬ Begins number ((blks number p).set k (torn (blkAt number p k) u cut)) ds := by
  intro ds hb
  obtain ⟨hr0, hr1, hr2, hr3⟩ := hr
  have hq2 : cnt p.length ≤ 255 := by unfold cnt; omega
  have h1 := hb.1
  have h3 := hb.2.2.1
  have hlen : ((blks number p).set k (torn (blkAt number p k) u cut)).length = cnt p.length := by rw [List.length_set, blks_length]
  have gk : ((blks number p).set k (torn (blkAt number p k) u cut))[k]? = some (torn (blkAt number p k) u cut) := by
    rw [List.getElem?_set_self (by rw [blks_length]; exact hk)]
  -- the torn one is among those that are read
  have hkc : k < ds.length := by
    rcases Nat.eq_zero_or_pos k with h0 | h0
    · omega
    · have g0 : ((blks number p).set k (torn (blkAt number p k) u cut))[0]? = some (blkAt number p 0) := by
        rw [List.getElem?_set_ne (by omega), blks_get number p 0 (by omega)]
      have e := hb.told _ g0
      unfold cntOf at e
      rw [if_pos (blkAt_length _ _ _)] at e
      unfold blkAt at e
      rw [blkL_get5 _ _ _ _ hq2] at e
      omega
  obtain ⟨d, hd⟩ : ∃ d, ds[k]? = some d := ⟨_, List.getElem?_eq_getElem hkc⟩
  obtain ⟨_, b1, b2, _, be⟩ := hb.2.2.2 k _ d gk hd
  by_cases hc : cut ≤ 60
  · have e := torn_end (x := blkAt number p k) (u := u) (blkAt_length _ _ _) hc
    rw [be, blkL_tag _ _ _ _ b2] at e
    exact hu.2 e.symm
  · have e := torn_front (x := blkAt number p k) (u := u) (cut := cut) (blkAt_length _ _ _) (by omega)
    rw [be] at e
    have hd49 : (dat p k).length ≤ 49 := by rw [dat_length]; omega
    have g5 := congrArg UInt8.toNat (take_get (i := 5) e (by omega))
    have g6 := congrArg UInt8.toNat (take_get (i := 6) e (by omega))
    unfold blkAt at g5 g6
    rw [blkL_get5 _ _ _ _ h3, blkL_get5 _ _ _ _ hq2] at g5
    rw [blkL_get6 _ _ _ _ b2, blkL_get6 _ _ _ _ hd49] at g6
    have gd := take_data e b2
    rw [blkL_data] at gd
    unfold blkAt at gd
    rw [g6, blkL_data] at gd
    apply hne
    rw [be, gd, g5]
    rfl

theorem blks_begin (number : Nat) (p : List UInt8) (more : List (List UInt8)) (h : recOK number p) : ∃ ds, Begins number (blks number p ++ more) ds ∧ ds.flatten = p ∧ ds.length = cnt p.length := by
  refine begins_of h ?_ (by rw [List.length_append, blks_length]; omega)
  rw [List.take_append_of_le_length (by rw [blks_length]; omega), List.take_of_length_le (by rw [blks_length]; omega)]

theorem set_same {number : Nat} {p : List UInt8} {k : Nat} {x : List UInt8} (hk : k < cnt p.length) (h : x = blkAt number p k) : (blks number p).set k x = blks number p := by
  subst h
  apply List.ext_getElem?
  intro i
  by_cases hi : i = k
  · subst hi
    rw [List.getElem?_set_self (by rw [blks_length]; exact hk), blks_get _ _ _ hk]
  · rw [List.getElem?_set_ne (by omega)]
end Go.Proofs.Ytbpklikmldpeiaa
/-
  Records, plain: what a list of blocks begins with.
-/
namespace Go.Proofs.Ytbpklikmldpeiaa

/-- the blocks of records, from a number on -/
def layd : Nat → List (List UInt8) → List (List UInt8)
  | _, [] => []
  | n, p :: r => blks n p ++ layd (n + 1) r

theorem layd_append : ∀ (n : Nat) (ps qs : List (List UInt8)), layd n (ps ++ qs) = layd n ps ++ layd (n + ps.length) qs
  | n, [], qs => by simp [layd]
  | n, p :: r, qs => by
    rw [List.cons_append, layd, layd, layd_append (n + 1) r qs, List.append_assoc, List.length_cons, show n + 1 + r.length = n + (r.length + 1) by omega]
theorem layd_one (n : Nat) (p : List UInt8) : layd n [p] = blks n p := by simp [layd]

/-- what the blocks begin with, as far as it was looked at -/
structure Lead (n : Nat) (ls ps : List (List UInt8)) (u : Nat) : Prop where
  ok : ∀ i p, ps[i]? = some p → recOK ((n + i : Nat) : Int) p
  lay : ls.take u = layd n ps
  le : u ≤ ls.length

/-- the records with which blocks begin, and how many blocks they have -/
structure Recs (n : Nat) (ls ps : List (List UInt8)) (u : Nat) : Prop where
  lead : Lead n ls ps u
  stop : ∀ ds, ¬ Begins (n + ps.length) (ls.drop u) ds

theorem Lead.none (n : Nat) (ls : List (List UInt8)) : Lead n ls [] 0 := ⟨fun i p h => by simp at h, by simp [layd], Nat.zero_le _⟩

theorem cnt_pos {number : Int} {p : List UInt8} (h : recOK number p) : 1 ≤ cnt p.length ∧ cnt p.length ≤ 255 := by
  obtain ⟨_, _, h1, h2⟩ := h
  unfold cnt; omega

theorem Lead.len {n : Nat} {ls ps : List (List UInt8)} {u : Nat} (h : Lead n ls ps u) : u = (layd n ps).length := by
  rw [← h.lay, List.length_take]; have := h.le; omega

theorem layd_le : ∀ (n : Nat) (ps : List (List UInt8)), (∀ i p, ps[i]? = some p → recOK ((n + i : Nat) : Int) p) → ps.length ≤ (layd n ps).length
  | _, [], _ => Nat.zero_le _
  | n, p :: r, h => by
    have h1 := layd_le (n + 1) r (fun i q hq => by have := h (i + 1) q (by simpa using hq); rwa [show n + 1 + i = n + (i + 1) by omega])
    have h2 := cnt_pos (h 0 p rfl)
    rw [layd, List.length_append, blks_length, List.length_cons]
    omega
theorem Lead.few {n : Nat} {ls ps : List (List UInt8)} {u : Nat} (h : Lead n ls ps u) : ps.length ≤ u := by
  have := layd_le n ps h.ok
  rw [h.len]; exact this

theorem Lead.snoc {n : Nat} {ls ps ds : List (List UInt8)} {u : Nat} (h : Lead n ls ps u) (hb : Begins (n + ps.length) (ls.drop u) ds) (hn : n + ps.length ≤ 4294967294) : Lead n ls (ps ++ [ds.flatten]) (u + ds.length) := by
  obtain ⟨h1, h2, h3⟩ := hb.rec hn
  have hl := hb.2.1
  rw [List.length_drop] at hl
  have hle := h.le
  refine ⟨fun i p hp => ?_, ?_, by omega⟩
  · by_cases hi : i < ps.length
    · rw [List.getElem?_append_left hi] at hp; exact h.ok i p hp
    · have : i = ps.length := by have := (List.getElem?_eq_some_iff.1 hp).1; simp at this; omega
      subst this
      rw [List.getElem?_append_right (Nat.le_refl _), Nat.sub_self] at hp
      simp at hp
      rw [← hp]; exact h1
  · rw [List.take_add, h.lay, layd_append, layd_one, h3]

theorem Recs.of {n : Nat} {ls ps : List (List UInt8)} {u : Nat} (h : Lead n ls ps u) (hs : ∀ ds, ¬ Begins (n + ps.length) (ls.drop u) ds) : Recs n ls ps u := ⟨h, hs⟩

theorem Lead.begins {n : Nat} {ls r : List (List UInt8)} {p : List UInt8} {u : Nat} (h : Lead n ls (p :: r) u) : (∃ ds, Begins n ls ds ∧ ds.flatten = p) ∧ cnt p.length ≤ u ∧ Lead (n + 1) (ls.drop (cnt p.length)) r (u - cnt p.length) := by
  have hp := h.ok 0 p rfl
  have hl := h.len
  have hy := h.lay
  have hle := h.le
  rw [layd] at hl hy
  rw [List.length_append, blks_length] at hl
  have e1 : blks n p = ls.take (cnt p.length) := by
    have := congrArg (List.take (cnt p.length)) hy
    rw [List.take_take, Nat.min_eq_left (by omega), List.take_left' (blks_length n p)] at this
    exact this.symm
  obtain ⟨ds, h1, h2, _⟩ := begins_of hp e1 (by omega)
  refine ⟨⟨ds, h1, h2⟩, by omega, fun i q hq => ?_, ?_, ?_⟩
  · have := h.ok (i + 1) q (by simpa using hq)
    rwa [show n + 1 + i = n + (i + 1) by omega]
  · have := congrArg (List.drop (cnt p.length)) hy
    rw [List.drop_take, List.drop_left' (blks_length n p)] at this
    exact this
  · rw [List.length_drop]; omega

theorem Recs.inj : ∀ {n : Nat} {ls ps qs : List (List UInt8)} {u v : Nat}, Recs n ls ps u → Recs n ls qs v → ps = qs ∧ u = v
  | n, ls, [], [], u, v, h, h' => ⟨rfl, by rw [h.lead.len, h'.lead.len]⟩
  | n, ls, [], q :: s, u, v, h, h' => by
    have e : u = 0 := by rw [h.lead.len]; rfl
    subst e
    obtain ⟨⟨ds, hd, _⟩, _⟩ := h'.lead.begins
    exact absurd hd (h.stop ds)
  | n, ls, p :: r, [], u, v, h, h' => by
    have e : v = 0 := by rw [h'.lead.len]; rfl
    subst e
    obtain ⟨⟨ds, hd, _⟩, _⟩ := h.lead.begins
    exact absurd hd (h'.stop ds)
  | n, ls, p :: r, q :: s, u, v, h, h' => by
    obtain ⟨⟨ds, hd, hf⟩, hu, hl⟩ := h.lead.begins
    obtain ⟨⟨ds', hd', hf'⟩, hv, hl'⟩ := h'.lead.begins
    have e := hd.inj hd'
    subst e
    have e : p = q := by rw [← hf, ← hf']
    subst e
    have t1 : Recs (n + 1) (ls.drop (cnt p.length)) r (u - cnt p.length) := ⟨hl, fun ds => by
      have := h.stop ds
      rw [List.length_cons] at this
      rw [List.drop_drop, show cnt p.length + (u - cnt p.length) = u by omega, show n + 1 + r.length = n + (r.length + 1) by omega]
      exact this⟩
    have t2 : Recs (n + 1) (ls.drop (cnt p.length)) s (v - cnt p.length) := ⟨hl', fun ds => by
      have := h'.stop ds
      rw [List.length_cons] at this
      rw [List.drop_drop, show cnt p.length + (v - cnt p.length) = v by omega, show n + 1 + s.length = n + (s.length + 1) by omega]
      exact this⟩
    obtain ⟨e1, e2⟩ := Recs.inj t1 t2
    exact ⟨by rw [e1], by omega⟩

/-- blocks that don't begin with one of bytes 0 alone -/
theorem begins_first {number : Nat} {ls ds : List (List UInt8)} (h : Begins number ls ds) : ∃ l d, ls[0]? = some l ∧ IsBlk number 0 ds.length l d := by
  obtain ⟨h1, h2, h3, h4⟩ := h
  obtain ⟨l, hl⟩ : ∃ l, ls[0]? = some l := ⟨_, List.getElem?_eq_getElem (by omega)⟩
  obtain ⟨d, hd⟩ : ∃ d, ds[0]? = some d := ⟨_, List.getElem?_eq_getElem (by omega)⟩
  exact ⟨l, d, hl, h4 0 l d hl hd⟩

theorem not_zero {number place count : Nat} {d : List UInt8} (hn : number ≤ 4294967294) : ¬ IsBlk number place count z64 d := by
  intro h
  have h1 := blkL_tag number place count d h.2.2.1
  rw [← h.2.2.2.2] at h1
  exact (notTag_zero hn).2 h1

theorem no_zeros {number : Nat} (hn : number ≤ 4294967294) (k : Nat) (ds : List (List UInt8)) : ¬ Begins number (List.replicate k z64) ds := by
  intro h
  obtain ⟨l, d, hl, hb⟩ := begins_first h
  have := List.mem_of_getElem? hl
  rw [(List.mem_replicate.1 this).2] at hb
  exact not_zero hn hb

/-- records, and behind them empty blocks -/
def fitL (ps : List (List UInt8)) (k : Nat) : List (List UInt8) := layd 0 ps ++ List.replicate k z64

theorem Recs.fit {ps : List (List UInt8)} (h : ∀ i p, ps[i]? = some p → recOK ((i : Nat) : Int) p) (hn : ps.length ≤ 4294967294) (k : Nat) : Recs 0 (fitL ps k) ps (layd 0 ps).length := by
  refine ⟨⟨fun i p hp => by rw [Nat.zero_add]; exact h i p hp, by rw [fitL, List.take_left' rfl], ?_⟩, fun ds => ?_⟩
  · rw [fitL, List.length_append]; omega
  · rw [fitL, List.drop_left' rfl, Nat.zero_add]; exact no_zeros hn k ds

/-- what is behind the records doesn't matter to them -/
theorem Recs.cleared {ls ps : List (List UInt8)} {u : Nat} (h : Recs 0 ls ps u) : ls.take u ++ List.replicate (ls.length - u) z64 = fitL ps (ls.length - u) := by
  rw [h.lead.lay, fitL]
end Go.Proofs.Ytbpklikmldpeiaa
/-
  Writes one behind the other, and a sync, plain; what Open and Append make of a disk.
-/
namespace Go.Proofs.Ytbpklikmldpeiaa

theorem snoc_ind {α : Type} {P : List α → Prop} (h0 : P []) (h1 : ∀ r p, P r → P (r ++ [p])) (l : List α) : P l := by
  have h : ∀ r : List α, P r.reverse := fun r => by
    induction r with
    | nil => exact h0
    | cons a t ih => rw [List.reverse_cons]; exact h1 _ _ ih
  have := h l.reverse
  rwa [List.reverse_reverse] at this

/-- writes, as far as none fails -/
def DS.writes (s : DS) (ps : List (Nat × List UInt8)) : DS × Int := ps.foldl (fun r p => if r.2 = 0 then r.1.write (p.1 : Nat) p.2 else r) (s, 0)
/-- and a sync -/
def DS.wsync (s : DS) (ps : List (Nat × List UInt8)) : DS × Int := if (s.writes ps).2 = 0 then (s.writes ps).1.sync else s.writes ps

theorem DS.writes_nil (s : DS) : s.writes [] = (s, 0) := rfl
theorem DS.writes_snoc (s : DS) (ps : List (Nat × List UInt8)) (p : Nat × List UInt8) : s.writes (ps ++ [p]) = if (s.writes ps).2 = 0 then (s.writes ps).1.write (p.1 : Nat) p.2 else s.writes ps := by
  unfold DS.writes
  rw [List.foldl_append]
  rfl
theorem DS.writes_stuck (s : DS) (ps : List (Nat × List UInt8)) (h : (s.writes ps).2 ≠ 0) : ∀ qs, s.writes (ps ++ qs) = s.writes ps := by
  intro qs
  induction qs generalizing ps with
  | nil => rw [List.append_nil]
  | cons q r ih =>
    have e : s.writes (ps ++ [q]) = s.writes ps := by rw [s.writes_snoc, if_neg h]
    have := ih (ps ++ [q]) (by rw [e]; exact h)
    rw [List.append_assoc] at this
    rw [show ps ++ q :: r = ps ++ ([q] ++ r) from rfl, this, e]

theorem DS.write_len (s : DS) (k : Int) (d : List UInt8) : (s.write k d).1.pe.length ≤ s.pe.length + 1 := by
  unfold DS.write
  split
  · simp
  · split
    · simp
    · rw [DS.thing_pe]; simp [DS.pend]
theorem DS.write_bl' (s : DS) (k : Int) (d : List UInt8) : (s.write k d).1.bl = s.bl := by
  unfold DS.write
  split
  · rfl
  · split
    · rfl
    · rw [DS.thing_bl]; rfl
theorem DS.writes_bl (s : DS) (ps : List (Nat × List UInt8)) : (s.writes ps).1.bl = s.bl := by
  induction ps using snoc_ind with
  | h0 => rfl
  | h1 r p ih =>
    rw [s.writes_snoc]
    split
    · rw [DS.write_bl', ih]
    · exact ih
theorem DS.writes_pe (s : DS) (ps : List (Nat × List UInt8)) : (s.writes ps).1.pe.length ≤ s.pe.length + ps.length := by
  induction ps using snoc_ind with
  | h0 => exact Nat.le_refl _
  | h1 r p ih =>
    rw [s.writes_snoc, List.length_append, List.length_singleton]
    split
    · have := DS.write_len (s.writes r).1 (p.1 : Nat) p.2; omega
    · omega

/-- the places from one on whose blocks aren't empty, among the first k -/
def dirtyTo (ls : List (List UInt8)) (u k : Nat) : List Nat := (List.range k).filter fun i => decide (u ≤ i ∧ ls.getD i [] ≠ z64)
theorem dirtyTo_no {ls : List (List UInt8)} {u k : Nat} {x : List UInt8} (hx : ls[k]? = some x) (h : x = z64) : dirtyTo ls u (k + 1) = dirtyTo ls u k := by
  have hg : ls.getD k [] = x := by rw [List.getD_eq_getElem?_getD, hx]; rfl
  unfold dirtyTo
  have e : List.filter (fun i => decide (u ≤ i ∧ ls.getD i [] ≠ z64)) [k] = [] := by rw [List.filter_eq_nil_iff]; intro i hi; rw [List.mem_singleton] at hi; subst hi; rw [hg, h]; simp
  rw [List.range_succ, List.filter_append, e, List.append_nil]
theorem dirtyTo_yes {ls : List (List UInt8)} {u k : Nat} {x : List UInt8} (hx : ls[k]? = some x) (h : x ≠ z64) (hu : u ≤ k) : dirtyTo ls u (k + 1) = dirtyTo ls u k ++ [k] := by
  have hg : ls.getD k [] = x := by rw [List.getD_eq_getElem?_getD, hx]; rfl
  unfold dirtyTo
  have e : List.filter (fun i => decide (u ≤ i ∧ ls.getD i [] ≠ z64)) [k] = [k] := by rw [List.filter_eq_self]; intro i hi; rw [List.mem_singleton] at hi; subst hi; rw [hg]; simp [h, hu]
  rw [List.range_succ, List.filter_append, e]
theorem dirtyTo_start (ls : List (List UInt8)) (u : Nat) : dirtyTo ls u u = [] := by
  unfold dirtyTo
  rw [List.filter_eq_nil_iff]
  intro i hi
  rw [List.mem_range] at hi
  simp; omega
theorem dirtyTo_length (ls : List (List UInt8)) (u k : Nat) : (dirtyTo ls u k).length ≤ k := by
  have := List.length_filter_le (fun i => decide (u ≤ i ∧ ls.getD i [] ≠ z64)) (List.range k)
  rw [List.length_range] at this
  exact this
/-- writes that empty these -/
def zw (l : List Nat) : List (Nat × List UInt8) := l.map fun k => (k, z64)
theorem zw_snoc (l : List Nat) (k : Nat) : zw (l ++ [k]) = zw l ++ [(k, z64)] := by simp [zw]
theorem zw_length (l : List Nat) : (zw l).length = l.length := by simp [zw]

/-- what Open does -/
def DS.clear (s : DS) (u : Nat) : DS × Int := if dirtyTo s.bl u s.bl.length = [] then (s, 0) else s.wsync (zw (dirtyTo s.bl u s.bl.length))

/-- blocks, written from a place on: the first k -/
def putTo (u : Nat) (ls : List (List UInt8)) (k : Nat) : List (Nat × List UInt8) := (List.range k).map fun i => (u + i, ls.getD i [])
theorem putTo_length (u : Nat) (ls : List (List UInt8)) (k : Nat) : (putTo u ls k).length = k := by simp [putTo]
theorem putTo_succ {u : Nat} {ls : List (List UInt8)} {k : Nat} {x : List UInt8} (hx : ls[k]? = some x) : putTo u ls (k + 1) = putTo u ls k ++ [(u + k, x)] := by
  have hg : ls.getD k [] = x := by rw [List.getD_eq_getElem?_getD, hx]; rfl
  unfold putTo
  rw [List.range_succ, List.map_append, List.map_singleton, hg]

theorem putTo_prefix (u : Nat) (ls : List (List UInt8)) {k n : Nat} (h : k ≤ n) : ∃ r, putTo u ls n = putTo u ls k ++ r := by
  refine ⟨((List.range (n - k)).map (k + ·)).map fun i => (u + i, ls.getD i []), ?_⟩
  unfold putTo
  rw [← List.map_append, ← List.range_add, show k + (n - k) = n by omega]
theorem dirtyTo_prefix (ls : List (List UInt8)) (u : Nat) {k n : Nat} (h : k ≤ n) : ∃ r, dirtyTo ls u n = dirtyTo ls u k ++ r := by
  refine ⟨((List.range (n - k)).map (k + ·)).filter fun i => decide (u ≤ i ∧ ls.getD i [] ≠ z64), ?_⟩
  unfold dirtyTo
  rw [← List.filter_append, ← List.range_add, show k + (n - k) = n by omega]

/-- a write among them that fails is the end -/
theorem DS.wsync_put_fails {s : DS} {u : Nat} {ls : List (List UInt8)} {k n : Nat} (h : k ≤ n) (hf : (s.writes (putTo u ls k)).2 ≠ 0) : s.wsync (putTo u ls n) = s.writes (putTo u ls k) := by
  obtain ⟨r, hr⟩ := putTo_prefix u ls h
  have e := s.writes_stuck _ hf r
  unfold DS.wsync
  rw [hr, e, if_neg hf]
theorem DS.wsync_dirty_fails {s : DS} {u : Nat} {ls : List (List UInt8)} {k n : Nat} (h : k ≤ n) (hf : (s.writes (zw (dirtyTo ls u k))).2 ≠ 0) : dirtyTo ls u n ≠ [] ∧ s.wsync (zw (dirtyTo ls u n)) = s.writes (zw (dirtyTo ls u k)) := by
  obtain ⟨r, hr⟩ := dirtyTo_prefix ls u h
  have e := s.writes_stuck _ hf (zw r)
  refine ⟨fun h0 => ?_, ?_⟩
  · rw [hr] at h0
    have : dirtyTo ls u k = [] := (List.append_eq_nil_iff.1 h0).1
    rw [this] at hf
    exact hf rfl
  · unfold DS.wsync
    rw [hr, show zw (dirtyTo ls u k ++ r) = zw (dirtyTo ls u k) ++ zw r by simp [zw], e, if_neg hf]

open Classical in
/-- what Append does to the disk -/
noncomputable def DS.app (s : DS) (n u : Nat) (p : List UInt8) : DS × Int :=
  if s.dead = true then (s, 7) else if ¬ recOK ((n : Nat) : Int) p then (s, 1) else if s.bl.length < u + cnt p.length then (s, 6) else s.wsync (putTo u (blks n p) (cnt p.length))

theorem read_none {s : DS} (hp : s.pe = []) (hd : s.dead = false) {k : Nat} {x : List UInt8} (hx : s.bl[k]? = some x) : s.read (k : Nat) = (x, 0) := by
  have hlt := (List.getElem?_eq_some_iff.1 hx).1
  have hr : s.refusal (k : Nat) = 0 := by
    unfold DS.refusal
    rw [if_neg (by rw [hd]; decide), if_neg (by omega)]
  unfold DS.read
  rw [if_neg (by rw [hr]; decide), hp, Int.toNat_natCast, List.getD_eq_getElem?_getD, hx]
  rfl
end Go.Proofs.Ytbpklikmldpeiaa
/-
  What stands behind writes that fail, and behind those that don't, plain.
-/
namespace Go.Proofs.Ytbpklikmldpeiaa

/-! writes of distinct blocks -/

def Apart (pe : List (Nat × List UInt8)) : Prop := ∀ (i j k : Nat) (d e : List UInt8), pe[i]? = some (k, d) → pe[j]? = some (k, e) → i = j

theorem Apart.take {pe : List (Nat × List UInt8)} (h : Apart pe) (n : Nat) : Apart (pe.take n) := fun i j k d e hi hj => by
  rw [List.getElem?_take] at hi hj
  split at hi
  · split at hj
    · exact h i j k d e hi hj
    · cases hj
  · cases hi

theorem settle_apart {bl : List (List UInt8)} {pe : List (Nat × List UInt8)} {kf : Nat → Nat} (hp : Apart pe) : ∀ n, n ≤ pe.length →
    (∀ (j k : Nat) (d x : List UInt8), j < n → pe[j]? = some (k, d) → bl[k]? = some x → (settleN bl pe kf n)[k]? = some (d.take (kf j) ++ x.drop (kf j))) ∧ ∀ k, (∀ j d, j < n → pe[j]? ≠ some (k, d)) → (settleN bl pe kf n)[k]? = bl[k]?
  | 0, _ => ⟨fun j k d x hj => absurd hj (Nat.not_lt_zero _), fun k _ => rfl⟩
  | n + 1, hn => by
    obtain ⟨h1, h2⟩ := settle_apart (bl := bl) (kf := kf) hp n (by omega)
    obtain ⟨q, hq⟩ : ∃ q, pe[n]? = some q := ⟨_, List.getElem?_eq_getElem (by omega)⟩
    obtain ⟨kn, dn⟩ := q
    have hg : pe.getD n (0, []) = (kn, dn) := by rw [List.getD_eq_getElem?_getD, hq]; rfl
    rw [settleN, hg, settle1]
    refine ⟨fun j k d x hj hd hx => ?_, fun k hk => ?_⟩
    · by_cases e : j = n
      · subst e
        rw [hq] at hd
        injection hd with hd
        injection hd with e1 e2
        subst e1 e2
        have hun := h2 kn (fun i d hi hd => by have := hp i j kn d dn hd hq; omega)
        rw [List.getElem?_set_self (by rw [settleN_length]; exact (List.getElem?_eq_some_iff.1 hx).1), List.getD_eq_getElem?_getD, hun, hx]
        rfl
      · have hne : kn ≠ k := fun e2 => by subst e2; exact e (hp j n kn d dn hd hq)
        rw [List.getElem?_set_ne hne]
        exact h1 j k d x (by omega) hd hx
    · have hne : kn ≠ k := fun e2 => by subst e2; exact hk n dn (by omega) hq
      rw [List.getElem?_set_ne hne]
      exact h2 k (fun j d hj => hk j d (by omega))

theorem putTo_get (u : Nat) (ls : List (List UInt8)) {n i : Nat} (h : i < n) : (putTo u ls n)[i]? = some (u + i, ls.getD i []) := by
  unfold putTo
  rw [List.getElem?_map, List.getElem?_range h]; rfl
theorem putTo_apart (u : Nat) (ls : List (List UInt8)) (n : Nat) : Apart (putTo u ls n) := fun i j k d e hi hj => by
  have h1 := (List.getElem?_eq_some_iff.1 hi).1
  have h2 := (List.getElem?_eq_some_iff.1 hj).1
  rw [putTo_length] at h1 h2
  rw [putTo_get u ls h1] at hi
  rw [putTo_get u ls h2] at hj
  injection hi with hi
  injection hj with hj
  injection hi with hi _
  injection hj with hj _
  omega

theorem zw_get {l : List Nat} {i k : Nat} {d : List UInt8} (h : (zw l)[i]? = some (k, d)) : l[i]? = some k ∧ d = z64 := by
  unfold zw at h
  rw [List.getElem?_map] at h
  obtain ⟨x, hx, e⟩ := Option.map_eq_some_iff.1 h
  injection e with e1 e2
  exact ⟨by rw [hx, e1], e2.symm⟩
theorem zw_apart {l : List Nat} (h : l.Nodup) : Apart (zw l) := fun i j k d e hi hj => by
  obtain ⟨h1, _⟩ := zw_get hi
  obtain ⟨h2, _⟩ := zw_get hj
  obtain ⟨l1, e1⟩ := List.getElem?_eq_some_iff.1 h1
  obtain ⟨l2, e2⟩ := List.getElem?_eq_some_iff.1 h2
  exact (List.getElem_inj h).1 (e1.trans e2.symm)
theorem dirty_nodup (ls : List (List UInt8)) (u k : Nat) : (dirtyTo ls u k).Nodup := List.Sublist.nodup List.filter_sublist List.nodup_range
theorem mem_dirty {ls : List (List UInt8)} {u k i : Nat} : i ∈ dirtyTo ls u k ↔ i < k ∧ u ≤ i ∧ ls.getD i [] ≠ z64 := by
  unfold dirtyTo
  rw [List.mem_filter, List.mem_range]
  simp

/-! whether writes fail -/

/-- writes that may be -/
def May (bl : List (List UInt8)) (ps : List (Nat × List UInt8)) : Prop := ∀ p ∈ ps, p.1 < bl.length ∧ p.2.length = 64

theorem DS.write_may (bl : List (List UInt8)) (pe : List (Nat × List UInt8)) (fu : Int) (k : Nat) (d : List UInt8) (hk : k < bl.length) (hd : d.length = 64) :
    (DS.mk bl pe fu false).write (k : Nat) d = ((DS.mk bl (pe ++ [(k, d)]) fu false).thing.1, bit7 (DS.mk bl (pe ++ [(k, d)]) fu false).thing.2) := by
  have hr : (DS.mk bl pe fu false).refusal (k : Nat) = 0 := by
    unfold DS.refusal
    rw [if_neg (by simp), if_neg (by simp only; omega)]
  unfold DS.write
  rw [if_neg (by rw [hr]; decide), if_neg (by simpa using hd), Int.toNat_natCast]
  rfl

theorem thing_cases (bl : List (List UInt8)) (pe : List (Nat × List UInt8)) (fu : Int) : (∃ fu', (DS.mk bl pe fu false).thing = (⟨bl, pe, fu', false⟩, true)) ∨ (DS.mk bl pe fu false).thing = (⟨bl, pe, fu, true⟩, false) := by
  unfold DS.thing
  split
  · exact .inl ⟨_, rfl⟩
  · split
    · exact .inr rfl
    · exact .inl ⟨_, rfl⟩

theorem DS.writes_cases (bl : List (List UInt8)) (fu : Int) (ps : List (Nat × List UInt8)) : May bl ps →
    (∃ fu', (DS.mk bl [] fu false).writes ps = (⟨bl, ps, fu', false⟩, 0)) ∨ ∃ k fu', k ≤ ps.length ∧ (DS.mk bl [] fu false).writes ps = (⟨bl, ps.take k, fu', true⟩, 7) := by
  induction ps using snoc_ind with
  | h0 => exact fun _ => .inl ⟨fu, rfl⟩
  | h1 r p ih =>
    intro hm
    obtain ⟨hp1, hp2⟩ := hm p (by simp)
    rw [DS.writes_snoc]
    rcases ih (fun q hq => hm q (List.mem_append_left _ hq)) with ⟨fu', h⟩ | ⟨k, fu', hk, h⟩
    · rw [h, if_pos rfl]
      simp only
      rw [DS.write_may bl r fu' p.1 p.2 hp1 hp2]
      rcases thing_cases bl (r ++ [(p.1, p.2)]) fu' with ⟨fu2, h2⟩ | h2
      · rw [h2]; exact .inl ⟨fu2, rfl⟩
      · rw [h2]; exact .inr ⟨r.length + 1, fu', by simp, by rw [List.take_of_length_le (by simp)]; rfl⟩
    · rw [h, if_neg (by simp)]
      exact .inr ⟨k, fu', by simp; omega, by rw [List.take_append_of_le_length hk]⟩

/-- a sync behind them: all stands, or the disk is dead, and some are pending -/
theorem DS.wsync_cases {bl : List (List UInt8)} {fu : Int} {ps : List (Nat × List UInt8)} (hm : May bl ps) :
    (∃ fu', (DS.mk bl [] fu false).wsync ps = (⟨settleN bl ps (fun _ => 64) ps.length, [], fu', false⟩, 0)) ∨ ∃ k fu', k ≤ ps.length ∧ (DS.mk bl [] fu false).wsync ps = (⟨bl, ps.take k, fu', true⟩, 7) := by
  unfold DS.wsync
  rcases DS.writes_cases bl fu ps hm with ⟨fu', h⟩ | ⟨k, fu', hk, h⟩
  · rw [h, if_pos rfl]
    simp only
    unfold DS.sync
    rw [if_neg (by simp)]
    rcases thing_cases bl ps fu' with ⟨fu2, h2⟩ | h2
    · rw [h2, if_pos rfl]; exact .inl ⟨fu2, rfl⟩
    · rw [h2, if_neg (by simp)]; exact .inr ⟨ps.length, fu', Nat.le_refl _, by rw [List.take_of_length_le (Nat.le_refl _)]⟩
  · rw [h, if_neg (by simp)]
    exact .inr ⟨k, fu', hk, rfl⟩

/-- without a fuse nothing fails -/
theorem DS.wsync_fine {bl : List (List UInt8)} {ps : List (Nat × List UInt8)} (hm : May bl ps) : (DS.mk bl [] (-1) false).wsync ps = (⟨settleN bl ps (fun _ => 64) ps.length, [], -1, false⟩, 0) := by
  have h : ∀ ps, May bl ps → (DS.mk bl [] (-1) false).writes ps = (⟨bl, ps, -1, false⟩, 0) := fun ps => by
    induction ps using snoc_ind with
    | h0 => exact fun _ => rfl
    | h1 r p ih =>
      intro hm
      obtain ⟨hp1, hp2⟩ := hm p (by simp)
      rw [DS.writes_snoc, ih (fun q hq => hm q (List.mem_append_left _ hq)), if_pos rfl]
      simp only
      rw [DS.write_may bl r (-1) p.1 p.2 hp1 hp2]
      rfl
  unfold DS.wsync
  rw [h ps hm, if_pos rfl]
  rfl

/-- behind a restart: of the first k writes so many bytes each stand -/
theorem DS.wsync_restart {bl : List (List UInt8)} {fu : Int} {ps : List (Nat × List UInt8)} (hm : May bl ps) (keep : List Nat) :
    ∃ k kf, k ≤ ps.length ∧ (∀ i, kf i ≤ 64) ∧ ((DS.mk bl [] fu false).wsync ps).1.restart keep = ⟨settleN bl (ps.take k) kf k, [], -1, false⟩ ∧ (((DS.mk bl [] fu false).wsync ps).2 = 0 → k = ps.length ∧ kf = fun _ => 64) := by
  rcases DS.wsync_cases (fu := fu) hm with ⟨fu', h⟩ | ⟨k, fu', hk, h⟩
  · refine ⟨ps.length, fun _ => 64, Nat.le_refl _, fun _ => Nat.le_refl _, ?_, fun _ => ⟨rfl, rfl⟩⟩
    rw [h, List.take_of_length_le (Nat.le_refl _)]
    rfl
  · refine ⟨k, kOf keep, hk, kOf_le keep, ?_, fun h0 => ?_⟩
    · rw [h]
      unfold DS.restart
      simp only
      rw [List.length_take, Nat.min_eq_left hk]
    · rw [h] at h0; exact absurd h0 (by simp)

theorem zw_may {bl : List (List UInt8)} (u : Nat) : May bl (zw (dirtyTo bl u bl.length)) := fun p hp => by
  unfold zw at hp
  obtain ⟨k, hk, rfl⟩ := List.mem_map.1 hp
  exact ⟨(mem_dirty.1 hk).1, z64_length⟩
theorem blks_mem {n : Nat} {p x : List UInt8} (h : x ∈ blks n p) : x.length = 64 := by
  unfold blks at h
  obtain ⟨k, _, rfl⟩ := List.mem_map.1 h
  exact blkAt_length n p k
theorem put_may {bl : List (List UInt8)} {u n : Nat} {p : List UInt8} (h : u + cnt p.length ≤ bl.length) : May bl (putTo u (blks n p) (cnt p.length)) := fun q hq => by
  unfold putTo at hq
  obtain ⟨i, hi, rfl⟩ := List.mem_map.1 hq
  rw [List.mem_range] at hi
  refine ⟨by simp only; omega, blks_mem (n := n) (p := p) ?_⟩
  simp only
  rw [List.getD_eq_getElem?_getD, List.getElem?_eq_getElem (by rw [blks_length]; exact hi)]
  exact List.getElem_mem _

/-! what stands, without a failure -/

theorem layd_len (ps : List (List UInt8)) : ∀ n, ∀ x ∈ layd n ps, x.length = 64 := by
  induction ps with
  | nil => intro n x hx; simp [layd] at hx
  | cons p r ih =>
    intro n x hx
    rw [layd] at hx
    rcases List.mem_append.1 hx with h | h
    · exact blks_mem h
    · exact ih (n + 1) x h

/-- behind Open, if nothing fails -/
theorem clear_fine {bl ps : List (List UInt8)} {u : Nat} (hbl : ∀ x ∈ bl, x.length = 64) (h : Recs 0 bl ps u) : (DS.mk bl [] (-1) false).clear u = (⟨fitL ps (bl.length - u), [], -1, false⟩, 0) := by
  have hle := h.lead.le
  rw [← h.cleared]
  unfold DS.clear
  simp only
  split
  · rename_i h0
    have : bl = bl.take u ++ List.replicate (bl.length - u) z64 := by
      conv => lhs; rw [← List.take_append_drop u bl]
      congr 1
      apply List.ext_getElem?
      intro i
      by_cases hi : i < bl.length - u
      · rw [List.getElem?_drop, List.getElem?_replicate, if_pos hi, List.getElem?_eq_getElem (by omega)]
        congr 1
        by_cases hz : bl[u + i] = z64
        · exact hz
        · have : u + i ∈ dirtyTo bl u bl.length := mem_dirty.2 ⟨by omega, by omega, by rw [List.getD_eq_getElem?_getD, List.getElem?_eq_getElem (by omega)]; exact hz⟩
          rw [h0] at this; cases this
      · rw [List.getElem?_eq_none (by rw [List.length_drop]; omega), List.getElem?_eq_none (by rw [List.length_replicate]; omega)]
    rw [← this]
  · rw [DS.wsync_fine (zw_may u)]
    congr 2
    have hs := settle_apart (bl := bl) (kf := fun _ => 64) (zw_apart (dirty_nodup bl u bl.length)) _ (Nat.le_refl _)
    apply List.ext_getElem?
    intro i
    by_cases hi : i < bl.length
    · have hx := List.getElem?_eq_getElem hi
      have h64 := hbl _ (List.getElem_mem hi)
      by_cases hm : i ∈ dirtyTo bl u bl.length
      · obtain ⟨j, hj⟩ := List.getElem?_of_mem hm
        have hj2 : (zw (dirtyTo bl u bl.length))[j]? = some (i, z64) := by unfold zw; rw [List.getElem?_map, hj]; rfl
        rw [hs.1 j i z64 _ (List.getElem?_eq_some_iff.1 hj2).1 hj2 hx]
        have hui := (mem_dirty.1 hm).2.1
        rw [List.getElem?_append_right (by rw [List.length_take]; omega), List.length_take, Nat.min_eq_left hle, List.getElem?_replicate, if_pos (by omega), List.take_of_length_le (by rw [z64_length]; omega), List.drop_of_length_le (by rw [h64]; omega), List.append_nil]
      · rw [hs.2 i (fun j d _ hd => hm (List.mem_of_getElem? (zw_get hd).1))]
        by_cases hiu : i < u
        · rw [List.getElem?_append_left (by rw [List.length_take]; omega), List.getElem?_take_of_lt hiu]
        · rw [List.getElem?_append_right (by rw [List.length_take]; omega), List.length_take, Nat.min_eq_left hle, List.getElem?_replicate, if_pos (by omega), hx]
          congr 1
          by_cases hz : bl[i] = z64
          · exact hz
          · exact absurd (mem_dirty.2 ⟨hi, by omega, by rw [List.getD_eq_getElem?_getD, hx]; exact hz⟩) hm
    · rw [List.getElem?_eq_none (by rw [settleN_length]; omega), List.getElem?_eq_none (by rw [List.length_append, List.length_take, List.length_replicate]; omega)]
end Go.Proofs.Ytbpklikmldpeiaa
/-
  A journal that nothing happens to, plain; and one whose power fails.
-/
namespace Go.Proofs.Ytbpklikmldpeiaa

/-- records on a disk, so many empty blocks behind them -/
def Cl (ps : List (List UInt8)) (z : Nat) : DS := ⟨fitL ps z, [], -1, false⟩
/-- how many blocks they have -/
def used (ps : List (List UInt8)) : Nat := (layd 0 ps).length
/-- they are records -/
def AllOk (ps : List (List UInt8)) : Prop := ∀ i p, ps[i]? = some p → recOK ((i : Nat) : Int) p

theorem AllOk.nil : AllOk [] := fun i p h => by simp at h
theorem AllOk.snoc {ps : List (List UInt8)} {p : List UInt8} (h : AllOk ps) (hp : recOK ((ps.length : Nat) : Int) p) : AllOk (ps ++ [p]) := fun i q hq => by
  by_cases hi : i < ps.length
  · rw [List.getElem?_append_left hi] at hq; exact h i q hq
  · have : i = ps.length := by have := (List.getElem?_eq_some_iff.1 hq).1; simp at this; omega
    subst this
    rw [List.getElem?_append_right (Nat.le_refl _), Nat.sub_self] at hq
    simp at hq
    rw [← hq]; exact hp
theorem used_snoc (ps : List (List UInt8)) (p : List UInt8) : used (ps ++ [p]) = used ps + cnt p.length := by
  unfold used
  rw [layd_append, List.length_append, layd_one, Nat.zero_add, blks_length]
theorem AllOk.few {ps : List (List UInt8)} (h : AllOk ps) : ps.length ≤ used ps := layd_le 0 ps fun i p hp => by rw [Nat.zero_add]; exact h i p hp
theorem fitL_length (ps : List (List UInt8)) (z : Nat) : (fitL ps z).length = used ps + z := by rw [fitL, List.length_append, List.length_replicate]; rfl
theorem fitL_len {ps : List (List UInt8)} {z : Nat} : ∀ x ∈ fitL ps z, x.length = 64 := fun x hx => by
  rcases List.mem_append.1 hx with h | h
  · exact layd_len ps 0 x h
  · rw [(List.mem_replicate.1 h).2, z64_length]

theorem newDS_cl (n : Nat) : newDS n = Cl [] n := by simp [newDS, Cl, fitL, layd]

theorem Recs.ofCl {ps : List (List UInt8)} {z : Nat} (h : AllOk ps) (hz : used ps + z ≤ 65536) : Recs 0 (Cl ps z).bl ps (used ps) := Recs.fit h (by have := h.few; omega) z

/-- such a journal, opened -/
theorem open_cl {ps qs : List (List UInt8)} {z u : Nat} (h : AllOk ps) (hz : used ps + z ≤ 65536) (hr : Recs 0 (Cl ps z).bl qs u) : qs = ps ∧ u = used ps ∧ (Cl ps z).clear u = (Cl ps z, 0) := by
  obtain ⟨e1, e2⟩ := hr.inj (Recs.ofCl h hz)
  subst e1 e2
  refine ⟨rfl, rfl, ?_⟩
  have := clear_fine (bl := fitL qs z) fitL_len hr
  rw [fitL_length, Nat.add_sub_cancel_left] at this
  exact this

/-- once more, whatever the fuse: nothing is written -/
theorem open_fuse {ps qs : List (List UInt8)} {z u : Nat} (fu : Int) (h : AllOk ps) (hz : used ps + z ≤ 65536) (hr : Recs 0 (fitL ps z) qs u) : qs = ps ∧ u = used ps ∧ (DS.mk (fitL ps z) [] fu false).clear u = (⟨fitL ps z, [], fu, false⟩, 0) := by
  obtain ⟨e1, e2⟩ := hr.inj (Recs.ofCl h hz)
  subst e1 e2
  refine ⟨rfl, rfl, ?_⟩
  have hd : dirtyTo (fitL qs z) (used qs) (fitL qs z).length = [] := by
    rw [List.eq_nil_iff_forall_not_mem]
    intro i hi
    obtain ⟨h1, h2, h3⟩ := mem_dirty.1 hi
    refine h3 ?_
    rw [fitL_length] at h1
    rw [List.getD_eq_getElem?_getD, fitL, List.getElem?_append_right h2, List.getElem?_replicate, if_pos (by have : (layd 0 qs).length = used qs := rfl; omega)]
    rfl
  unfold DS.clear
  simp only
  rw [if_pos hd]

/-- all blocks of a record stand -/
theorem put_all {ps : List (List UInt8)} {p : List UInt8} {z : Nat} (hz : cnt p.length ≤ z) :
    settleN (fitL ps z) (putTo (used ps) (blks ps.length p) (cnt p.length)) (fun _ => 64) (cnt p.length) = fitL (ps ++ [p]) (z - cnt p.length) := by
  have hs := settle_apart (bl := fitL ps z) (kf := fun _ => 64) (putTo_apart (used ps) (blks ps.length p) (cnt p.length)) (cnt p.length) (by rw [putTo_length]; exact Nat.le_refl _)
  have hL : (fitL ps z).length = used ps + z := fitL_length ps z
  have hlay : layd 0 (ps ++ [p]) = layd 0 ps ++ blks ps.length p := by rw [layd_append, layd_one, Nat.zero_add]
  have hu : (layd 0 ps).length = used ps := rfl
  have hb := blks_length ps.length p
  apply List.ext_getElem?
  intro i
  by_cases hi : i < used ps + z
  · obtain ⟨x, hx⟩ : ∃ x, (fitL ps z)[i]? = some x := ⟨_, List.getElem?_eq_getElem (by omega)⟩
    have hx64 := fitL_len x (List.mem_of_getElem? hx)
    by_cases h1 : i < used ps
    · rw [hs.2 i (fun j d hj hd => by rw [putTo_get _ _ hj] at hd; injection hd with hd; injection hd with hd _; omega)]
      rw [fitL, fitL, hlay, List.append_assoc, List.getElem?_append_left (by omega), List.getElem?_append_left (by omega)]
    · by_cases h2 : i < used ps + cnt p.length
      · obtain ⟨y, hy⟩ : ∃ y, (blks ps.length p)[i - used ps]? = some y := ⟨_, List.getElem?_eq_getElem (by omega)⟩
        have hj := putTo_get (used ps) (blks ps.length p) (n := cnt p.length) (i := i - used ps) (by omega)
        rw [show used ps + (i - used ps) = i by omega, List.getD_eq_getElem?_getD, hy] at hj
        have hy64 := blks_mem (List.mem_of_getElem? hy)
        rw [hs.1 (i - used ps) i y x (by omega) hj hx, List.take_of_length_le (by omega), List.drop_of_length_le (by omega), List.append_nil]
        rw [fitL, hlay, List.append_assoc, List.getElem?_append_right (by omega), List.getElem?_append_left (by omega), hu, hy]
      · rw [hs.2 i (fun j d hj hd => by rw [putTo_get _ _ hj] at hd; injection hd with hd; injection hd with hd _; omega)]
        rw [fitL, fitL, hlay, List.append_assoc, List.getElem?_append_right (by omega), List.getElem?_append_right (by omega), List.getElem?_append_right (by omega), List.getElem?_replicate, List.getElem?_replicate, if_pos (by omega), if_pos (by omega)]
  · rw [List.getElem?_eq_none (by rw [settleN_length]; omega), List.getElem?_eq_none (by rw [fitL_length, used_snoc]; omega)]

/-- an Append, of which nothing fails: of a record that has room -/
theorem app_yes {ps : List (List UInt8)} {z : Nat} {p : List UInt8} (hr : recOK ((ps.length : Nat) : Int) p) (hc : cnt p.length ≤ z) : (Cl ps z).app ps.length (used ps) p = (Cl (ps ++ [p]) (z - cnt p.length), 0) := by
  have hL : (fitL ps z).length = used ps + z := fitL_length ps z
  unfold DS.app Cl
  simp only
  rw [if_neg (by simp), if_neg (by simpa using hr), if_neg (by omega), DS.wsync_fine (put_may (by omega)), putTo_length, put_all hc]
/-- an Append, of which nothing fails: a record that has room, or an error -/
theorem app_cl (ps : List (List UInt8)) (z : Nat) (p : List UInt8) :
    (recOK ((ps.length : Nat) : Int) p ∧ cnt p.length ≤ z ∧ (Cl ps z).app ps.length (used ps) p = (Cl (ps ++ [p]) (z - cnt p.length), 0)) ∨ ∃ e : Int, e ≠ 0 ∧ (Cl ps z).app ps.length (used ps) p = (Cl ps z, e) := by
  have hL : (fitL ps z).length = used ps + z := fitL_length ps z
  unfold DS.app Cl
  simp only
  rw [if_neg (by simp)]
  by_cases hr : recOK ((ps.length : Nat) : Int) p
  · rw [if_neg (by simpa using hr)]
    by_cases hc : used ps + z < used ps + cnt p.length
    · rw [if_pos (by omega)]
      exact .inr ⟨6, by decide, rfl⟩
    · rw [if_neg (by omega), DS.wsync_fine (put_may (by omega)), putTo_length, put_all (by omega)]
      exact .inl ⟨hr, by omega, rfl⟩
  · rw [if_pos hr]
    exact .inr ⟨1, by decide, rfl⟩
end Go.Proofs.Ytbpklikmldpeiaa
/-
  A disk whose power failed while a record was written, or while it was emptied, again and again, plain.
-/
namespace Go.Proofs.Ytbpklikmldpeiaa

/-- a block whose bytes from a place up to another are another one's; all else is 0 -/
def Mix (t x : List UInt8) : Prop := x.length = 64 ∧ ∃ a b : Nat, ∀ j, j < 64 → x.getD j 0 = if a ≤ j ∧ j < b then t.getD j 0 else 0

theorem z64_get (j : Nat) : z64.getD j 0 = 0 := by
  rw [List.getD_eq_getElem?_getD]
  unfold z64
  rw [List.getElem?_replicate]
  split <;> rfl
theorem getD_torn {d x : List UInt8} {n j : Nat} (hd : d.length = 64) (hn : n ≤ 64) : (d.take n ++ x.drop n).getD j 0 = if j < n then d.getD j 0 else x.getD j 0 := by
  simp only [List.getD_eq_getElem?_getD]
  by_cases h : j < n
  · rw [if_pos h, List.getElem?_append_left (by rw [List.length_take]; omega), List.getElem?_take_of_lt h]
  · rw [if_neg h, List.getElem?_append_right (by rw [List.length_take]; omega), List.length_take, List.getElem?_drop, show n + (j - min n d.length) = j by omega]

theorem Mix.zero {t x : List UInt8} (h : Mix t x) {n : Nat} (hn : n ≤ 64) : Mix t (z64.take n ++ x.drop n) := by
  obtain ⟨h64, a, b, hm⟩ := h
  refine ⟨by simp [z64_length, h64]; omega, max a n, b, fun j hj => ?_⟩
  rw [getD_torn z64_length hn, z64_get]
  by_cases h1 : j < n
  · rw [if_pos h1, if_neg (by omega)]
  · rw [if_neg h1, hm j hj]
    by_cases h2 : a ≤ j ∧ j < b
    · rw [if_pos h2, if_pos (by omega)]
    · rw [if_neg h2, if_neg (by omega)]
theorem Mix.put {d : List UInt8} (hd : d.length = 64) {n : Nat} (hn : n ≤ 64) : Mix d (d.take n ++ z64.drop n) := by
  refine ⟨by simp [z64_length, hd]; omega, 0, n, fun j _ => ?_⟩
  rw [getD_torn hd hn, z64_get]
  by_cases h1 : j < n
  · rw [if_pos h1, if_pos (by omega)]
  · rw [if_neg h1, if_neg (by omega)]
theorem Mix.nothing (t : List UInt8) : Mix t z64 := ⟨z64_length, 0, 0, fun j _ => by rw [z64_get, if_neg (by omega)]⟩

theorem eq_of_getD {x y : List UInt8} (hx : x.length = 64) (hy : y.length = 64) (h : ∀ j, j < 64 → x.getD j 0 = y.getD j 0) : x = y := by
  apply List.ext_getElem?
  intro j
  by_cases hj : j < 64
  · have := h j hj
    simp only [List.getD_eq_getElem?_getD] at this
    rw [List.getElem?_eq_getElem (by omega), List.getElem?_eq_getElem (by omega)] at this ⊢
    simpa using this
  · rw [List.getElem?_eq_none (by omega), List.getElem?_eq_none (by omega)]
theorem Mix.of_zero {x : List UInt8} (h : Mix z64 x) : x = z64 := by
  obtain ⟨h64, a, b, hm⟩ := h
  refine eq_of_getD h64 z64_length fun j hj => ?_
  rw [hm j hj, z64_get]
  split <;> rfl

/-! a tag is at both ends -/

theorem blkL_front (number place count : Nat) (d : List UInt8) : (blkL number place count d).take 4 = lowL 4 (number + 1) := by
  unfold blkL
  generalize lowL 4 (wd (sumI (bodyL number place count d))) = X
  unfold bodyL
  simp only [List.append_assoc]
  exact List.take_left' (lowL_length 4 _)

/-- a tag has a byte that isn't 0 -/
theorem tag_byte {number : Nat} (hn : number ≤ 4294967294) : ∃ i, i < 4 ∧ (lowL 4 (number + 1)).getD i 0 ≠ 0 := by
  refine Classical.byContradiction fun hno => ?_
  have h0 : ∀ i, i < 4 → (lowL 4 (number + 1)).getD i 0 = 0 := fun i hi => Classical.byContradiction fun h => hno ⟨i, hi, h⟩
  have e : lowL 4 (number + 1) = lowL 4 0 := by
    apply List.ext_getElem?
    intro i
    by_cases hi : i < 4
    · have h1 := h0 i hi
      rw [List.getD_eq_getElem?_getD, List.getElem?_eq_getElem (by rw [lowL_length]; exact hi)] at h1
      rw [List.getElem?_eq_getElem (by rw [lowL_length]; exact hi)]
      simp only [Option.getD_some] at h1
      rw [h1]
      match i, hi with
      | 0, _ => rfl
      | 1, _ => rfl
      | 2, _ => rfl
      | 3, _ => rfl
    · rw [List.getElem?_eq_none (by rw [lowL_length]; omega), List.getElem?_eq_none (by rw [lowL_length]; omega)]
  have := lowL_inj (n := 4) (x := number + 1) (y := 0) (by omega) (by omega) e
  omega

/-- a block of a record, that is mixed from a block of a record of the same number, is that one -/
theorem Mix.whole {number p1 c1 p2 c2 : Nat} {d1 d2 x : List UInt8} (hn : number ≤ 4294967294) (h1 : d1.length ≤ 49) (h : Mix (blkL number p1 c1 d1) x) (hx : IsBlk number p2 c2 x d2) : x = blkL number p1 c1 d1 := by
  obtain ⟨h64, a, b, hm⟩ := h
  obtain ⟨_, _, h2, _, hx⟩ := hx
  obtain ⟨i, hi, hb⟩ := tag_byte hn
  have ft : ∀ j, j < 4 → x.getD j 0 = (lowL 4 (number + 1)).getD j 0 ∧ (blkL number p1 c1 d1).getD j 0 = (lowL 4 (number + 1)).getD j 0 := fun j hj => by
    have e1 := blkL_front number p2 c2 d2
    have e2 := blkL_front number p1 c1 d1
    rw [← hx] at e1
    refine ⟨?_, ?_⟩
    · rw [← e1]; simp only [List.getD_eq_getElem?_getD]; rw [List.getElem?_take_of_lt hj]
    · rw [← e2]; simp only [List.getD_eq_getElem?_getD]; rw [List.getElem?_take_of_lt hj]
  have bt : ∀ j, j < 4 → x.getD (60 + j) 0 = (lowL 4 (number + 1)).getD j 0 ∧ (blkL number p1 c1 d1).getD (60 + j) 0 = (lowL 4 (number + 1)).getD j 0 := fun j _ => by
    have e1 := blkL_tag number p2 c2 d2 h2
    have e2 := blkL_tag number p1 c1 d1 h1
    rw [← hx] at e1
    refine ⟨?_, ?_⟩
    · rw [← e1]; simp only [List.getD_eq_getElem?_getD]; rw [List.getElem?_drop]
    · rw [← e2]; simp only [List.getD_eq_getElem?_getD]; rw [List.getElem?_drop]
  have ha : a ≤ i := by
    have h3 := hm i (by omega)
    rw [(ft i hi).1] at h3
    by_cases h4 : a ≤ i ∧ i < b
    · exact h4.1
    · rw [if_neg h4] at h3; exact absurd h3 hb
  have hbb : 60 + i < b := by
    have h3 := hm (60 + i) (by omega)
    rw [(bt i hi).1] at h3
    by_cases h4 : a ≤ 60 + i ∧ 60 + i < b
    · exact h4.2
    · rw [if_neg h4] at h3; exact absurd h3 hb
  refine eq_of_getD h64 (blkL_length _ _ _ _ h1) fun j hj => ?_
  by_cases h5 : j < 4
  · rw [(ft j h5).1, (ft j h5).2]
  · by_cases h6 : j < 60
    · rw [hm j hj, if_pos (by omega)]
    · obtain ⟨k, rfl⟩ : ∃ k, j = 60 + k := ⟨j - 60, by omega⟩
      rw [(bt k (by omega)).1, (bt k (by omega)).2]

theorem Mix.no_blk {number p2 c2 : Nat} {d2 x : List UInt8} (hn : number ≤ 4294967294) (h : Mix z64 x) : ¬ IsBlk number p2 c2 x d2 := by
  rw [h.of_zero]; exact not_zero hn

/-! what may stand -/

/-- the records, and behind them what a record's blocks, or none's, have become -/
structure Fit (bl ps q : List (List UInt8)) : Prop where
  ok : AllOk ps
  room : used ps + q.length ≤ bl.length
  lay : bl.take (used ps) = layd 0 ps
  mix : ∀ i x, bl[used ps + i]? = some x → Mix (q.getD i z64) x

theorem Fit.few {bl ps q : List (List UInt8)} (h : Fit bl ps q) : ps.length ≤ bl.length := by have := h.ok.few; have := h.room; omega

theorem Fit.clean {bl ps : List (List UInt8)} (h : Fit bl ps []) : bl = fitL ps (bl.length - used ps) := by
  have hr := h.room
  simp only [List.length_nil] at hr
  conv => lhs; rw [← List.take_append_drop (used ps) bl, h.lay]
  rw [fitL]
  congr 1
  apply List.ext_getElem?
  intro i
  by_cases hi : i < bl.length - used ps
  · obtain ⟨x, hx⟩ : ∃ x, bl[used ps + i]? = some x := ⟨_, List.getElem?_eq_getElem (by omega)⟩
    have := h.mix i x hx
    rw [List.getD_eq_getElem?_getD, List.getElem?_nil] at this
    rw [List.getElem?_drop, List.getElem?_replicate, if_pos hi, hx, this.of_zero]
  · rw [List.getElem?_eq_none (by rw [List.length_drop]; omega), List.getElem?_eq_none (by rw [List.length_replicate]; omega)]

theorem Fit.ofCl {ps : List (List UInt8)} {z : Nat} (h : AllOk ps) : Fit (fitL ps z) ps [] := by
  refine ⟨h, by rw [fitL_length]; simp, by show (layd 0 ps ++ _).take (layd 0 ps).length = _; rw [List.take_left' rfl], fun i x hx => ?_⟩
  rw [fitL, List.getElem?_append_right (by show used ps ≤ _; omega)] at hx
  rw [(List.mem_replicate.1 (List.mem_of_getElem? hx)).2]
  exact Mix.nothing _

/-- with which records such blocks begin -/
theorem Fit.recs {bl ps q qs : List (List UInt8)} {u : Nat} (h : Fit bl ps q) (hl : bl.length ≤ 65536) (hq : q = [] ∨ ∃ p, recOK ((ps.length : Nat) : Int) p ∧ q = blks ps.length p) (hr : Recs 0 bl qs u) :
    (qs = ps ∧ u = used ps) ∨ ∃ p, q = blks ps.length p ∧ recOK ((ps.length : Nat) : Int) p ∧ qs = ps ++ [p] ∧ u = used (ps ++ [p]) := by
  have hfew := h.few
  have hlead : Lead 0 bl ps (used ps) := ⟨fun i p hp => by rw [Nat.zero_add]; exact h.ok i p hp, h.lay, by have := h.room; omega⟩
  have hnz : ∀ i x number place count d, number ≤ 4294967294 → bl[used ps + i]? = some x → q.length ≤ i → ¬ IsBlk number place count x d := fun i x number place count d hn hx hi => by
    have := h.mix i x hx
    rw [List.getD_eq_getElem?_getD, List.getElem?_eq_none hi] at this
    exact Mix.no_blk hn this
  by_cases hb : ∃ ds, Begins (0 + ps.length) (bl.drop (used ps)) ds
  · obtain ⟨ds, hd⟩ := hb
    rw [Nat.zero_add] at hd
    have hn : ps.length ≤ 4294967294 := by omega
    obtain ⟨l0, d0, hl0, hb0⟩ := begins_first hd
    rw [List.getElem?_drop] at hl0
    rcases hq with rfl | ⟨p, hp, rfl⟩
    · exact absurd hb0 (hnz 0 l0 _ _ _ _ hn hl0 (Nat.zero_le _))
    · right
      have hc := cnt_pos hp
      have key : ∀ i l d, i < ds.length → bl[used ps + i]? = some l → ds[i]? = some d → i < cnt p.length ∧ l = blkAt ps.length p i := fun i l d hi hl hdd => by
        have hblk := hd.2.2.2 i l d (by rw [List.getElem?_drop]; exact hl) hdd
        by_cases hic : i < cnt p.length
        · have hm := h.mix i l hl
          rw [List.getD_eq_getElem?_getD, blks_get ps.length p i hic] at hm
          exact ⟨hic, Mix.whole hn (by rw [dat_length]; omega) hm hblk⟩
        · exact absurd hblk (hnz i l _ _ _ _ hn hl (by rw [blks_length]; omega))
      have h1 := hd.1
      have h2 := hd.2.1
      rw [List.length_drop] at h2
      have hlen : ds.length = cnt p.length := by
        obtain ⟨d, hdd⟩ : ∃ d, ds[0]? = some d := ⟨_, List.getElem?_eq_getElem (by omega)⟩
        obtain ⟨_, e⟩ := key 0 l0 d (by omega) hl0 hdd
        have ht := hd.told l0 (by rw [List.getElem?_drop]; exact hl0)
        rw [ht]
        unfold cntOf
        rw [e, if_pos (blkAt_length _ _ _)]
        unfold blkAt
        rw [blkL_get5 _ _ _ _ hc.2]
      have hbt : blks ps.length p = (bl.drop (used ps)).take (cnt p.length) := by
        apply List.ext_getElem?
        intro i
        by_cases hi : i < cnt p.length
        · obtain ⟨l, hl⟩ : ∃ l, bl[used ps + i]? = some l := ⟨_, List.getElem?_eq_getElem (by omega)⟩
          obtain ⟨d, hdd⟩ : ∃ d, ds[i]? = some d := ⟨_, List.getElem?_eq_getElem (by omega)⟩
          rw [blks_get _ _ _ hi, List.getElem?_take_of_lt hi, List.getElem?_drop, hl, (key i l d (by omega) hl hdd).2]
        · rw [List.getElem?_eq_none (by rw [blks_length]; omega), List.getElem?_eq_none (by rw [List.length_take]; omega)]
      obtain ⟨ds', hd', hf', hl'⟩ := begins_of hp hbt (by rw [List.length_drop]; omega)
      have e := hd.inj hd'
      subst e
      have hlead2 := hlead.snoc (by rw [Nat.zero_add]; exact hd) (by omega)
      rw [hf', hlen, ← used_snoc] at hlead2
      have hr2 : Recs 0 bl (ps ++ [p]) (used (ps ++ [p])) := ⟨hlead2, fun ds2 hd2 => by
        obtain ⟨l2, d2, hl2, hb2⟩ := begins_first hd2
        rw [List.getElem?_drop, used_snoc, Nat.add_zero] at hl2
        exact hnz (cnt p.length) l2 _ _ _ _ (by simp; omega) hl2 (by rw [blks_length]; exact Nat.le_refl _) hb2⟩
      obtain ⟨e1, e2⟩ := hr.inj hr2
      exact ⟨p, rfl, hp, e1, e2⟩
  · left
    exact hr.inj ⟨hlead, fun ds hd => hb ⟨ds, hd⟩⟩

/-- a record is put on empty blocks: whatever of it stands -/
theorem Fit.put {ps : List (List UInt8)} {z : Nat} {p : List UInt8} (h : AllOk ps) (hz : cnt p.length ≤ z) {k : Nat} {kf : Nat → Nat} (hk : k ≤ cnt p.length) (hkf : ∀ i, kf i ≤ 64) :
    Fit (settleN (fitL ps z) ((putTo (used ps) (blks ps.length p) (cnt p.length)).take k) kf k) ps (blks ps.length p) := by
  have hL := fitL_length ps z
  have hs := settle_apart (bl := fitL ps z) (kf := kf) ((putTo_apart (used ps) (blks ps.length p) (cnt p.length)).take k) k (by rw [List.length_take, putTo_length]; omega)
  have hg : ∀ j k' d, ((putTo (used ps) (blks ps.length p) (cnt p.length)).take k)[j]? = some (k', d) → k' = used ps + j ∧ j < k ∧ (blks ps.length p)[j]? = some d := fun j k' d hd => by
    have hj := (List.getElem?_eq_some_iff.1 hd).1
    rw [List.length_take, putTo_length] at hj
    rw [List.getElem?_take_of_lt (by omega), putTo_get _ _ (by omega)] at hd
    injection hd with hd
    injection hd with e1 e2
    refine ⟨e1.symm, by omega, ?_⟩
    rw [List.getElem?_eq_getElem (by rw [blks_length]; omega)]
    rw [List.getD_eq_getElem?_getD, List.getElem?_eq_getElem (by rw [blks_length]; omega)] at e2
    simpa using e2
  refine ⟨h, by rw [settleN_length, hL, blks_length]; omega, ?_, fun i x hx => ?_⟩
  · apply List.ext_getElem?
    intro i
    by_cases hi : i < used ps
    · rw [List.getElem?_take_of_lt hi, hs.2 i (fun j d _ hd => by have := (hg j i d hd).1; omega), fitL, List.getElem?_append_left hi]
    · rw [List.getElem?_eq_none (by rw [List.length_take]; omega), List.getElem?_eq_none (by show used ps ≤ i; omega)]
  · have hi := (List.getElem?_eq_some_iff.1 hx).1
    rw [settleN_length, hL] at hi
    have hz0 : (fitL ps z)[used ps + i]? = some z64 := by
      rw [fitL, List.getElem?_append_right (by show used ps ≤ _; omega), List.getElem?_replicate, if_pos (by have : (layd 0 ps).length = used ps := rfl; omega)]
    by_cases hik : i < k
    · obtain ⟨d, hd⟩ : ∃ d, (blks ps.length p)[i]? = some d := ⟨_, List.getElem?_eq_getElem (by rw [blks_length]; omega)⟩
      have hp : ((putTo (used ps) (blks ps.length p) (cnt p.length)).take k)[i]? = some (used ps + i, d) := by
        rw [List.getElem?_take_of_lt hik, putTo_get _ _ (by omega), List.getD_eq_getElem?_getD, hd]; rfl
      rw [hs.1 i (used ps + i) d z64 hik hp hz0] at hx
      injection hx with hx
      rw [← hx, List.getD_eq_getElem?_getD, hd]
      exact Mix.put (blks_mem (List.mem_of_getElem? hd)) (hkf i)
    · rw [hs.2 _ (fun j d _ hd => by have := (hg j _ d hd); omega), hz0] at hx
      injection hx with hx
      rw [← hx]
      exact Mix.nothing _

/-- blocks behind are emptied: whatever of that stands -/
theorem Fit.zero {bl ps q : List (List UInt8)} (h : Fit bl ps q) {u : Nat} (hu : used ps ≤ u) {k : Nat} {kf : Nat → Nat} (hk : k ≤ (zw (dirtyTo bl u bl.length)).length) (hkf : ∀ i, kf i ≤ 64) :
    Fit (settleN bl ((zw (dirtyTo bl u bl.length)).take k) kf k) ps q := by
  have hs := settle_apart (bl := bl) (kf := kf) ((zw_apart (dirty_nodup bl u bl.length)).take k) k (by rw [List.length_take]; omega)
  have hg : ∀ j k' d, ((zw (dirtyTo bl u bl.length)).take k)[j]? = some (k', d) → j < k ∧ u ≤ k' ∧ d = z64 := fun j k' d hd => by
    have hj := (List.getElem?_eq_some_iff.1 hd).1
    rw [List.length_take] at hj
    rw [List.getElem?_take_of_lt (by omega)] at hd
    obtain ⟨h1, h2⟩ := zw_get hd
    exact ⟨by omega, (mem_dirty.1 (List.mem_of_getElem? h1)).2.1, h2⟩
  refine ⟨h.ok, by rw [settleN_length]; exact h.room, ?_, fun i x hx => ?_⟩
  · rw [← h.lay]
    apply List.ext_getElem?
    intro i
    by_cases hi : i < used ps
    · rw [List.getElem?_take_of_lt hi, List.getElem?_take_of_lt hi, hs.2 i (fun j d _ hd => by have := (hg j i d hd); omega)]
    · rw [List.getElem?_eq_none (by rw [List.length_take]; omega), List.getElem?_eq_none (by rw [List.length_take]; omega)]
  · have hi := (List.getElem?_eq_some_iff.1 hx).1
    rw [settleN_length] at hi
    obtain ⟨y, hy⟩ : ∃ y, bl[used ps + i]? = some y := ⟨_, List.getElem?_eq_getElem hi⟩
    by_cases hm : ∃ (j : Nat) (d : List UInt8), ((zw (dirtyTo bl u bl.length)).take k)[j]? = some (used ps + i, d)
    · obtain ⟨j, d, hd⟩ := hm
      obtain ⟨h1, _, h3⟩ := hg j _ d hd
      subst h3
      rw [hs.1 j (used ps + i) z64 y h1 hd hy] at hx
      injection hx with hx
      rw [← hx]
      exact (h.mix i y hy).zero (hkf j)
    · rw [hs.2 _ (fun j d _ hd => hm ⟨j, d, hd⟩), hy] at hx
      injection hx with hx
      rw [← hx]
      exact h.mix i y hy
end Go.Proofs.Ytbpklikmldpeiaa
/-
  A power failure while a record is appended, or while the disk is opened, and what a restart leaves: plain.
-/
namespace Go.Proofs.Ytbpklikmldpeiaa

/-- what may be told of the disk behind a restart: a record's blocks, or what has become of them, behind the records -/
def Left6 (bl K : List (List UInt8)) (l : List UInt8) : Prop := ∃ q, Fit bl K q ∧ (q = [] ∨ (recOK ((K.length : Nat) : Int) l ∧ q = blks K.length l))

theorem Left6.ofCl {K : List (List UInt8)} {z : Nat} (h : AllOk K) (l : List UInt8) : Left6 (fitL K z) K l := ⟨[], Fit.ofCl h, .inl rfl⟩

theorem Left6.recs {bl K qs : List (List UInt8)} {l : List UInt8} {u : Nat} (h : Left6 bl K l) (hl : bl.length ≤ 65536) (hr : Recs 0 bl qs u) : AllOk qs ∧ u = used qs ∧ used K ≤ u ∧ (qs = K ∨ (qs = K ++ [l] ∧ l ≠ [])) := by
  obtain ⟨q, hf, hq⟩ := h
  rcases hf.recs hl (by
    rcases hq with h | ⟨h1, h2⟩
    · exact .inl h
    · exact .inr ⟨l, h1, h2⟩) hr with ⟨rfl, rfl⟩ | ⟨p, hp, hok, rfl, rfl⟩
  · exact ⟨hf.ok, rfl, Nat.le_refl _, .inl rfl⟩
  · rcases hq with rfl | ⟨h1, h2⟩
    · have := cnt_pos hok
      have h3 := congrArg List.length hp
      rw [blks_length] at h3
      simp at h3; omega
    · have e : p = l := by
        have h3 := begins_of (ls := blks K.length p) hok (by rw [List.take_of_length_le (by rw [blks_length]; exact Nat.le_refl _)]) (by rw [blks_length]; exact Nat.le_refl _)
        have h4 := begins_of (ls := blks K.length p) h1 (by rw [← h2, hp, List.take_of_length_le (by have := congrArg List.length (h2.symm.trans hp); rw [blks_length, blks_length] at this; rw [blks_length]; omega)]) (by have := congrArg List.length (h2.symm.trans hp); rw [blks_length, blks_length] at this; rw [blks_length]; omega)
        obtain ⟨d1, b1, f1, _⟩ := h3
        obtain ⟨d2, b2, f2, _⟩ := h4
        rw [← f1, ← f2, b1.inj b2]
      subst e
      refine ⟨hf.ok.snoc hok, rfl, by rw [used_snoc]; omega, .inr ⟨rfl, fun h0 => ?_⟩⟩
      have := hok.2.2.1
      rw [h0] at this
      simp at this

theorem fail_append {K : List (List UInt8)} {z : Nat} (p : List UInt8) (fu : Int) (h : AllOk K) (keep : List Nat) :
    ∃ bl, ((DS.mk (fitL K z) [] fu false).app K.length (used K) p).1.restart keep = ⟨bl, [], -1, false⟩ ∧ bl.length = used K + z ∧ ((DS.mk (fitL K z) [] fu false).app K.length (used K) p).1.pe.length ≤ 65536 ∧
      ((((DS.mk (fitL K z) [] fu false).app K.length (used K) p).2 = 0 ∧ ∃ z', bl = fitL (K ++ [p]) z' ∧ AllOk (K ++ [p])) ∨ (((DS.mk (fitL K z) [] fu false).app K.length (used K) p).2 ≠ 0 ∧ Left6 bl K p)) := by
  have hL : (fitL K z).length = used K + z := fitL_length K z
  unfold DS.app
  simp only
  rw [if_neg (by simp)]
  by_cases hr : recOK ((K.length : Nat) : Int) p
  · rw [if_neg (by simpa using hr)]
    by_cases hc : used K + z < used K + cnt p.length
    · rw [if_pos (by omega)]
      exact ⟨fitL K z, rfl, hL, by simp, .inr ⟨by simp, Left6.ofCl h p⟩⟩
    · rw [if_neg (by omega)]
      have hm := put_may (bl := fitL K z) (u := used K) (n := K.length) (p := p) (by omega)
      have hcc := cnt_pos hr
      have hpe : ((DS.mk (fitL K z) [] fu false).wsync (putTo (used K) (blks K.length p) (cnt p.length))).1.pe.length ≤ 65536 := by
        rcases DS.wsync_cases (fu := fu) hm with ⟨fu', e⟩ | ⟨k, fu', hk, e⟩
        · rw [e]; simp
        · rw [e]; simp only; rw [List.length_take, putTo_length]; omega
      obtain ⟨k, kf, hk, hkf, hre, h0⟩ := DS.wsync_restart (fu := fu) hm keep
      rw [putTo_length] at hk h0
      refine ⟨_, hre, by rw [settleN_length, hL], hpe, ?_⟩
      by_cases he : ((DS.mk (fitL K z) [] fu false).wsync (putTo (used K) (blks K.length p) (cnt p.length))).2 = 0
      · obtain ⟨e1, e2⟩ := h0 he
        subst e1 e2
        rw [List.take_of_length_le (by rw [putTo_length]; exact Nat.le_refl _), put_all (by omega)]
        exact .inl ⟨he, z - cnt p.length, rfl, h.snoc hr⟩
      · exact .inr ⟨he, blks K.length p, Fit.put h (by omega) hk hkf, .inr ⟨hr, rfl⟩⟩
  · rw [if_pos hr]
    exact ⟨fitL K z, rfl, hL, by simp, .inr ⟨by simp, Left6.ofCl h p⟩⟩

theorem fail_open {bl K : List (List UInt8)} {l : List UInt8} (fu : Int) (h : Left6 bl K l) (hl : bl.length ≤ 65536) {u : Nat} (hu : used K ≤ u) (keep : List Nat) :
    ∃ bl', ((DS.mk bl [] fu false).clear u).1.restart keep = ⟨bl', [], -1, false⟩ ∧ bl'.length = bl.length ∧ ((DS.mk bl [] fu false).clear u).1.pe.length ≤ 65536 ∧ Left6 bl' K l := by
  unfold DS.clear
  simp only
  split
  · exact ⟨bl, rfl, rfl, by simp, h⟩
  · have hm := zw_may (bl := bl) u
    have hdl := dirtyTo_length bl u bl.length
    have hpe : ((DS.mk bl [] fu false).wsync (zw (dirtyTo bl u bl.length))).1.pe.length ≤ 65536 := by
      rcases DS.wsync_cases (fu := fu) hm with ⟨fu', e⟩ | ⟨k, fu', hk, e⟩
      · rw [e]; simp
      · rw [e]; simp only; rw [List.length_take, zw_length]; omega
    obtain ⟨k, kf, hk, hkf, hre, _⟩ := DS.wsync_restart (fu := fu) hm keep
    obtain ⟨q, hf, hq⟩ := h
    exact ⟨_, hre, by rw [settleN_length], hpe, q, hf.zero hu hk hkf, hq⟩

/-- opened, without a fuse -/
theorem open_left {bl K qs : List (List UInt8)} {l : List UInt8} {u : Nat} (hbl : ∀ x ∈ bl, x.length = 64) (h : Left6 bl K l) (hl : bl.length ≤ 65536) (hr : Recs 0 bl qs u) :
    AllOk qs ∧ u = used qs ∧ used qs + (bl.length - used qs) = bl.length ∧ (DS.mk bl [] (-1) false).clear u = (Cl qs (bl.length - used qs), 0) ∧ (qs = K ∨ (qs = K ++ [l] ∧ l ≠ [])) := by
  obtain ⟨h1, h2, _, h3⟩ := h.recs hl hr
  have hle := hr.lead.le
  refine ⟨h1, h2, by omega, ?_, h3⟩
  rw [clear_fine hbl hr, h2]
  rfl
end Go.Proofs.Ytbpklikmldpeiaa
