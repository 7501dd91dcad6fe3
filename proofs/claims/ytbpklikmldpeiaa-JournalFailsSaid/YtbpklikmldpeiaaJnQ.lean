/-
  Writes one behind the other, and a sync, plain; what Open and Append make of a disk.
-/
import Derived.Test.YtbpklikmldpeiaaJnP
import Derived.Test.YtbpklikmldpeiaaBlkM
namespace Go.Proofs.Ytbpklikmldpeiaa

theorem snoc_ind {α : Type} {P : List α → Prop} (h0 : P []) (h1 : ∀ r p, P r → P (r ++ [p])) (l : List α) : P l := by
  have h : ∀ r : List α, P r.reverse := fun r => by
    induction r with
    | nil => exact h0
    | cons a t ih => rw [List.reverse_cons]; exact h1 _ _ ih
  have := h l.reverse
  rwa [List.reverse_reverse] at this

/-- writes, as far as none fails -/
def DS.writes (s : DS) (ps : List (Nat × List UInt8)) : DS × Int := ps.foldl (fun r p => if r.2 = 0 then r.1.write (p.1 : Nat) p.2 else r) (s, 0)
/-- and a sync -/
def DS.wsync (s : DS) (ps : List (Nat × List UInt8)) : DS × Int := if (s.writes ps).2 = 0 then (s.writes ps).1.sync else s.writes ps

theorem DS.writes_nil (s : DS) : s.writes [] = (s, 0) := rfl
theorem DS.writes_snoc (s : DS) (ps : List (Nat × List UInt8)) (p : Nat × List UInt8) : s.writes (ps ++ [p]) = if (s.writes ps).2 = 0 then (s.writes ps).1.write (p.1 : Nat) p.2 else s.writes ps := by
  unfold DS.writes
  rw [List.foldl_append]
  rfl
theorem DS.writes_stuck (s : DS) (ps : List (Nat × List UInt8)) (h : (s.writes ps).2 ≠ 0) : ∀ qs, s.writes (ps ++ qs) = s.writes ps := by
  intro qs
  induction qs generalizing ps with
  | nil => rw [List.append_nil]
  | cons q r ih =>
    have e : s.writes (ps ++ [q]) = s.writes ps := by rw [s.writes_snoc, if_neg h]
    have := ih (ps ++ [q]) (by rw [e]; exact h)
    rw [List.append_assoc] at this
    rw [show ps ++ q :: r = ps ++ ([q] ++ r) from rfl, this, e]

theorem DS.write_len (s : DS) (k : Int) (d : List UInt8) : (s.write k d).1.pe.length ≤ s.pe.length + 1 := by
  unfold DS.write
  split
  · simp
  · split
    · simp
    · rw [DS.thing_pe]; simp [DS.pend]
theorem DS.write_bl' (s : DS) (k : Int) (d : List UInt8) : (s.write k d).1.bl = s.bl := by
  unfold DS.write
  split
  · rfl
  · split
    · rfl
    · rw [DS.thing_bl]; rfl
theorem DS.writes_bl (s : DS) (ps : List (Nat × List UInt8)) : (s.writes ps).1.bl = s.bl := by
  induction ps using snoc_ind with
  | h0 => rfl
  | h1 r p ih =>
    rw [s.writes_snoc]
    split
    · rw [DS.write_bl', ih]
    · exact ih
theorem DS.writes_pe (s : DS) (ps : List (Nat × List UInt8)) : (s.writes ps).1.pe.length ≤ s.pe.length + ps.length := by
  induction ps using snoc_ind with
  | h0 => exact Nat.le_refl _
  | h1 r p ih =>
    rw [s.writes_snoc, List.length_append, List.length_singleton]
    split
    · have := DS.write_len (s.writes r).1 (p.1 : Nat) p.2; omega
    · omega

/-- the places from one on whose blocks aren't empty, among the first k -/
def dirtyTo (ls : List (List UInt8)) (u k : Nat) : List Nat := (List.range k).filter fun i => decide (u ≤ i ∧ ls.getD i [] ≠ z64)
theorem dirtyTo_no {ls : List (List UInt8)} {u k : Nat} {x : List UInt8} (hx : ls[k]? = some x) (h : x = z64) : dirtyTo ls u (k + 1) = dirtyTo ls u k := by
  have hg : ls.getD k [] = x := by rw [List.getD_eq_getElem?_getD, hx]; rfl
  unfold dirtyTo
  have e : List.filter (fun i => decide (u ≤ i ∧ ls.getD i [] ≠ z64)) [k] = [] := by rw [List.filter_eq_nil_iff]; intro i hi; rw [List.mem_singleton] at hi; subst hi; rw [hg, h]; simp
  rw [List.range_succ, List.filter_append, e, List.append_nil]
theorem dirtyTo_yes {ls : List (List UInt8)} {u k : Nat} {x : List UInt8} (hx : ls[k]? = some x) (h : x ≠ z64) (hu : u ≤ k) : dirtyTo ls u (k + 1) = dirtyTo ls u k ++ [k] := by
  have hg : ls.getD k [] = x := by rw [List.getD_eq_getElem?_getD, hx]; rfl
  unfold dirtyTo
  have e : List.filter (fun i => decide (u ≤ i ∧ ls.getD i [] ≠ z64)) [k] = [k] := by rw [List.filter_eq_self]; intro i hi; rw [List.mem_singleton] at hi; subst hi; rw [hg]; simp [h, hu]
  rw [List.range_succ, List.filter_append, e]
theorem dirtyTo_start (ls : List (List UInt8)) (u : Nat) : dirtyTo ls u u = [] := by
  unfold dirtyTo
  rw [List.filter_eq_nil_iff]
  intro i hi
  rw [List.mem_range] at hi
  simp; omega
theorem dirtyTo_length (ls : List (List UInt8)) (u k : Nat) : (dirtyTo ls u k).length ≤ k := by
  have := List.length_filter_le (fun i => decide (u ≤ i ∧ ls.getD i [] ≠ z64)) (List.range k)
  rw [List.length_range] at this
  exact this
/-- writes that empty these -/
def zw (l : List Nat) : List (Nat × List UInt8) := l.map fun k => (k, z64)
theorem zw_snoc (l : List Nat) (k : Nat) : zw (l ++ [k]) = zw l ++ [(k, z64)] := by simp [zw]
theorem zw_length (l : List Nat) : (zw l).length = l.length := by simp [zw]

/-- what Open does -/
def DS.clear (s : DS) (u : Nat) : DS × Int := if dirtyTo s.bl u s.bl.length = [] then (s, 0) else s.wsync (zw (dirtyTo s.bl u s.bl.length))

/-- blocks, written from a place on: the first k -/
def putTo (u : Nat) (ls : List (List UInt8)) (k : Nat) : List (Nat × List UInt8) := (List.range k).map fun i => (u + i, ls.getD i [])
theorem putTo_length (u : Nat) (ls : List (List UInt8)) (k : Nat) : (putTo u ls k).length = k := by simp [putTo]
theorem putTo_succ {u : Nat} {ls : List (List UInt8)} {k : Nat} {x : List UInt8} (hx : ls[k]? = some x) : putTo u ls (k + 1) = putTo u ls k ++ [(u + k, x)] := by
  have hg : ls.getD k [] = x := by rw [List.getD_eq_getElem?_getD, hx]; rfl
  unfold putTo
  rw [List.range_succ, List.map_append, List.map_singleton, hg]

theorem putTo_prefix (u : Nat) (ls : List (List UInt8)) {k n : Nat} (h : k ≤ n) : ∃ r, putTo u ls n = putTo u ls k ++ r := by
  refine ⟨((List.range (n - k)).map (k + ·)).map fun i => (u + i, ls.getD i []), ?_⟩
  unfold putTo
  rw [← List.map_append, ← List.range_add, show k + (n - k) = n by omega]
theorem dirtyTo_prefix (ls : List (List UInt8)) (u : Nat) {k n : Nat} (h : k ≤ n) : ∃ r, dirtyTo ls u n = dirtyTo ls u k ++ r := by
  refine ⟨((List.range (n - k)).map (k + ·)).filter fun i => decide (u ≤ i ∧ ls.getD i [] ≠ z64), ?_⟩
  unfold dirtyTo
  rw [← List.filter_append, ← List.range_add, show k + (n - k) = n by omega]

/-- a write among them that fails is the end -/
theorem DS.wsync_put_fails {s : DS} {u : Nat} {ls : List (List UInt8)} {k n : Nat} (h : k ≤ n) (hf : (s.writes (putTo u ls k)).2 ≠ 0) : s.wsync (putTo u ls n) = s.writes (putTo u ls k) := by
  obtain ⟨r, hr⟩ := putTo_prefix u ls h
  have e := s.writes_stuck _ hf r
  unfold DS.wsync
  rw [hr, e, if_neg hf]
theorem DS.wsync_dirty_fails {s : DS} {u : Nat} {ls : List (List UInt8)} {k n : Nat} (h : k ≤ n) (hf : (s.writes (zw (dirtyTo ls u k))).2 ≠ 0) : dirtyTo ls u n ≠ [] ∧ s.wsync (zw (dirtyTo ls u n)) = s.writes (zw (dirtyTo ls u k)) := by
  obtain ⟨r, hr⟩ := dirtyTo_prefix ls u h
  have e := s.writes_stuck _ hf (zw r)
  refine ⟨fun h0 => ?_, ?_⟩
  · rw [hr] at h0
    have : dirtyTo ls u k = [] := (List.append_eq_nil_iff.1 h0).1
    rw [this] at hf
    exact hf rfl
  · unfold DS.wsync
    rw [hr, show zw (dirtyTo ls u k ++ r) = zw (dirtyTo ls u k) ++ zw r by simp [zw], e, if_neg hf]

open Classical in
/-- what Append does to the disk -/
noncomputable def DS.app (s : DS) (n u : Nat) (p : List UInt8) : DS × Int :=
  if s.dead = true then (s, 7) else if ¬ recOK ((n : Nat) : Int) p then (s, 1) else if s.bl.length < u + cnt p.length then (s, 6) else s.wsync (putTo u (blks n p) (cnt p.length))

theorem read_none {s : DS} (hp : s.pe = []) (hd : s.dead = false) {k : Nat} {x : List UInt8} (hx : s.bl[k]? = some x) : s.read (k : Nat) = (x, 0) := by
  have hlt := (List.getElem?_eq_some_iff.1 hx).1
  have hr : s.refusal (k : Nat) = 0 := by
    unfold DS.refusal
    rw [if_neg (by rw [hd]; decide), if_neg (by omega)]
  unfold DS.read
  rw [if_neg (by rw [hr]; decide), hp, Int.toNat_natCast, List.getD_eq_getElem?_getD, hx]
  rfl
end Go.Proofs.Ytbpklikmldpeiaa
