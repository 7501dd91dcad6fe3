/-
  Records, plain: what a list of blocks begins with.
-/
import Derived.Test.YtbpklikmldpeiaaBlkJ
import Derived.Test.YtbpklikmldpeiaaBlkT
import Derived.Test.YtbpklikmldpeiaaDskP
namespace Go.Proofs.Ytbpklikmldpeiaa

/-- the blocks of records, from a number on -/
def layd : Nat → List (List UInt8) → List (List UInt8)
  | _, [] => []
  | n, p :: r => blks n p ++ layd (n + 1) r

theorem layd_append : ∀ (n : Nat) (ps qs : List (List UInt8)), layd n (ps ++ qs) = layd n ps ++ layd (n + ps.length) qs
  | n, [], qs => by simp [layd]
  | n, p :: r, qs => by
    rw [List.cons_append, layd, layd, layd_append (n + 1) r qs, List.append_assoc, List.length_cons, show n + 1 + r.length = n + (r.length + 1) by omega]
theorem layd_one (n : Nat) (p : List UInt8) : layd n [p] = blks n p := by simp [layd]

/-- what the blocks begin with, as far as it was looked at -/
structure Lead (n : Nat) (ls ps : List (List UInt8)) (u : Nat) : Prop where
  ok : ∀ i p, ps[i]? = some p → recOK ((n + i : Nat) : Int) p
  lay : ls.take u = layd n ps
  le : u ≤ ls.length

/-- the records with which blocks begin, and how many blocks they have -/
structure Recs (n : Nat) (ls ps : List (List UInt8)) (u : Nat) : Prop where
  lead : Lead n ls ps u
  stop : ∀ ds, ¬ Begins (n + ps.length) (ls.drop u) ds

theorem Lead.none (n : Nat) (ls : List (List UInt8)) : Lead n ls [] 0 := ⟨fun i p h => by simp at h, by simp [layd], Nat.zero_le _⟩

theorem cnt_pos {number : Int} {p : List UInt8} (h : recOK number p) : 1 ≤ cnt p.length ∧ cnt p.length ≤ 255 := by
  obtain ⟨_, _, h1, h2⟩ := h
  unfold cnt; omega

theorem Lead.len {n : Nat} {ls ps : List (List UInt8)} {u : Nat} (h : Lead n ls ps u) : u = (layd n ps).length := by
  rw [← h.lay, List.length_take]; have := h.le; omega

theorem layd_le : ∀ (n : Nat) (ps : List (List UInt8)), (∀ i p, ps[i]? = some p → recOK ((n + i : Nat) : Int) p) → ps.length ≤ (layd n ps).length
  | _, [], _ => Nat.zero_le _
  | n, p :: r, h => by
    have h1 := layd_le (n + 1) r (fun i q hq => by have := h (i + 1) q (by simpa using hq); rwa [show n + 1 + i = n + (i + 1) by omega])
    have h2 := cnt_pos (h 0 p rfl)
    rw [layd, List.length_append, blks_length, List.length_cons]
    omega
theorem Lead.few {n : Nat} {ls ps : List (List UInt8)} {u : Nat} (h : Lead n ls ps u) : ps.length ≤ u := by
  have := layd_le n ps h.ok
  rw [h.len]; exact this

theorem Lead.snoc {n : Nat} {ls ps ds : List (List UInt8)} {u : Nat} (h : Lead n ls ps u) (hb : Begins (n + ps.length) (ls.drop u) ds) (hn : n + ps.length ≤ 4294967294) : Lead n ls (ps ++ [ds.flatten]) (u + ds.length) := by
  obtain ⟨h1, h2, h3⟩ := hb.rec hn
  have hl := hb.2.1
  rw [List.length_drop] at hl
  have hle := h.le
  refine ⟨fun i p hp => ?_, ?_, by omega⟩
  · by_cases hi : i < ps.length
    · rw [List.getElem?_append_left hi] at hp; exact h.ok i p hp
    · have : i = ps.length := by have := (List.getElem?_eq_some_iff.1 hp).1; simp at this; omega
      subst this
      rw [List.getElem?_append_right (Nat.le_refl _), Nat.sub_self] at hp
      simp at hp
      rw [← hp]; exact h1
  · rw [List.take_add, h.lay, layd_append, layd_one, h3]

theorem Recs.of {n : Nat} {ls ps : List (List UInt8)} {u : Nat} (h : Lead n ls ps u) (hs : ∀ ds, ¬ Begins (n + ps.length) (ls.drop u) ds) : Recs n ls ps u := ⟨h, hs⟩

theorem Lead.begins {n : Nat} {ls r : List (List UInt8)} {p : List UInt8} {u : Nat} (h : Lead n ls (p :: r) u) : (∃ ds, Begins n ls ds ∧ ds.flatten = p) ∧ cnt p.length ≤ u ∧ Lead (n + 1) (ls.drop (cnt p.length)) r (u - cnt p.length) := by
  have hp := h.ok 0 p rfl
  have hl := h.len
  have hy := h.lay
  have hle := h.le
  rw [layd] at hl hy
  rw [List.length_append, blks_length] at hl
  have e1 : blks n p = ls.take (cnt p.length) := by
    have := congrArg (List.take (cnt p.length)) hy
    rw [List.take_take, Nat.min_eq_left (by omega), List.take_left' (blks_length n p)] at this
    exact this.symm
  obtain ⟨ds, h1, h2, _⟩ := begins_of hp e1 (by omega)
  refine ⟨⟨ds, h1, h2⟩, by omega, fun i q hq => ?_, ?_, ?_⟩
  · have := h.ok (i + 1) q (by simpa using hq)
    rwa [show n + 1 + i = n + (i + 1) by omega]
  · have := congrArg (List.drop (cnt p.length)) hy
    rw [List.drop_take, List.drop_left' (blks_length n p)] at this
    exact this
  · rw [List.length_drop]; omega

theorem Recs.inj : ∀ {n : Nat} {ls ps qs : List (List UInt8)} {u v : Nat}, Recs n ls ps u → Recs n ls qs v → ps = qs ∧ u = v
  | n, ls, [], [], u, v, h, h' => ⟨rfl, by rw [h.lead.len, h'.lead.len]⟩
  | n, ls, [], q :: s, u, v, h, h' => by
    have e : u = 0 := by rw [h.lead.len]; rfl
    subst e
    obtain ⟨⟨ds, hd, _⟩, _⟩ := h'.lead.begins
    exact absurd hd (h.stop ds)
  | n, ls, p :: r, [], u, v, h, h' => by
    have e : v = 0 := by rw [h'.lead.len]; rfl
    subst e
    obtain ⟨⟨ds, hd, _⟩, _⟩ := h.lead.begins
    exact absurd hd (h'.stop ds)
  | n, ls, p :: r, q :: s, u, v, h, h' => by
    obtain ⟨⟨ds, hd, hf⟩, hu, hl⟩ := h.lead.begins
    obtain ⟨⟨ds', hd', hf'⟩, hv, hl'⟩ := h'.lead.begins
    have e := hd.inj hd'
    subst e
    have e : p = q := by rw [← hf, ← hf']
    subst e
    have t1 : Recs (n + 1) (ls.drop (cnt p.length)) r (u - cnt p.length) := ⟨hl, fun ds => by
      have := h.stop ds
      rw [List.length_cons] at this
      rw [List.drop_drop, show cnt p.length + (u - cnt p.length) = u by omega, show n + 1 + r.length = n + (r.length + 1) by omega]
      exact this⟩
    have t2 : Recs (n + 1) (ls.drop (cnt p.length)) s (v - cnt p.length) := ⟨hl', fun ds => by
      have := h'.stop ds
      rw [List.length_cons] at this
      rw [List.drop_drop, show cnt p.length + (v - cnt p.length) = v by omega, show n + 1 + s.length = n + (s.length + 1) by omega]
      exact this⟩
    obtain ⟨e1, e2⟩ := Recs.inj t1 t2
    exact ⟨by rw [e1], by omega⟩

/-- blocks that don't begin with one of bytes 0 alone -/
theorem begins_first {number : Nat} {ls ds : List (List UInt8)} (h : Begins number ls ds) : ∃ l d, ls[0]? = some l ∧ IsBlk number 0 ds.length l d := by
  obtain ⟨h1, h2, h3, h4⟩ := h
  obtain ⟨l, hl⟩ : ∃ l, ls[0]? = some l := ⟨_, List.getElem?_eq_getElem (by omega)⟩
  obtain ⟨d, hd⟩ : ∃ d, ds[0]? = some d := ⟨_, List.getElem?_eq_getElem (by omega)⟩
  exact ⟨l, d, hl, h4 0 l d hl hd⟩

theorem not_zero {number place count : Nat} {d : List UInt8} (hn : number ≤ 4294967294) : ¬ IsBlk number place count z64 d := by
  intro h
  have h1 := blkL_tag number place count d h.2.2.1
  rw [← h.2.2.2.2] at h1
  exact (notTag_zero hn).2 h1

theorem no_zeros {number : Nat} (hn : number ≤ 4294967294) (k : Nat) (ds : List (List UInt8)) : ¬ Begins number (List.replicate k z64) ds := by
  intro h
  obtain ⟨l, d, hl, hb⟩ := begins_first h
  have := List.mem_of_getElem? hl
  rw [(List.mem_replicate.1 this).2] at hb
  exact not_zero hn hb

/-- records, and behind them empty blocks -/
def fitL (ps : List (List UInt8)) (k : Nat) : List (List UInt8) := layd 0 ps ++ List.replicate k z64

theorem Recs.fit {ps : List (List UInt8)} (h : ∀ i p, ps[i]? = some p → recOK ((i : Nat) : Int) p) (hn : ps.length ≤ 4294967294) (k : Nat) : Recs 0 (fitL ps k) ps (layd 0 ps).length := by
  refine ⟨⟨fun i p hp => by rw [Nat.zero_add]; exact h i p hp, by rw [fitL, List.take_left' rfl], ?_⟩, fun ds => ?_⟩
  · rw [fitL, List.length_append]; omega
  · rw [fitL, List.drop_left' rfl, Nat.zero_add]; exact no_zeros hn k ds

/-- what is behind the records doesn't matter to them -/
theorem Recs.cleared {ls ps : List (List UInt8)} {u : Nat} (h : Recs 0 ls ps u) : ls.take u ++ List.replicate (ls.length - u) z64 = fitL ps (ls.length - u) := by
  rw [h.lead.lay, fitL]
end Go.Proofs.Ytbpklikmldpeiaa
