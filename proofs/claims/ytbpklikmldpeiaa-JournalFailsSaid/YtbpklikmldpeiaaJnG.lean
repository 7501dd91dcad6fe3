/-
  A journal that nothing happens to, plain; and one whose power fails.
-/
import Derived.Test.YtbpklikmldpeiaaJnF
namespace Go.Proofs.Ytbpklikmldpeiaa

/-- records on a disk, so many empty blocks behind them -/
def Cl (ps : List (List UInt8)) (z : Nat) : DS := ⟨fitL ps z, [], -1, false⟩
/-- how many blocks they have -/
def used (ps : List (List UInt8)) : Nat := (layd 0 ps).length
/-- they are records -/
def AllOk (ps : List (List UInt8)) : Prop := ∀ i p, ps[i]? = some p → recOK ((i : Nat) : Int) p

theorem AllOk.nil : AllOk [] := fun i p h => by simp at h
theorem AllOk.snoc {ps : List (List UInt8)} {p : List UInt8} (h : AllOk ps) (hp : recOK ((ps.length : Nat) : Int) p) : AllOk (ps ++ [p]) := fun i q hq => by
  by_cases hi : i < ps.length
  · rw [List.getElem?_append_left hi] at hq; exact h i q hq
  · have : i = ps.length := by have := (List.getElem?_eq_some_iff.1 hq).1; simp at this; omega
    subst this
    rw [List.getElem?_append_right (Nat.le_refl _), Nat.sub_self] at hq
    simp at hq
    rw [← hq]; exact hp
theorem used_snoc (ps : List (List UInt8)) (p : List UInt8) : used (ps ++ [p]) = used ps + cnt p.length := by
  unfold used
  rw [layd_append, List.length_append, layd_one, Nat.zero_add, blks_length]
theorem AllOk.few {ps : List (List UInt8)} (h : AllOk ps) : ps.length ≤ used ps := layd_le 0 ps fun i p hp => by rw [Nat.zero_add]; exact h i p hp
theorem fitL_length (ps : List (List UInt8)) (z : Nat) : (fitL ps z).length = used ps + z := by rw [fitL, List.length_append, List.length_replicate]; rfl
theorem fitL_len {ps : List (List UInt8)} {z : Nat} : ∀ x ∈ fitL ps z, x.length = 64 := fun x hx => by
  rcases List.mem_append.1 hx with h | h
  · exact layd_len ps 0 x h
  · rw [(List.mem_replicate.1 h).2, z64_length]

theorem newDS_cl (n : Nat) : newDS n = Cl [] n := by simp [newDS, Cl, fitL, layd]

theorem Recs.ofCl {ps : List (List UInt8)} {z : Nat} (h : AllOk ps) (hz : used ps + z ≤ 65536) : Recs 0 (Cl ps z).bl ps (used ps) := Recs.fit h (by have := h.few; omega) z

/-- such a journal, opened -/
theorem open_cl {ps qs : List (List UInt8)} {z u : Nat} (h : AllOk ps) (hz : used ps + z ≤ 65536) (hr : Recs 0 (Cl ps z).bl qs u) : qs = ps ∧ u = used ps ∧ (Cl ps z).clear u = (Cl ps z, 0) := by
  obtain ⟨e1, e2⟩ := hr.inj (Recs.ofCl h hz)
  subst e1 e2
  refine ⟨rfl, rfl, ?_⟩
  have := clear_fine (bl := fitL qs z) fitL_len hr
  rw [fitL_length, Nat.add_sub_cancel_left] at this
  exact this

/-- once more, whatever the fuse: nothing is written -/
theorem open_fuse {ps qs : List (List UInt8)} {z u : Nat} (fu : Int) (h : AllOk ps) (hz : used ps + z ≤ 65536) (hr : Recs 0 (fitL ps z) qs u) : qs = ps ∧ u = used ps ∧ (DS.mk (fitL ps z) [] fu false).clear u = (⟨fitL ps z, [], fu, false⟩, 0) := by
  obtain ⟨e1, e2⟩ := hr.inj (Recs.ofCl h hz)
  subst e1 e2
  refine ⟨rfl, rfl, ?_⟩
  have hd : dirtyTo (fitL qs z) (used qs) (fitL qs z).length = [] := by
    rw [List.eq_nil_iff_forall_not_mem]
    intro i hi
    obtain ⟨h1, h2, h3⟩ := mem_dirty.1 hi
    refine h3 ?_
    rw [fitL_length] at h1
    rw [List.getD_eq_getElem?_getD, fitL, List.getElem?_append_right h2, List.getElem?_replicate, if_pos (by have : (layd 0 qs).length = used qs := rfl; omega)]
    rfl
  unfold DS.clear
  simp only
  rw [if_pos hd]

/-- all blocks of a record stand -/
theorem put_all {ps : List (List UInt8)} {p : List UInt8} {z : Nat} (hz : cnt p.length ≤ z) :
    settleN (fitL ps z) (putTo (used ps) (blks ps.length p) (cnt p.length)) (fun _ => 64) (cnt p.length) = fitL (ps ++ [p]) (z - cnt p.length) := by
  have hs := settle_apart (bl := fitL ps z) (kf := fun _ => 64) (putTo_apart (used ps) (blks ps.length p) (cnt p.length)) (cnt p.length) (by rw [putTo_length]; exact Nat.le_refl _)
  have hL : (fitL ps z).length = used ps + z := fitL_length ps z
  have hlay : layd 0 (ps ++ [p]) = layd 0 ps ++ blks ps.length p := by rw [layd_append, layd_one, Nat.zero_add]
  have hu : (layd 0 ps).length = used ps := rfl
  have hb := blks_length ps.length p
  apply List.ext_getElem?
  intro i
  by_cases hi : i < used ps + z
  · obtain ⟨x, hx⟩ : ∃ x, (fitL ps z)[i]? = some x := ⟨_, List.getElem?_eq_getElem (by omega)⟩
    have hx64 := fitL_len x (List.mem_of_getElem? hx)
    by_cases h1 : i < used ps
    · rw [hs.2 i (fun j d hj hd => by rw [putTo_get _ _ hj] at hd; injection hd with hd; injection hd with hd _; omega)]
      rw [fitL, fitL, hlay, List.append_assoc, List.getElem?_append_left (by omega), List.getElem?_append_left (by omega)]
    · by_cases h2 : i < used ps + cnt p.length
      · obtain ⟨y, hy⟩ : ∃ y, (blks ps.length p)[i - used ps]? = some y := ⟨_, List.getElem?_eq_getElem (by omega)⟩
        have hj := putTo_get (used ps) (blks ps.length p) (n := cnt p.length) (i := i - used ps) (by omega)
        rw [show used ps + (i - used ps) = i by omega, List.getD_eq_getElem?_getD, hy] at hj
        have hy64 := blks_mem (List.mem_of_getElem? hy)
        rw [hs.1 (i - used ps) i y x (by omega) hj hx, List.take_of_length_le (by omega), List.drop_of_length_le (by omega), List.append_nil]
        rw [fitL, hlay, List.append_assoc, List.getElem?_append_right (by omega), List.getElem?_append_left (by omega), hu, hy]
      · rw [hs.2 i (fun j d hj hd => by rw [putTo_get _ _ hj] at hd; injection hd with hd; injection hd with hd _; omega)]
        rw [fitL, fitL, hlay, List.append_assoc, List.getElem?_append_right (by omega), List.getElem?_append_right (by omega), List.getElem?_append_right (by omega), List.getElem?_replicate, List.getElem?_replicate, if_pos (by omega), if_pos (by omega)]
  · rw [List.getElem?_eq_none (by rw [settleN_length]; omega), List.getElem?_eq_none (by rw [fitL_length, used_snoc]; omega)]

/-- an Append, of which nothing fails: of a record that has room -/
theorem app_yes {ps : List (List UInt8)} {z : Nat} {p : List UInt8} (hr : recOK ((ps.length : Nat) : Int) p) (hc : cnt p.length ≤ z) : (Cl ps z).app ps.length (used ps) p = (Cl (ps ++ [p]) (z - cnt p.length), 0) := by
  have hL : (fitL ps z).length = used ps + z := fitL_length ps z
  unfold DS.app Cl
  simp only
  rw [if_neg (by simp), if_neg (by simpa using hr), if_neg (by omega), DS.wsync_fine (put_may (by omega)), putTo_length, put_all hc]
/-- an Append, of which nothing fails: a record that has room, or an error -/
theorem app_cl (ps : List (List UInt8)) (z : Nat) (p : List UInt8) :
    (recOK ((ps.length : Nat) : Int) p ∧ cnt p.length ≤ z ∧ (Cl ps z).app ps.length (used ps) p = (Cl (ps ++ [p]) (z - cnt p.length), 0)) ∨ ∃ e : Int, e ≠ 0 ∧ (Cl ps z).app ps.length (used ps) p = (Cl ps z, e) := by
  have hL : (fitL ps z).length = used ps + z := fitL_length ps z
  unfold DS.app Cl
  simp only
  rw [if_neg (by simp)]
  by_cases hr : recOK ((ps.length : Nat) : Int) p
  · rw [if_neg (by simpa using hr)]
    by_cases hc : used ps + z < used ps + cnt p.length
    · rw [if_pos (by omega)]
      exact .inr ⟨6, by decide, rfl⟩
    · rw [if_neg (by omega), DS.wsync_fine (put_may (by omega)), putTo_length, put_all (by omega)]
      exact .inl ⟨hr, by omega, rfl⟩
  · rw [if_pos hr]
    exact .inr ⟨1, by decide, rfl⟩
end Go.Proofs.Ytbpklikmldpeiaa
