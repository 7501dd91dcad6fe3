/-
  Plain: the balances of each currency are nothing together.
-/
import Derived.Test.YteclhcjfnmkkjaaBkZ
namespace Go.Proofs.Yteclhcjfnmkkjaa
open Go.Lib
set_option linter.unusedSimpArgs false

def cS (c : List UInt8) (m : List Ln) : Int := (amts c m).sum
def one (c : List UInt8) (x : Ln) : Int := if x.1.2.2 = c then x.2 else 0
theorem cS_cons (c : List UInt8) (x : Ln) (m : List Ln) : cS c (x :: m) = one c x + cS c m := by
  unfold cS one amts
  by_cases h : x.1.2.2 = c
  · rw [List.filter_cons, if_pos (decide_eq_true h), if_pos h, List.map_cons, List.sum_cons]
  · rw [List.filter_cons, if_neg (by simpa using h), if_neg h]; omega
theorem cS_append (c : List UInt8) (a b : List Ln) : cS c (a ++ b) = cS c a + cS c b := by
  unfold cS; rw [amts_append, List.sum_append]
theorem cS_one (c : List UInt8) (x : Ln) : cS c [x] = one c x := by
  rw [cS_cons]; unfold cS amts; simp

theorem cS_setL (c : List UInt8) (x : Ln) : ∀ (m : List Ln) (d : Bool), Srt m → cS c (setL x d m) = cS c m + (if x.1.2.2 = c then (if d then 0 else x.2) - rGet m x.1 else 0)
  | [], d, _ => by
    cases d with
    | true => simp [setL, rGet]
    | false =>
      simp only [setL, Bool.false_eq_true, if_false, cS_one, rGet]
      unfold one cS amts
      split <;> simp
  | y :: r, d, hs => by
    obtain ⟨h1, h2⟩ := List.pairwise_cons.1 hs
    rw [setL, cS_append, cS_append, cS_cons]
    have ih := cS_setL c x r (d || decide (0 < cmpA y.1 x.1)) h2
    rw [ih]
    by_cases h : 0 < cmpA y.1 x.1
    · have hne : y.1 ≠ x.1 := fun e => by rw [e, cmpA_self] at h; omega
      have n0 : cmpA y.1 x.1 ≠ 0 := by omega
      have e0 : cS c [] = 0 := rfl
      rw [if_pos n0, cS_one, show rGet (y :: r) x.1 = rGet r x.1 from by rw [rGet, if_neg hne]]
      cases d with
      | true =>
        simp only [Bool.true_or, if_true, Bool.true_eq_false, and_false, if_false, e0]
        omega
      | false =>
        simp only [h, true_and, if_true, cS_one, decide_true, Bool.or_true, Bool.false_eq_true, if_false]
        unfold one
        split <;> omega
    · rw [if_neg (fun hh => h hh.1)]
      simp only [h, decide_false, Bool.or_false]
      have e0 : cS c [] = 0 := rfl
      rw [e0]
      by_cases h0 : cmpA y.1 x.1 = 0
      · have he := cmpA_eq h0
        rw [if_neg (by simp [h0]), e0, show rGet (y :: r) x.1 = y.2 from by rw [rGet, if_pos he]]
        have hz : rGet r x.1 = 0 := rGet_none fun z hz e => by
          have := h1 z hz
          rw [he, ← e, cmpA_self] at this; omega
        rw [hz]
        unfold one
        rw [he]
        split <;> omega
      · have hne : y.1 ≠ x.1 := fun e => h0 (cmpA_zero.2 e)
        rw [if_pos h0, cS_one, show rGet (y :: r) x.1 = rGet r x.1 from by rw [rGet, if_neg hne]]
        omega

theorem cS_rSet {m : List Ln} (hs : Srt m) (c : List UInt8) (x : Ln) : cS c (rSet m x) = cS c m + (if x.1.2.2 = c then x.2 - rGet m x.1 else 0) := by
  unfold rSet
  rw [cS_setL c x m _ hs]
  by_cases h : x.2 = 0
  · rw [decide_eq_true h, h]; simp
  · rw [decide_eq_false h]; simp

theorem cS_addL (c : List UInt8) : ∀ (l : List Ln) {m m' : List Ln}, Srt m → addL m l = some m' → cS c m' = cS c m + cS c l
  | [], m, m', _, h => by simp [addL] at h; rw [← h]; unfold cS amts; simp
  | x :: r, m, m', hs, h => by
    simp only [addL] at h
    split at h
    · rw [cS_addL c r (srt_rSet hs _) h, cS_rSet hs, cS_cons]
      unfold one
      simp only
      split <;> omega
    · cases h

/-- nothing together -/
def Zero (m : List Ln) : Prop := ∀ c, cS c m = 0
theorem zero_nil : Zero [] := fun _ => rfl
theorem evenL_zero {l : List Ln} (h : evenL l = true) : Zero l := fun c => by
  by_cases hc : ∃ x ∈ l, x.1.2.2 = c
  · obtain ⟨x, hx, rfl⟩ := hc
    unfold evenL at h
    rw [List.all_eq_true] at h
    have h1 := h x hx
    simp only [decide_eq_true_eq] at h1
    have := sumTo_sum _ _ _ h1
    unfold cS; omega
  · have e : amts c l = [] := by
      unfold amts
      rw [List.map_eq_nil_iff, List.filter_eq_nil_iff]
      intro x hx
      simp only [decide_eq_true_eq]
      exact fun e => hc ⟨x, hx, e⟩
    unfold cS; rw [e]; rfl
theorem Zero.post {m : List Ln} (h : Zero m) (hs : Srt m) (l : List Ln) : Zero (postL m l).1 := by
  unfold postL
  split
  · rename_i hh
    cases ha : addL m l with
    | none => exact h
    | some m' =>
      simp only
      split
      · intro c
        rw [cS_addL c l hs ha, h c, evenL_zero hh.2 c]; rfl
      · exact h
  · exact h
theorem zero_at (ls : List (List Ln)) (k : Nat) : Zero (mAt ls k) := by
  unfold mAt
  generalize ls.take k = r
  suffices ∀ (r : List (List Ln)) (m : List Ln), Good m → Zero m → Zero (r.foldl (fun m l => (postL m l).1) m) from this r [] good_nil zero_nil
  intro r
  induction r with
  | nil => intro m _ h; exact h
  | cons l r ih => intro m hg h; exact ih _ (hg.post l) (h.post hg.srt l)

/-- a currency's balances below 0, and above -/
def negs (c : List UInt8) (m : List Ln) : List Int := (m.filter fun x => decide (x.1.2.2 = c ∧ x.2 < 0)).map (·.2)
def poss (c : List UInt8) (m : List Ln) : List Int := (m.filter fun x => decide (x.1.2.2 = c ∧ 0 < x.2)).map (·.2)

theorem negs_yes {m : List Ln} {c : List UInt8} {k : Nat} {x : Ln} (hx : m[k]? = some x) (h : x.1.2.2 = c ∧ x.2 < 0) : negs c (m.take (k + 1)) = negs c (m.take k) ++ [x.2] := by
  obtain ⟨h1, h2⟩ := List.getElem?_eq_some_iff.1 hx
  unfold negs
  rw [List.take_succ_eq_append_getElem h1, h2, List.filter_append, List.map_append, List.filter_cons, if_pos (decide_eq_true h)]; rfl
theorem negs_no {m : List Ln} {c : List UInt8} {k : Nat} {x : Ln} (hx : m[k]? = some x) (h : ¬ (x.1.2.2 = c ∧ x.2 < 0)) : negs c (m.take (k + 1)) = negs c (m.take k) := by
  obtain ⟨h1, h2⟩ := List.getElem?_eq_some_iff.1 hx
  unfold negs
  rw [List.take_succ_eq_append_getElem h1, h2, List.filter_append, List.map_append, List.filter_cons, if_neg (by simpa using h)]; simp
theorem poss_yes {m : List Ln} {c : List UInt8} {k : Nat} {x : Ln} (hx : m[k]? = some x) (h : x.1.2.2 = c ∧ 0 < x.2) : poss c (m.take (k + 1)) = poss c (m.take k) ++ [x.2] := by
  obtain ⟨h1, h2⟩ := List.getElem?_eq_some_iff.1 hx
  unfold poss
  rw [List.take_succ_eq_append_getElem h1, h2, List.filter_append, List.map_append, List.filter_cons, if_pos (decide_eq_true h)]; rfl
theorem poss_no {m : List Ln} {c : List UInt8} {k : Nat} {x : Ln} (hx : m[k]? = some x) (h : ¬ (x.1.2.2 = c ∧ 0 < x.2)) : poss c (m.take (k + 1)) = poss c (m.take k) := by
  obtain ⟨h1, h2⟩ := List.getElem?_eq_some_iff.1 hx
  unfold poss
  rw [List.take_succ_eq_append_getElem h1, h2, List.filter_append, List.map_append, List.filter_cons, if_neg (by simpa using h)]; simp
theorem negs_len (c : List UInt8) (m : List Ln) : (negs c m).length ≤ m.length := by
  unfold negs; rw [List.length_map]; exact List.length_filter_le _ _
theorem poss_len (c : List UInt8) (m : List Ln) : (poss c m).length ≤ m.length := by
  unfold poss; rw [List.length_map]; exact List.length_filter_le _ _
theorem Good.each {m : List Ln} (h : Good m) : ∀ x ∈ m, Amt x.2 := fun x hx => by
  have := h.amt x.1
  rw [rGet_mem h.srt hx] at this
  exact this
theorem negs_amt {m : List Ln} (h : Good m) (c : List UInt8) : ∀ z ∈ negs c m, Amt z := by
  intro z hz
  unfold negs at hz
  obtain ⟨x, hx, rfl⟩ := List.mem_map.1 hz
  exact h.each x (List.mem_filter.1 hx).1
theorem poss_amt {m : List Ln} (h : Good m) (c : List UInt8) : ∀ z ∈ poss c m, Amt z := by
  intro z hz
  unfold poss at hz
  obtain ⟨x, hx, rfl⟩ := List.mem_map.1 hz
  exact h.each x (List.mem_filter.1 hx).1
theorem parts_sum (c : List UInt8) : ∀ m : List Ln, (negs c m).sum + (poss c m).sum = cS c m
  | [] => rfl
  | x :: r => by
    have ih := parts_sum c r
    rw [cS_cons, ← ih]
    unfold negs poss one
    rw [List.filter_cons, List.filter_cons]
    by_cases h : x.1.2.2 = c
    · by_cases h1 : x.2 < 0
      · rw [if_pos (decide_eq_true ⟨h, h1⟩), if_neg (by simp [h]; omega), if_pos h, List.map_cons, List.sum_cons]; omega
      · by_cases h2 : 0 < x.2
        · rw [if_neg (by simp [h1]), if_pos (decide_eq_true ⟨h, h2⟩), if_pos h, List.map_cons, List.sum_cons]; omega
        · rw [if_neg (by simp [h1]), if_neg (by simp [h2]), if_pos h]; omega
    · rw [if_neg (by simp [h]), if_neg (by simp [h]), if_neg h]; omega

/-- a kind that owes is below 0, another above -/
theorem side_neg {m : List Ln} (hg : Good m) (hs : sideL m = true) {x : Ln} (hx : x ∈ m) (h : owes x.1.1 = true) : x.2 < 0 := by
  unfold sideL at hs
  rw [List.all_eq_true] at hs
  have h1 := hs x hx
  have h2 := hg.nz x hx
  unfold sideOk at h1
  rw [if_pos h] at h1
  simp at h1; omega
theorem side_pos {m : List Ln} (hs : sideL m = true) {x : Ln} (hx : x ∈ m) (h : owes x.1.1 = false) : ¬ x.2 < 0 := by
  unfold sideL at hs
  rw [List.all_eq_true] at hs
  have h1 := hs x hx
  unfold sideOk at h1
  rw [if_neg (by rw [h]; decide)] at h1
  simp at h1; omega
end Go.Proofs.Yteclhcjfnmkkjaa
