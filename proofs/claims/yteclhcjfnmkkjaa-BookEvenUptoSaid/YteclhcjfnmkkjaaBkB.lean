/-
  Plain: whether lines come to nothing in each currency; lines booked; what stands then.
-/
import Derived.Test.YteclhcjfnmkkjaaBkA
import Derived.Test.YteclhcjfnmkkjaaMapF
import Derived.Test.YteclhcjfnmkkjaaBkE
namespace Go.Proofs.Yteclhcjfnmkkjaa
open Go.Lib

theorem sumTo_append (xs ys : List Int) (s : Int) : sumTo s (xs ++ ys) = (sumTo s xs).bind fun t => sumTo t ys := by
  induction xs generalizing s with
  | nil => rfl
  | cons x r ih =>
    simp only [List.cons_append, sumTo]
    split
    · exact ih _
    · rfl
theorem sumTo_sum : ∀ (xs : List Int) (s t : Int), sumTo s xs = some t → t = s + xs.sum
  | [], s, t, h => by simp [sumTo] at h; simp [h]
  | x :: r, s, t, h => by
    simp only [sumTo] at h
    split at h
    · rw [sumTo_sum r _ _ h, List.sum_cons]; omega
    · cases h
theorem sumTo_amt : ∀ (xs : List Int) (s t : Int), Amt s → sumTo s xs = some t → Amt t
  | [], s, t, ha, h => by simp [sumTo] at h; rw [← h]; exact ha
  | x :: r, s, t, ha, h => by
    simp only [sumTo] at h
    split at h
    · rename_i h1; exact sumTo_amt r _ _ h1 h
    · cases h

/-- a currency's amounts, and their sum -/
def amts (c : List UInt8) (l : List Ln) : List Int := (l.filter fun x => decide (x.1.2.2 = c)).map (·.2)
def curSum (c : List UInt8) (l : List Ln) : Option Int := sumTo 0 (amts c l)
def evenL (l : List Ln) : Bool := l.all fun x => decide (curSum x.1.2.2 l = some 0)

theorem amts_append (c : List UInt8) (l l' : List Ln) : amts c (l ++ l') = amts c l ++ amts c l' := by simp [amts]
theorem amts_same (x : Ln) : amts x.1.2.2 [x] = [x.2] := by simp [amts]
theorem amts_other {c : List UInt8} {x : Ln} (h : x.1.2.2 ≠ c) : amts c [x] = [] := by simp [amts, h]
theorem curSum_none {c : List UInt8} {l : List Ln} {k : Nat} (h : curSum c (l.take k) = none) : curSum c l = none := by
  have e : l = l.take k ++ l.drop k := (List.take_append_drop k l).symm
  unfold curSum at h ⊢
  rw [e, amts_append, sumTo_append, h]; rfl
theorem curSum_step_same {l : List Ln} {k : Nat} {x : Ln} (hx : l[k]? = some x) {s : Int} (h : curSum x.1.2.2 (l.take k) = some s) : curSum x.1.2.2 (l.take (k + 1)) = if Amt (s + x.2) then some (s + x.2) else none := by
  obtain ⟨hlt, he⟩ := List.getElem?_eq_some_iff.1 hx
  unfold curSum at h ⊢
  rw [List.take_succ_eq_append_getElem hlt, he, amts_append, sumTo_append, h, amts_same]
  simp [sumTo]
theorem curSum_step_other {l : List Ln} {k : Nat} {x : Ln} (hx : l[k]? = some x) {c : List UInt8} (hc : x.1.2.2 ≠ c) : curSum c (l.take (k + 1)) = curSum c (l.take k) := by
  obtain ⟨hlt, he⟩ := List.getElem?_eq_some_iff.1 hx
  unfold curSum
  rw [List.take_succ_eq_append_getElem hlt, he, amts_append, amts_other hc, List.append_nil]

/-- the sums on the way -/
structure EvAt (l : List Ln) (k : Nat) (g : List UInt8 → Option Int) : Prop where
  sum : ∀ c, curSum c (l.take k) = some ((g c).getD 0)
  has : ∀ x ∈ l.take k, (g x.1.2.2).isSome = true
  mem : ∀ c v, g c = some v → ∃ x ∈ l.take k, x.1.2.2 = c

theorem EvAt.start (l : List Ln) : EvAt l 0 (fun _ => none) := ⟨fun _ => rfl, (fun x h => by simp at h), (fun _ _ h => by cases h)⟩
theorem EvAt.step {l : List Ln} {k : Nat} {g : List UInt8 → Option Int} (h : EvAt l k g) {x : Ln} (hx : l[k]? = some x) (ha : Amt ((g x.1.2.2).getD 0 + x.2)) : EvAt l (k + 1) (upd g x.1.2.2 (some ((g x.1.2.2).getD 0 + x.2))) := by
  obtain ⟨hlt, he⟩ := List.getElem?_eq_some_iff.1 hx
  have e : l.take (k + 1) = l.take k ++ [x] := by rw [List.take_succ_eq_append_getElem hlt, he]
  refine ⟨fun c => ?_, fun y hy => ?_, fun c v hv => ?_⟩
  · by_cases hc : x.1.2.2 = c
    · subst hc
      rw [curSum_step_same hx (h.sum _), if_pos ha, upd_same]; rfl
    · rw [curSum_step_other hx hc, h.sum, upd_other _ _ (fun e' => hc e'.symm)]
  · rw [e] at hy
    by_cases hc : y.1.2.2 = x.1.2.2
    · rw [hc, upd_same]; rfl
    · rw [upd_other _ _ hc]
      rcases List.mem_append.1 hy with hy | hy
      · exact h.has y hy
      · rw [List.mem_singleton] at hy; rw [hy] at hc; exact absurd rfl hc
  · by_cases hc : c = x.1.2.2
    · exact ⟨x, by rw [e]; simp, hc.symm⟩
    · rw [upd_other _ _ hc] at hv
      obtain ⟨y, hy, e2⟩ := h.mem c v hv
      exact ⟨y, by rw [e]; simp [hy], e2⟩
theorem EvAt.fail {l : List Ln} {k : Nat} {g : List UInt8 → Option Int} (h : EvAt l k g) {x : Ln} (hx : l[k]? = some x) (ha : ¬ Amt ((g x.1.2.2).getD 0 + x.2)) : evenL l = false := by
  have h1 := curSum_step_same hx (h.sum _)
  rw [if_neg ha] at h1
  have h2 := curSum_none h1
  unfold evenL
  rw [List.all_eq_false]
  exact ⟨x, List.mem_of_getElem? hx, by rw [h2]; simp⟩
theorem EvAt.yes {l : List Ln} {g : List UInt8 → Option Int} (h : EvAt l l.length g) (hz : ∀ c v, g c = some v → v = 0) : evenL l = true := by
  unfold evenL
  rw [List.all_eq_true]
  intro x hx
  have h1 := h.sum x.1.2.2
  have h2 := h.has x (by rw [List.take_length]; exact hx)
  rw [List.take_length] at h1
  obtain ⟨v, hv⟩ := Option.isSome_iff_exists.1 h2
  rw [h1, hv, hz _ _ hv]; simp
theorem EvAt.no {l : List Ln} {g : List UInt8 → Option Int} (h : EvAt l l.length g) {c : List UInt8} {v : Int} (hv : g c = some v) (hz : v ≠ 0) : evenL l = false := by
  obtain ⟨x, hx, e⟩ := h.mem c v hv
  rw [List.take_length] at hx
  have h1 := h.sum x.1.2.2
  rw [List.take_length, e, hv] at h1
  unfold evenL
  rw [List.all_eq_false]
  exact ⟨x, hx, by rw [e, h1]; simpa using hz⟩

/-- what lines may be here: none of their texts is long, their amounts are amounts -/
def Ok1 (x : Ln) : Prop := x.1.1.length ≤ 2097152 ∧ x.1.2.1.length ≤ 2097152 ∧ x.1.2.2.length ≤ 2097152 ∧ Amt x.2
def OkLs (l : List Ln) : Prop := ∀ x ∈ l, Ok1 x

/-- lines booked one behind the other -/
def addL : List Ln → List Ln → Option (List Ln)
  | m, [] => some m
  | m, x :: r => if Amt (rGet m x.1 + x.2) then addL (rSet m (x.1, rGet m x.1 + x.2)) r else none

theorem addL_append (l l' : List Ln) (m : List Ln) : addL m (l ++ l') = (addL m l).bind fun t => addL t l' := by
  induction l generalizing m with
  | nil => rfl
  | cons x r ih =>
    simp only [List.cons_append, addL]
    split
    · exact ih _
    · rfl
theorem addL_none {m l : List Ln} {k : Nat} (h : addL m (l.take k) = none) : addL m l = none := by
  have e : l = l.take k ++ l.drop k := (List.take_append_drop k l).symm
  rw [e, addL_append, h]; rfl
theorem addL_step {m l m' : List Ln} {k : Nat} {x : Ln} (hx : l[k]? = some x) (h : addL m (l.take k) = some m') : addL m (l.take (k + 1)) = if Amt (rGet m' x.1 + x.2) then some (rSet m' (x.1, rGet m' x.1 + x.2)) else none := by
  obtain ⟨hlt, he⟩ := List.getElem?_eq_some_iff.1 hx
  rw [List.take_succ_eq_append_getElem hlt, he, addL_append, h]
  simp [addL]
theorem addL_srt {l : List Ln} {m m' : List Ln} (hs : Srt m) (hz : Nz m) (h : addL m l = some m') : Srt m' ∧ Nz m' := by
  induction l generalizing m with
  | nil => simp [addL] at h; rw [← h]; exact ⟨hs, hz⟩
  | cons x r ih =>
    simp only [addL] at h
    split at h
    · exact ih (srt_rSet hs _) (nz_rSet hs hz _) h
    · cases h

/-- on which side of 0 a kind's balances are -/
def owes (k : List UInt8) : Bool := decide (k = kClearing ∨ k = kDebt)
def sideOk (x : Ln) : Bool := if owes x.1.1 then decide (x.2 ≤ 0) else decide (0 ≤ x.2)
def sideL (m : List Ln) : Bool := m.all sideOk
theorem sideOk_zero (a : Ac) : sideOk (a, 0) = true := by unfold sideOk; split <;> simp

/-- lines booked: what stands then, what is wrong -/
def postL (m l : List Ln) : List Ln × Int :=
  if rightL l = true ∧ evenL l = true then
    match addL m l with
    | none => (m, 2)
    | some m' => if sideL m' then (m', 0) else (m, 10)
  else (m, 1)

/-- how a function is what stands -/
def Fn (m : List Ln) (f : Ac → Option Int) : Prop := ∀ a, f a = if rGet m a = 0 then none else some (rGet m a)
theorem Fn.getD {m : List Ln} {f : Ac → Option Int} (h : Fn m f) (a : Ac) : (f a).getD 0 = rGet m a := by
  rw [h a]; split
  · rename_i e; rw [e]; rfl
  · rfl
theorem Fn.mem {m : List Ln} {f : Ac → Option Int} (h : Fn m f) (hs : Srt m) (hz : Nz m) (a : Ac) (n : Int) : f a = some n ↔ (a, n) ∈ m := by
  rw [h a]
  constructor
  · intro e
    split at e
    · cases e
    · rename_i h0; injection e with e; rw [← e]; exact mem_of_rGet h0
  · intro hm
    have h1 : rGet m a = n := rGet_mem hs hm
    have h2 := hz _ hm
    rw [h1, if_neg h2]

/-- the changed balances on the way -/
structure AdAt (m l : List Ln) (k : Nat) (mk : List Ln) (g : Ac → Option Int) : Prop where
  add : addL m (l.take k) = some mk
  bal : ∀ a, (g a).getD (rGet m a) = rGet mk a

theorem AdAt.start (m l : List Ln) : AdAt m l 0 m (fun _ => none) := ⟨rfl, fun _ => rfl⟩
theorem AdAt.step {m l mk : List Ln} {k : Nat} {g : Ac → Option Int} (hs : Srt m) (hz : Nz m) (h : AdAt m l k mk g) {x : Ln} (hx : l[k]? = some x) (ha : Amt (rGet mk x.1 + x.2)) : AdAt m l (k + 1) (rSet mk (x.1, rGet mk x.1 + x.2)) (upd g x.1 (some (rGet mk x.1 + x.2))) := by
  refine ⟨by rw [addL_step hx h.add, if_pos ha], fun a => ?_⟩
  rw [rGet_set (addL_srt hs hz h.add).1]
  by_cases e : a = x.1
  · rw [e, upd_same, if_pos rfl]; rfl
  · rw [upd_other _ _ e, if_neg e]; exact h.bal a
theorem AdAt.fail {m l mk : List Ln} {k : Nat} {g : Ac → Option Int} (h : AdAt m l k mk g) {x : Ln} (hx : l[k]? = some x) (ha : ¬ Amt (rGet mk x.1 + x.2)) : addL m l = none :=
  addL_none (k := k + 1) (by rw [addL_step hx h.add, if_neg ha])
theorem AdAt.side {m l mk : List Ln} {g : Ac → Option Int} (hs : Srt m) (hz : Nz m) (h : AdAt m l l.length mk g) (hm : sideL m = true) : sideL mk = true ↔ ∀ a n, g a = some n → sideOk (a, n) = true := by
  have hadd := h.add
  rw [List.take_length] at hadd
  obtain ⟨hs', hz'⟩ := addL_srt hs hz hadd
  unfold sideL at hm ⊢
  rw [List.all_eq_true] at hm ⊢
  constructor
  · intro hh a n hg
    have hb := h.bal a
    rw [hg] at hb
    by_cases h0 : n = 0
    · rw [h0]; exact sideOk_zero a
    · have e : rGet mk a = n := hb.symm
      have := mem_of_rGet (m := mk) (a := a) (by rw [e]; exact h0)
      rw [e] at this
      exact hh _ this
  · intro hh x hx
    have e := rGet_mem hs' hx
    have hb := h.bal x.1
    cases hg : g x.1 with
    | some n =>
      rw [hg] at hb
      have : n = x.2 := by rw [← e, ← hb]; rfl
      have h3 := hh _ _ hg
      rw [this] at h3
      exact h3
    | none =>
      rw [hg] at hb
      have e2 : rGet m x.1 = x.2 := by rw [← e, ← hb]; rfl
      have h3 := mem_of_rGet (m := m) (a := x.1) (by rw [e2]; exact hz' x hx)
      rw [e2] at h3
      exact hm _ h3

/-- what is kept of the changed ones -/
theorem AdAt.keep {m l mk : List Ln} {g f f' : Ac → Option Int} (h : AdAt m l l.length mk g) (hf : Fn m f) (hk : ∀ a, f' a = match g a with | none => f a | some n => if n = 0 then none else some n) : Fn mk f' := by
  intro a
  rw [hk a]
  have hb := h.bal a
  cases hg : g a with
  | none => rw [hg] at hb; rw [hf a, show rGet m a = rGet mk a from hb]
  | some n => rw [hg] at hb; rw [show n = rGet mk a from hb]
end Go.Proofs.Yteclhcjfnmkkjaa
