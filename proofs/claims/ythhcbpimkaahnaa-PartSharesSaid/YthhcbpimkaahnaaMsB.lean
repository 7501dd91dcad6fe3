/-
  Plain lemmas: the parts are the amount, and none is far from its share.
-/
import Derived.Test.YthhcbpimkaahnaaRSplitD
import Derived.Test.YthhcbpimkaahnaaSortH
import Derived.Test.YthhcbpimkaahnaaMulA
import Derived.Test.YthhcbpimkaahnaaLivP
namespace Go.Proofs.Ythhcbpimkaahnaa
open Go.RowKit

theorem sumN_one_eq (j n : Nat) (h : j < n) : sumN (fun i => if i = j then 1 else 0) n = 1 := by
  induction n with
  | zero => omega
  | succ n ih =>
    simp only [sumN]
    by_cases e : n = j
    · subst e
      rw [if_pos rfl, sumN_zero (fun i hi => if_neg (by omega))]
    · rw [if_neg e, ih (by omega)]

theorem sumN_count {n : Nat} {key : Nat → Int} {s t : Nat → Nat} (ho : Ordr n key s t) : ∀ m, m ≤ n → sumN (fun i => if t i < m then 1 else 0) n = m
  | 0, _ => sumN_zero fun i _ => if_neg (by omega)
  | m + 1, h => by
    have h1 := sumN_count ho m (by omega)
    have h2 := sumN_one_eq (s m) n (ho.lt m (by omega))
    have h3 : sumN (fun i => if t i < m + 1 then 1 else 0) n = sumN (fun i => (if t i < m then 1 else 0) + (if i = s m then 1 else 0)) n := sumN_congr fun i _ => by
      by_cases e : i = s m
      · subst e
        rw [ho.ts, if_pos (by omega), if_neg (by omega), if_pos rfl]
      · have : t i ≠ m := fun e' => e (by rw [← e', ho.st])
        rw [if_neg e]
        by_cases e2 : t i < m
        · rw [if_pos e2, if_pos (by omega)]
        · rw [if_neg e2, if_neg (by omega)]
    rw [h3, sumN_add, h1, h2]

/-- the parts -/
def partsI (T S : Nat) (W t : Nat → Nat) (n : Nat) : List Int := (List.range n).map fun i => (partK T S W t (leftN T S W n) i : Int)
theorem partsI_length (T S : Nat) (W t : Nat → Nat) (n : Nat) : (partsI T S W t n).length = n := by simp [partsI]
theorem partsI_get {T S : Nat} {W t : Nat → Nat} {n i : Nat} (h : i < n) : (partsI T S W t n).getD i 0 = (partK T S W t (leftN T S W n) i : Int) := by
  unfold partsI; rw [List.getD_eq_getElem?_getD, List.getElem?_map, List.getElem?_range h]; rfl

theorem parts_sum {T S n : Nat} {W s t : Nat → Nat} (hS : 0 < S) (hs : sumN W n = S) (ho : Ordr n (fun i => (rf T S W i : Int)) s t) : sumN (partK T S W t (leftN T S W n)) n = T := by
  have h1 := sumN_add (qf T S W) (fun i => if t i < leftN T S W n then 1 else 0) n
  have h2 := sumN_count ho (leftN T S W n) (left_le hS hs)
  have h3 := q_sum_le (T := T) hS hs (Nat.le_refl n)
  rw [h2] at h1
  show sumN (fun i => qf T S W i + if t i < leftN T S W n then 1 else 0) n = T
  rw [h1]; unfold leftN; omega

theorem sumTo_nonneg : ∀ (zs : List Int) (s : Int), 0 ≤ s → (∀ z ∈ zs, 0 ≤ z) → s + zs.sum ≤ 9223372036854775807 → sumTo s zs = some (s + zs.sum)
  | [], s, _, _, _ => by simp [sumTo]
  | z :: r, s, h0, hz, h => by
    have h1 := hz z (by simp)
    have h2 : 0 ≤ r.sum := by
      have : ∀ l : List Int, (∀ z ∈ l, 0 ≤ z) → 0 ≤ l.sum := fun l => by
        induction l with
        | nil => intro _; simp
        | cons a b ih => intro h; rw [List.sum_cons]; have := h a (by simp); have := ih (fun z hz => h z (by simp [hz])); omega
      exact this r (fun z hz' => hz z (by simp [hz']))
    rw [List.sum_cons] at h ⊢
    unfold sumTo
    rw [if_pos (by unfold Amt; omega), sumTo_nonneg r (s + z) (by omega) (fun z hz' => hz z (by simp [hz'])) (by omega)]
    congr 1; omega

theorem partsI_nonneg {T S : Nat} {W t : Nat → Nat} {n : Nat} : ∀ z ∈ partsI T S W t n, 0 ≤ z := fun z hz => by
  unfold partsI at hz
  obtain ⟨i, _, rfl⟩ := List.mem_map.1 hz
  omega

theorem partsI_sum {T S n : Nat} {W s t : Nat → Nat} (hS : 0 < S) (hs : sumN W n = S) (ho : Ordr n (fun i => (rf T S W i : Int)) s t) : (partsI T S W t n).sum = (T : Int) := by
  rw [sum_wN _ (fun i hi => by rw [partsI_get (by rw [partsI_length] at hi; exact hi)]; omega), partsI_length]
  rw [sumN_congr (g := partK T S W t (leftN T S W n)) (fun i hi => by unfold wN; rw [partsI_get hi]; omega), parts_sum hS hs ho]

theorem partsI_sumTo {T S n : Nat} {W s t : Nat → Nat} (hS : 0 < S) (hs : sumN W n = S) (ho : Ordr n (fun i => (rf T S W i : Int)) s t) (hT : T ≤ 9223372036854775807) : sumTo 0 (partsI T S W t n) = some (T : Int) := by
  have := sumTo_nonneg (partsI T S W t n) 0 (by omega) partsI_nonneg (by rw [partsI_sum hS hs ho]; omega)
  rw [this, partsI_sum hS hs ho]; simp

theorem part_le {T S n : Nat} {W t : Nat → Nat} (hS : 0 < S) (hs : sumN W n = S) {i : Nat} (hi : i < n) : partK T S W t (leftN T S W n) i ≤ T := by
  have h1 := qf_left (T := T) hS hs hi
  unfold partK
  split <;> omega

theorem partsI_amt {T S n : Nat} {W t : Nat → Nat} (hS : 0 < S) (hs : sumN W n = S) (hT : T ≤ 9223372036854775807) : ∀ z ∈ partsI T S W t n, Amt z := fun z hz => by
  unfold partsI at hz
  obtain ⟨i, hi, rfl⟩ := List.mem_map.1 hz
  have := part_le (T := T) (t := t) hS hs (List.mem_range.1 hi)
  unfold Amt; omega

/-- a share, rounded down -/
theorem low_is {T S : Nat} {W : Nat → Nat} {i : Nat} (hW : W i ≤ S) (hT : T ≤ 9223372036854775807) : mdV (T : Int) (W i : Int) S 0 = (qf T S W i : Int) := by
  have hq := qf_le (T := T) hW
  have hb : mdBelow (T : Int) (W i : Int) = false := by
    unfold mdBelow
    rw [decide_eq_false (by omega), decide_eq_false (by omega)]; rfl
  unfold mdV mdQ
  rw [hb]
  have hu : upB false 0 ((T : Int).natAbs * (W i : Int).natAbs / S) ((T : Int).natAbs * (W i : Int).natAbs % S) S = false := by
    unfold upB; split
    · rfl
    · rfl
  rw [hu]
  show sgnV (qf T S W i + 0) false = _
  unfold sgnV sgnI
  simp only [Bool.false_eq_true, if_false]
  rw [if_pos (by unfold Amt; omega)]
  omega

/-- a share, rounded up -/
theorem high_is {T S : Nat} {W : Nat → Nat} {i : Nat} (hW : W i ≤ S) (hT : T ≤ 9223372036854775807) : mdV (T : Int) (W i : Int) S 1 = ((qf T S W i + if rf T S W i = 0 then 0 else 1 : Nat) : Int) := by
  have hb : mdBelow (T : Int) (W i : Int) = false := by
    unfold mdBelow
    rw [decide_eq_false (by omega), decide_eq_false (by omega)]; rfl
  have hle : qf T S W i + (if rf T S W i = 0 then 0 else 1) ≤ T := by
    have h1 : T * W i ≤ T * S := Nat.mul_le_mul_left _ hW
    have h2 : S * qf T S W i + rf T S W i = T * W i := Nat.div_add_mod _ _
    split
    · exact qf_le hW
    · have h3 : S * qf T S W i < S * T := by rw [Nat.mul_comm S T]; omega
      have := Nat.lt_of_mul_lt_mul_left h3
      omega
  have hu : (if upB false 1 ((T : Int).natAbs * (W i : Int).natAbs / S) ((T : Int).natAbs * (W i : Int).natAbs % S) S then 1 else 0 : Nat) = if rf T S W i = 0 then 0 else 1 := by
    show (if upB false 1 (T * W i / S) (T * W i % S) S then 1 else 0 : Nat) = if T * W i % S = 0 then 0 else 1
    unfold upB
    by_cases h : T * W i % S = 0
    · rw [if_pos h, if_pos h]; rfl
    · rw [if_neg h, if_neg h]; rfl
  unfold mdV mdQ
  rw [hb, hu]
  show sgnV (qf T S W i + _) false = _
  generalize hx : qf T S W i + (if rf T S W i = 0 then 0 else 1) = x at hle ⊢
  unfold sgnV sgnI
  simp only [Bool.false_eq_true, if_false]
  rw [if_pos (by unfold Amt; omega)]

theorem part_between {T S n : Nat} {W s t : Nat → Nat} (hS : 0 < S) (hs : sumN W n = S) (ho : Ordr n (fun i => (rf T S W i : Int)) s t) {i : Nat} :
    qf T S W i ≤ partK T S W t (leftN T S W n) i ∧ partK T S W t (leftN T S W n) i ≤ qf T S W i + if rf T S W i = 0 then 0 else 1 := by
  unfold partK
  by_cases h : t i < leftN T S W n
  · have hp := (next_pos hS hs ho h).2
    rw [ho.st] at hp
    rw [if_pos h, if_neg (by omega)]
    omega
  · rw [if_neg h]
    split <;> omega
end Go.Proofs.Ythhcbpimkaahnaa
