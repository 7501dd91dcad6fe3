/-
  Plain lemmas for the document's Split: as long as something is left, the place that comes next has a rest.
-/
import Derived.Test.YtmnhjcfhgcineaaSplitB
namespace Go.Proofs.Ytmnhjcfhgcineaa

theorem sumN_add (f g : Nat → Nat) (n : Nat) : sumN (fun i => f i + g i) n = sumN f n + sumN g n := by
  induction n with
  | zero => rfl
  | succ n ih => simp only [sumN]; rw [ih]; omega
theorem sumN_le {f g : Nat → Nat} {n : Nat} (h : ∀ i, i < n → f i ≤ g i) : sumN f n ≤ sumN g n := by
  induction n with
  | zero => exact Nat.le_refl _
  | succ n ih =>
    simp only [sumN]
    have := ih fun i hi => h i (by omega)
    have := h n (by omega)
    omega
theorem sumN_zero {f : Nat → Nat} {n : Nat} (h : ∀ i, i < n → f i = 0) : sumN f n = 0 := by
  induction n with
  | zero => rfl
  | succ n ih => simp only [sumN]; rw [ih fun i hi => h i (by omega), h n (by omega)]
theorem sumN_one (j c n : Nat) : sumN (fun i => if i = j then c else 0) n ≤ c := by
  induction n with
  | zero => simp [sumN]
  | succ n ih =>
    simp only [sumN]
    by_cases e : n = j
    · subst e
      rw [if_pos rfl, sumN_zero (fun i hi => if_neg (by omega))]; omega
    · rw [if_neg e]; omega
theorem sumN_first {n : Nat} {s t : Nat → Nat} (ht : ∀ p, s (t p) = p) (c m : Nat) : sumN (fun i => if t i < m then c else 0) n ≤ c * m := by
  induction m with
  | zero => rw [sumN_zero (fun i _ => if_neg (by omega))]; omega
  | succ m ih =>
    have h1 : sumN (fun i => if t i < m + 1 then c else 0) n ≤ sumN (fun i => (if t i < m then c else 0) + (if i = s m then c else 0)) n := sumN_le fun i _ => by
      by_cases h : t i < m
      · rw [if_pos (by omega), if_pos h]; omega
      · by_cases h2 : t i = m
        · rw [if_pos (by omega), if_neg h, if_pos (by rw [← h2, ht])]; omega
        · rw [if_neg (by omega)]; omega
    rw [sumN_add] at h1
    have := sumN_one (s m) c n
    rw [Nat.mul_succ]
    omega

/-- while something is left, the next place's rest is above 0 -/
theorem next_pos {T S n : Nat} {W s t : Nat → Nat} (hS : 0 < S) (hs : sumN W n = S) (ho : Ordr n (fun i => (rf T S W i : Int)) s t) {m : Nat} (hm : m < leftN T S W n) : m < n ∧ 0 < rf T S W (s m) := by
  have hn := left_le (T := T) hS hs
  refine ⟨by omega, ?_⟩
  rcases Nat.eq_zero_or_pos (rf T S W (s m)) with h0 | h0
  · exfalso
    have hle : ∀ i, i < n → rf T S W i ≤ if t i < m then S - 1 else 0 := fun i hi => by
      by_cases h : t i < m
      · rw [if_pos h]; have := rf_lt (T := T) (W := W) hS i; omega
      · rw [if_neg h]
        by_cases e : t i = m
        · rw [show i = s m from by rw [← e, ho.st]]; omega
        · have htn : t i < n := by
            rcases Nat.lt_or_ge (t i) n with hl | hl
            · exact hl
            · have := ho.out (t i) (by omega); rw [ho.st] at this; omega
          have hb := ho.ordd m (t i) (Nat.zero_le _) (by omega) htn
          rw [ho.st] at hb
          unfold bef at hb
          simp only at hb
          omega
    have h1 := sumN_le hle
    have h2 := sumN_first (n := n) ho.st (S - 1) m
    rw [← left_rest hS hs] at h1
    have h3 : S * (m + 1) ≤ S * leftN T S W n := Nat.mul_le_mul_left _ hm
    rw [Nat.mul_succ] at h3
    have h4 : (S - 1) * m ≤ S * m := Nat.mul_le_mul_right _ (by omega)
    omega
  · exact h0

theorem Ordr.t_lt {n : Nat} {key : Nat → Int} {s t : Nat → Nat} (ho : Ordr n key s t) {i : Nat} (hi : i < n) : t i < n := by
  rcases Nat.lt_or_ge (t i) n with hl | hl
  · exact hl
  · have := ho.out (t i) (by omega); rw [ho.st] at this; omega

/-- who is ahead of all that are still there is the one that comes next -/
theorem next_is {n : Nat} {key : Nat → Int} {s t : Nat → Nat} (ho : Ordr n key s t) {m b : Nat} (hb : b < n) (hbm : m ≤ t b) (h : b = s m ∨ bef key b (s m)) : b = s m := by
  rcases h with h | h
  · exact h
  · by_cases e : t b = m
    · rw [← e, ho.st]
    · have h2 := ho.ordd m (t b) (Nat.zero_le _) (by omega) (ho.t_lt hb)
      rw [ho.st] at h2
      exact absurd h2 (fun h2 => h.asymm h2)

theorem sumN_one_eq (j n : Nat) (h : j < n) : sumN (fun i => if i = j then 1 else 0) n = 1 := by
  induction n with
  | zero => omega
  | succ n ih =>
    simp only [sumN]
    by_cases e : n = j
    · subst e
      rw [if_pos rfl, sumN_zero (fun i hi => if_neg (by omega))]
    · rw [if_neg e, ih (by omega)]

theorem sumN_count {n : Nat} {key : Nat → Int} {s t : Nat → Nat} (ho : Ordr n key s t) : ∀ m, m ≤ n → sumN (fun i => if t i < m then 1 else 0) n = m
  | 0, _ => sumN_zero fun i _ => if_neg (by omega)
  | m + 1, h => by
    have h1 := sumN_count ho m (by omega)
    have h2 := sumN_one_eq (s m) n (ho.lt m (by omega))
    have h3 : sumN (fun i => if t i < m + 1 then 1 else 0) n = sumN (fun i => (if t i < m then 1 else 0) + (if i = s m then 1 else 0)) n := sumN_congr fun i _ => by
      by_cases e : i = s m
      · subst e
        rw [ho.ts, if_pos (by omega), if_neg (by omega), if_pos rfl]
      · have : t i ≠ m := fun e' => e (by rw [← e', ho.st])
        rw [if_neg e]
        by_cases e2 : t i < m
        · rw [if_pos e2, if_pos (by omega)]
        · rw [if_neg e2, if_neg (by omega)]
    rw [h3, sumN_add, h1, h2]

/-- the parts -/
def partsI (T S : Nat) (W t : Nat → Nat) (n : Nat) : List Int := (List.range n).map fun i => (partK T S W t (leftN T S W n) i : Int)
theorem partsI_length (T S : Nat) (W t : Nat → Nat) (n : Nat) : (partsI T S W t n).length = n := by simp [partsI]
theorem partsI_get {T S : Nat} {W t : Nat → Nat} {n i : Nat} (h : i < n) : (partsI T S W t n).getD i 0 = (partK T S W t (leftN T S W n) i : Int) := by
  unfold partsI; rw [List.getD_eq_getElem?_getD, List.getElem?_map, List.getElem?_range h]; rfl

theorem parts_sum {T S n : Nat} {W s t : Nat → Nat} (hS : 0 < S) (hs : sumN W n = S) (ho : Ordr n (fun i => (rf T S W i : Int)) s t) : sumN (partK T S W t (leftN T S W n)) n = T := by
  have h1 := sumN_add (qf T S W) (fun i => if t i < leftN T S W n then 1 else 0) n
  have h2 := sumN_count ho (leftN T S W n) (left_le hS hs)
  have h3 := q_sum_le (T := T) hS hs (Nat.le_refl n)
  rw [h2] at h1
  show sumN (fun i => qf T S W i + if t i < leftN T S W n then 1 else 0) n = T
  rw [h1]; unfold leftN; omega

theorem sumTo_nonneg : ∀ (zs : List Int) (s : Int), 0 ≤ s → (∀ z ∈ zs, 0 ≤ z) → s + zs.sum ≤ 9223372036854775807 → sumTo s zs = some (s + zs.sum)
  | [], s, _, _, _ => by simp [sumTo]
  | z :: r, s, h0, hz, h => by
    have h1 := hz z (by simp)
    have h2 : 0 ≤ r.sum := by
      have : ∀ l : List Int, (∀ z ∈ l, 0 ≤ z) → 0 ≤ l.sum := fun l => by
        induction l with
        | nil => intro _; simp
        | cons a b ih => intro h; rw [List.sum_cons]; have := h a (by simp); have := ih (fun z hz => h z (by simp [hz])); omega
      exact this r (fun z hz' => hz z (by simp [hz']))
    rw [List.sum_cons] at h ⊢
    unfold sumTo
    rw [if_pos (by unfold Amt; omega), sumTo_nonneg r (s + z) (by omega) (fun z hz' => hz z (by simp [hz'])) (by omega)]
    congr 1; omega

theorem partsI_nonneg {T S : Nat} {W t : Nat → Nat} {n : Nat} : ∀ z ∈ partsI T S W t n, 0 ≤ z := fun z hz => by
  unfold partsI at hz
  obtain ⟨i, _, rfl⟩ := List.mem_map.1 hz
  omega

theorem partsI_sum {T S n : Nat} {W s t : Nat → Nat} (hS : 0 < S) (hs : sumN W n = S) (ho : Ordr n (fun i => (rf T S W i : Int)) s t) : (partsI T S W t n).sum = (T : Int) := by
  rw [sum_wN _ (fun i hi => by rw [partsI_get (by rw [partsI_length] at hi; exact hi)]; omega), partsI_length]
  rw [sumN_congr (g := partK T S W t (leftN T S W n)) (fun i hi => by unfold wN; rw [partsI_get hi]; omega), parts_sum hS hs ho]

theorem partsI_sumTo {T S n : Nat} {W s t : Nat → Nat} (hS : 0 < S) (hs : sumN W n = S) (ho : Ordr n (fun i => (rf T S W i : Int)) s t) (hT : T ≤ 9223372036854775807) : sumTo 0 (partsI T S W t n) = some (T : Int) := by
  have := sumTo_nonneg (partsI T S W t n) 0 (by omega) partsI_nonneg (by rw [partsI_sum hS hs ho]; omega)
  rw [this, partsI_sum hS hs ho]; simp

theorem part_le {T S n : Nat} {W t : Nat → Nat} (hS : 0 < S) (hs : sumN W n = S) {i : Nat} (hi : i < n) : partK T S W t (leftN T S W n) i ≤ T := by
  have h1 := qf_left (T := T) hS hs hi
  unfold partK
  split <;> omega

theorem partsI_amt {T S n : Nat} {W t : Nat → Nat} (hS : 0 < S) (hs : sumN W n = S) (hT : T ≤ 9223372036854775807) : ∀ z ∈ partsI T S W t n, Amt z := fun z hz => by
  unfold partsI at hz
  obtain ⟨i, hi, rfl⟩ := List.mem_map.1 hz
  have := part_le (T := T) (t := t) hS hs (List.mem_range.1 hi)
  unfold Amt; omega

theorem part_between {T S n : Nat} {W s t : Nat → Nat} (hS : 0 < S) (hs : sumN W n = S) (ho : Ordr n (fun i => (rf T S W i : Int)) s t) {i : Nat} :
    qf T S W i ≤ partK T S W t (leftN T S W n) i ∧ partK T S W t (leftN T S W n) i ≤ qf T S W i + if rf T S W i = 0 then 0 else 1 := by
  unfold partK
  by_cases h : t i < leftN T S W n
  · have hp := (next_pos hS hs ho h).2
    rw [ho.st] at hp
    rw [if_pos h, if_neg (by omega)]
    omega
  · rw [if_neg h]
    split <;> omega
end Go.Proofs.Ytmnhjcfhgcineaa
