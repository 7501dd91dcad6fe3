/-
  Plain lemmas for the document's Split: as long as something is left, the place that comes next has a rest.
-/
import Derived.Test.YthhcbpimkaahnaaSplitB
namespace Go.Proofs.Ythhcbpimkaahnaa

theorem sumN_add (f g : Nat → Nat) (n : Nat) : sumN (fun i => f i + g i) n = sumN f n + sumN g n := by
  induction n with
  | zero => rfl
  | succ n ih => simp only [sumN]; rw [ih]; omega
theorem sumN_le {f g : Nat → Nat} {n : Nat} (h : ∀ i, i < n → f i ≤ g i) : sumN f n ≤ sumN g n := by
  induction n with
  | zero => exact Nat.le_refl _
  | succ n ih =>
    simp only [sumN]
    have := ih fun i hi => h i (by omega)
    have := h n (by omega)
    omega
theorem sumN_zero {f : Nat → Nat} {n : Nat} (h : ∀ i, i < n → f i = 0) : sumN f n = 0 := by
  induction n with
  | zero => rfl
  | succ n ih => simp only [sumN]; rw [ih fun i hi => h i (by omega), h n (by omega)]
theorem sumN_one (j c n : Nat) : sumN (fun i => if i = j then c else 0) n ≤ c := by
  induction n with
  | zero => simp [sumN]
  | succ n ih =>
    simp only [sumN]
    by_cases e : n = j
    · subst e
      rw [if_pos rfl, sumN_zero (fun i hi => if_neg (by omega))]; omega
    · rw [if_neg e]; omega
theorem sumN_first {n : Nat} {s t : Nat → Nat} (ht : ∀ p, s (t p) = p) (c m : Nat) : sumN (fun i => if t i < m then c else 0) n ≤ c * m := by
  induction m with
  | zero => rw [sumN_zero (fun i _ => if_neg (by omega))]; omega
  | succ m ih =>
    have h1 : sumN (fun i => if t i < m + 1 then c else 0) n ≤ sumN (fun i => (if t i < m then c else 0) + (if i = s m then c else 0)) n := sumN_le fun i _ => by
      by_cases h : t i < m
      · rw [if_pos (by omega), if_pos h]; omega
      · by_cases h2 : t i = m
        · rw [if_pos (by omega), if_neg h, if_pos (by rw [← h2, ht])]; omega
        · rw [if_neg (by omega)]; omega
    rw [sumN_add] at h1
    have := sumN_one (s m) c n
    rw [Nat.mul_succ]
    omega

/-- while something is left, the next place's rest is above 0 -/
theorem next_pos {T S n : Nat} {W s t : Nat → Nat} (hS : 0 < S) (hs : sumN W n = S) (ho : Ordr n (fun i => (rf T S W i : Int)) s t) {m : Nat} (hm : m < leftN T S W n) : m < n ∧ 0 < rf T S W (s m) := by
  have hn := left_le (T := T) hS hs
  refine ⟨by omega, ?_⟩
  rcases Nat.eq_zero_or_pos (rf T S W (s m)) with h0 | h0
  · exfalso
    have hle : ∀ i, i < n → rf T S W i ≤ if t i < m then S - 1 else 0 := fun i hi => by
      by_cases h : t i < m
      · rw [if_pos h]; have := rf_lt (T := T) (W := W) hS i; omega
      · rw [if_neg h]
        by_cases e : t i = m
        · rw [show i = s m from by rw [← e, ho.st]]; omega
        · have htn : t i < n := by
            rcases Nat.lt_or_ge (t i) n with hl | hl
            · exact hl
            · have := ho.out (t i) (by omega); rw [ho.st] at this; omega
          have hb := ho.ordd m (t i) (Nat.zero_le _) (by omega) htn
          rw [ho.st] at hb
          unfold bef at hb
          simp only at hb
          omega
    have h1 := sumN_le hle
    have h2 := sumN_first (n := n) ho.st (S - 1) m
    rw [← left_rest hS hs] at h1
    have h3 : S * (m + 1) ≤ S * leftN T S W n := Nat.mul_le_mul_left _ hm
    rw [Nat.mul_succ] at h3
    have h4 : (S - 1) * m ≤ S * m := Nat.mul_le_mul_right _ (by omega)
    omega
  · exact h0

theorem Ordr.t_lt {n : Nat} {key : Nat → Int} {s t : Nat → Nat} (ho : Ordr n key s t) {i : Nat} (hi : i < n) : t i < n := by
  rcases Nat.lt_or_ge (t i) n with hl | hl
  · exact hl
  · have := ho.out (t i) (by omega); rw [ho.st] at this; omega

/-- who is ahead of all that are still there is the one that comes next -/
theorem next_is {n : Nat} {key : Nat → Int} {s t : Nat → Nat} (ho : Ordr n key s t) {m b : Nat} (hb : b < n) (hbm : m ≤ t b) (h : b = s m ∨ bef key b (s m)) : b = s m := by
  rcases h with h | h
  · exact h
  · by_cases e : t b = m
    · rw [← e, ho.st]
    · have h2 := ho.ordd m (t b) (Nat.zero_le _) (by omega) (ho.t_lt hb)
      rw [ho.st] at h2
      exact absurd h2 (fun h2 => h.asymm h2)
end Go.Proofs.Ythhcbpimkaahnaa
