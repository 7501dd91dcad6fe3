/-
  Plain mathematics on the double format: rounding by values, rungs, their order. No program is spoken of.
-/
import Derived.Laws.FloatBits
namespace Go.Proofs.YtagailghjfkafaaDoor
open Ieee

theorem log2_mul_pow {m : Nat} (h : m ≠ 0) (t : Nat) : (m * 2 ^ t).log2 = m.log2 + t := by
  have h2 : m * 2 ^ t ≠ 0 := Nat.mul_ne_zero h (Nat.pos_iff_ne_zero.mp (Nat.two_pow_pos t))
  have a := Nat.log2_self_le h
  have b := Nat.lt_log2_self (n := m)
  refine (Nat.log2_eq_iff h2).mpr ⟨?_, ?_⟩
  · rw [Nat.pow_add]; exact Nat.mul_le_mul_right _ a
  · rw [show m.log2 + t + 1 = (m.log2 + 1) + t from by omega, Nat.pow_add]; exact Nat.mul_lt_mul_of_pos_right b (Nat.two_pow_pos t)

/-- n / 2^d, to the nearest whole number, of two to the even one -/
def rne (n d : Nat) : Nat := n / 2 ^ d + (if 2 ^ d < 2 * (n % 2 ^ d) ∨ (2 ^ d = 2 * (n % 2 ^ d) ∧ n / 2 ^ d % 2 = 1) then 1 else 0)

theorem cut_even (neg : Bool) (n d : Nat) : Toward.even.cut neg n d = rne n d := by
  unfold Toward.cut rne
  simp only [Nat.one_shiftLeft]
  by_cases h : d ≤ n.log2 + 2
  · rw [Nat.min_eq_left h]
    congr 1
    by_cases h1 : 2 ^ d < 2 * (n % 2 ^ d)
    · simp [h1]
    · by_cases h2 : 2 ^ d = 2 * (n % 2 ^ d)
      · by_cases h3 : n / 2 ^ d % 2 = 1
        · simp [← h2, h3]
        · simp [← h2, h3]
      · simp [h1, h2]
  · have h' : n.log2 + 2 < d := by omega
    rw [Nat.min_eq_right (by omega)]
    have a := Nat.lt_log2_self (n := n)
    have p : 2 ^ (n.log2 + 2) = 2 * 2 ^ (n.log2 + 1) := by rw [Nat.pow_succ, Nat.mul_comm]
    have q : 2 ^ (n.log2 + 2) < 2 ^ d := Nat.pow_lt_pow_right (by omega) h'
    have e1 : n / 2 ^ (n.log2 + 2) = 0 := Nat.div_eq_of_lt (by omega)
    have e2 : n % 2 ^ (n.log2 + 2) = n := Nat.mod_eq_of_lt (by omega)
    have e3 : n / 2 ^ d = 0 := Nat.div_eq_of_lt (by omega)
    have e4 : n % 2 ^ d = n := Nat.mod_eq_of_lt (by omega)
    rw [e1, e2, e3, e4]
    have g1 : ¬ 2 ^ (n.log2 + 2) < 2 * n := by omega
    have g3 : ¬ 2 ^ d < 2 * n := by omega
    have g4 : ¬ 2 ^ d = 2 * n := by omega
    simp [g1, g3, g4]

theorem cut_zero (neg : Bool) (n d : Nat) : Toward.zero.cut neg n d = n / 2 ^ d := by
  unfold Toward.cut
  simp only [Nat.one_shiftLeft]
  by_cases h : d ≤ n.log2 + 2
  · rw [Nat.min_eq_left h]; simp
  · rw [Nat.min_eq_right (by omega)]
    have a := Nat.lt_log2_self (n := n)
    have p : 2 ^ (n.log2 + 2) = 2 * 2 ^ (n.log2 + 1) := by rw [Nat.pow_succ, Nat.mul_comm]
    have q : 2 ^ (n.log2 + 2) < 2 ^ d := Nat.pow_lt_pow_right (by omega) (by omega)
    rw [Nat.div_eq_of_lt (show n < 2 ^ (n.log2 + 2) by omega), Nat.div_eq_of_lt (show n < 2 ^ d by omega)]
    rfl

theorem rne_scale (n d t : Nat) : rne (n * 2 ^ t) (d + t) = rne n d := by
  unfold rne
  have hp : 0 < 2 ^ t := Nat.two_pow_pos t
  rw [Nat.pow_add, Nat.mul_div_mul_right _ _ hp, Nat.mul_mod_mul_right]
  congr 1
  have e : 2 * (n % 2 ^ d * 2 ^ t) = 2 * (n % 2 ^ d) * 2 ^ t := by rw [Nat.mul_assoc]
  rw [e]
  have e1 : (2 ^ d * 2 ^ t < 2 * (n % 2 ^ d) * 2 ^ t) = (2 ^ d < 2 * (n % 2 ^ d)) := propext (Nat.mul_lt_mul_right hp)
  have e2 : (2 ^ d * 2 ^ t = 2 * (n % 2 ^ d) * 2 ^ t) = (2 ^ d = 2 * (n % 2 ^ d)) := propext (Nat.mul_left_inj (by omega))
  simp only [e1, e2]

theorem rne_exact (k d : Nat) : rne (k * 2 ^ d) d = k := by
  unfold rne
  have hp : 0 < 2 ^ d := Nat.two_pow_pos d
  rw [Nat.mul_div_cancel _ hp, Nat.mul_mod_left]
  have : ¬ (2 ^ d < 2 * 0 ∨ (2 ^ d = 2 * 0 ∧ k % 2 = 1)) := by omega
  rw [if_neg this]; omega

theorem rne_zero (n : Nat) : rne n 0 = n := by have := rne_exact n 0; simpa using this

/-- by one number of digits or the other: the same -/
theorem rne_any (m t D : Nat) : rne (m * 2 ^ (t - D)) (D - t) = rne (m * 2 ^ t) D := by
  by_cases h : t ≤ D
  · rw [show t - D = 0 from by omega, Nat.pow_zero, Nat.mul_one]
    conv => rhs; rw [show D = (D - t) + t from by omega]
    rw [rne_scale]
  · rw [show D - t = 0 from by omega, rne_zero]
    conv => rhs; rw [show t = (t - D) + D from by omega, Nat.pow_add, ← Nat.mul_assoc]
    rw [rne_exact]

theorem rne_le (n d : Nat) : rne n d ≤ n / 2 ^ d + 1 := by unfold rne; split <;> omega
theorem rne_ge (n d : Nat) : n / 2 ^ d ≤ rne n d := by unfold rne; omega

theorem rne_mono {n m : Nat} (h : n ≤ m) (d : Nat) : rne n d ≤ rne m d := by
  have hq : n / 2 ^ d ≤ m / 2 ^ d := Nat.div_le_div_right h
  by_cases he : n / 2 ^ d = m / 2 ^ d
  · have h1 := Nat.div_add_mod n (2 ^ d)
    have h2 := Nat.div_add_mod m (2 ^ d)
    rw [he] at h1
    have hr : n % 2 ^ d ≤ m % 2 ^ d := by omega
    unfold rne
    rw [he]
    split
    · rename_i hc
      rw [if_pos (by omega)]
      exact Nat.le_refl _
    · omega
  · have := rne_le n d
    have := rne_ge m d
    omega

theorem rne_lo (n d : Nat) : 2 * n ≤ 2 * (rne n d * 2 ^ d) + 2 ^ d := by
  have h1 := Nat.div_add_mod n (2 ^ d)
  have h2 := Nat.mod_lt n (Nat.two_pow_pos d)
  rw [Nat.mul_comm] at h1
  unfold rne
  split
  · rw [Nat.add_mul]; omega
  · rename_i h; rw [Nat.add_mul]; omega

theorem rne_hi (n d : Nat) : 2 * (rne n d * 2 ^ d) ≤ 2 * n + 2 ^ d := by
  have h1 := Nat.div_add_mod n (2 ^ d)
  rw [Nat.mul_comm] at h1
  unfold rne
  split
  · rename_i h; rw [Nat.add_mul]; omega
  · rw [Nat.add_mul]; omega

/-! ### rungs -/
def infR : Nat := 9218868437227405312
/-- a rung's magnitude, its place above the least one, its value by the least place -/
def mg (r : Nat) : Nat := if r < 4503599627370496 then r else 4503599627370496 + r % 4503599627370496
def pl (r : Nat) : Nat := if r < 4503599627370496 then 0 else r / 4503599627370496 - 1
def rv (r : Nat) : Nat := mg r * 2 ^ pl r

def dat (neg : Bool) (r : Nat) : Datum :=
  if r < infR then .number neg (mg r) (-1074 + (pl r : Int)) else if r = infR then .infinity neg else .nan neg (r - infR)

def wd (neg : Bool) (r : Nat) : Nat := if neg then 9223372036854775808 + r else r

theorem word_eq (neg : Bool) (r : Nat) : double.word neg r = wd neg r := rfl

theorem read_wd (neg : Bool) (r : Nat) (h : r < 9223372036854775808) : double.read (wd neg r) = dat neg r := by
  have c1 : double.signWeight = 9223372036854775808 := by decide
  have c2 : double.binade = 4503599627370496 := by decide
  have c3 : double.infRung = infR := by decide
  have c4 : double.leastPlace = -1074 := by decide
  unfold Format.read
  rw [c1, c2, c3, c4]
  have e1 : (wd neg r / 9223372036854775808 % 2 == 1) = neg := by
    cases neg
    · simp only [wd, Bool.false_eq_true, if_false]
      rw [Nat.div_eq_of_lt h]; rfl
    · simp only [wd, if_true]
      rw [show (9223372036854775808 + r) / 9223372036854775808 = 1 from by omega]; rfl
  have e2 : wd neg r % 9223372036854775808 = r := by
    cases neg
    · simp only [wd, Bool.false_eq_true, if_false]; omega
    · simp only [wd, if_true]; omega
  simp only [e1, e2]
  unfold dat mg pl infR
  by_cases h1 : r < 4503599627370496
  · have : r < 9218868437227405312 := by omega
    simp [h1, this]
  · by_cases h2 : r < 9218868437227405312
    · simp [h1, h2]
    · simp [h1, h2]

theorem wd_split (x : Nat) (h : x < 18446744073709551616) : ∃ neg r, r < 9223372036854775808 ∧ x = wd neg r := by
  by_cases hx : x < 9223372036854775808
  · exact ⟨false, x, hx, rfl⟩
  · exact ⟨true, x - 9223372036854775808, by omega, by simp only [wd, if_true]; omega⟩

theorem rv_small {r : Nat} (h : r < 4503599627370496) : rv r = r := by
  unfold rv mg pl; rw [if_pos h, if_pos h]; simp
theorem rv_big {r : Nat} (h : ¬ r < 4503599627370496) : rv r = (4503599627370496 + r % 4503599627370496) * 2 ^ (r / 4503599627370496 - 1) := by
  unfold rv mg pl; rw [if_neg h, if_neg h]

theorem rv_succ (r : Nat) : rv r < rv (r + 1) := by
  by_cases h : r < 4503599627370496
  · by_cases h1 : r + 1 < 4503599627370496
    · rw [rv_small h, rv_small h1]; omega
    · have e : r = 4503599627370495 := by omega
      subst e; decide
  · have h1 : ¬ r + 1 < 4503599627370496 := by omega
    rw [rv_big h, rv_big h1]
    by_cases h2 : r % 4503599627370496 + 1 < 4503599627370496
    · rw [show (r + 1) / 4503599627370496 = r / 4503599627370496 from by omega, show (r + 1) % 4503599627370496 = r % 4503599627370496 + 1 from by omega]
      exact Nat.mul_lt_mul_of_pos_right (by omega) (Nat.two_pow_pos _)
    · rw [show (r + 1) / 4503599627370496 - 1 = (r / 4503599627370496 - 1) + 1 from by omega, show (r + 1) % 4503599627370496 = 0 from by omega, Nat.pow_succ]
      have hp : 0 < 2 ^ (r / 4503599627370496 - 1) := Nat.two_pow_pos _
      have : (4503599627370496 + r % 4503599627370496) * 2 ^ (r / 4503599627370496 - 1) < 9007199254740992 * 2 ^ (r / 4503599627370496 - 1) :=
        Nat.mul_lt_mul_of_pos_right (by omega) hp
      omega

theorem rv_lt {r s : Nat} (h : r < s) : rv r < rv s := by
  induction s with
  | zero => omega
  | succ n ih =>
    have := rv_succ n
    by_cases e : r = n
    · subst e; exact this
    · have := ih (by omega); omega

theorem rv_lt_iff {r s : Nat} : rv r < rv s ↔ r < s := by
  refine ⟨fun h => ?_, rv_lt⟩
  rcases Nat.lt_trichotomy r s with h1 | h1 | h1
  · exact h1
  · subst h1; omega
  · have := rv_lt h1; omega
theorem rv_inj {r s : Nat} : rv r = rv s ↔ r = s := by
  refine ⟨fun h => ?_, fun h => by rw [h]⟩
  rcases Nat.lt_trichotomy r s with h1 | h1 | h1
  · have := rv_lt h1; omega
  · exact h1
  · have := rv_lt h1; omega
theorem rv_le_iff {r s : Nat} : rv r ≤ rv s ↔ r ≤ s := by
  have := @rv_lt_iff s r; omega

/-! ### the nearest rung, by a value of so many 2^-1200 -/
def nd (Q : Nat) : Nat := max (Q.log2 - 52) 126
def nr0 (Q : Nat) : Nat := (nd Q - 126) * 4503599627370496 + rne Q (nd Q)
def nrs (Q : Nat) : Nat := min (nr0 Q) infR

theorem nearest_eq (neg : Bool) (mag : Nat) (place : Int) (h : -1200 ≤ place) : double.nearest neg mag place = wd neg (nrs (mag * 2 ^ (place + 1200).toNat)) := by
  have c2 : double.binade = 4503599627370496 := by decide
  have c3 : double.infRung = infR := by decide
  have c4 : double.leastPlace = -1074 := by decide
  have c5 : ((double.fractionBits : Nat) : Int) = 52 := by decide
  unfold Format.nearest
  rw [c2, c3, c4, c5, word_eq]
  by_cases h0 : mag = 0
  · subst h0
    rw [if_pos rfl, Nat.zero_mul]
    have : nrs 0 = 0 := by decide
    rw [this]
  · rw [if_neg h0]
    obtain ⟨t, ht⟩ : ∃ t, t = (place + 1200).toNat := ⟨_, rfl⟩
    have hp : place = (t : Int) - 1200 := by omega
    rw [← ht, word_eq]
    clear ht
    subst hp
    obtain ⟨D, hD⟩ : ∃ D, D = nd (mag * 2 ^ t) := ⟨_, rfl⟩
    have hD' : D = max (mag.log2 + t - 52) 126 := by rw [hD]; unfold nd; rw [log2_mul_pow h0]
    unfold nrs nr0
    rw [← hD]
    have e1 : max ((t : Int) - 1200 + (mag.log2 : Int) - 52) (-1074) = (D : Int) - 1200 := by omega
    rw [e1]
    have e2 : ((t : Int) - 1200 - ((D : Int) - 1200)).toNat = t - D := by omega
    have e3 : ((D : Int) - 1200 - ((t : Int) - 1200)).toNat = D - t := by omega
    have e4 : ((D : Int) - 1200 - -1074).toNat = D - 126 := by omega
    rw [e2, e3, e4, cut_even, Nat.shiftLeft_eq, rne_any]

theorem lt_pow_nd (Q : Nat) : Q < 9007199254740992 * 2 ^ nd Q := by
  have a := Nat.lt_log2_self (n := Q)
  have b : 2 ^ (Q.log2 + 1) ≤ 2 ^ (53 + nd Q) := Nat.pow_le_pow_right (by omega) (by unfold nd; omega)
  rw [Nat.pow_add 2 53] at b
  have : (2 : Nat) ^ 53 = 9007199254740992 := by decide
  rw [this] at b
  omega

theorem rne_nd_le (Q : Nat) : rne Q (nd Q) ≤ 9007199254740992 := by
  have h := lt_pow_nd Q
  have h2 : Q / 2 ^ nd Q < 9007199254740992 := (Nat.div_lt_iff_lt_mul (Nat.two_pow_pos _)).mpr h
  have := rne_le Q (nd Q)
  omega

theorem pow_nd_le {Q : Nat} (h : 126 < nd Q) : 4503599627370496 * 2 ^ nd Q ≤ Q := by
  have h0 : Q ≠ 0 := by rintro rfl; revert h; decide
  have a := Nat.log2_self_le h0
  have b : Q.log2 = 52 + nd Q := by unfold nd at h ⊢; omega
  rw [b, Nat.pow_add] at a
  have : (2 : Nat) ^ 52 = 4503599627370496 := by decide
  rw [this] at a
  exact a

theorem rne_nd_ge {Q : Nat} (h : 126 < nd Q) : 4503599627370496 ≤ rne Q (nd Q) := by
  have h1 := pow_nd_le h
  have h2 : 4503599627370496 ≤ Q / 2 ^ nd Q := (Nat.le_div_iff_mul_le (Nat.two_pow_pos _)).mpr h1
  have := rne_ge Q (nd Q)
  omega

/-- the value of the nearest rung -/
theorem rv_at (e k : Nat) (h1 : k ≤ 9007199254740992) (h2 : 0 < e → 4503599627370496 ≤ k) : rv (e * 4503599627370496 + k) = k * 2 ^ e := by
  by_cases he : e = 0
  · subst he
    rw [Nat.zero_mul, Nat.zero_add, Nat.pow_zero, Nat.mul_one]
    by_cases hk : k < 4503599627370496
    · exact rv_small hk
    · rw [rv_big hk]
      by_cases hk2 : k = 9007199254740992
      · subst hk2; decide
      · rw [show k / 4503599627370496 - 1 = 0 from by omega, Nat.pow_zero, Nat.mul_one]; omega
  · have hk := h2 (by omega)
    have hb : ¬ e * 4503599627370496 + k < 4503599627370496 := by omega
    rw [rv_big hb]
    by_cases hk2 : k = 9007199254740992
    · subst hk2
      rw [show (e * 4503599627370496 + 9007199254740992) / 4503599627370496 - 1 = e + 1 from by omega, show (e * 4503599627370496 + 9007199254740992) % 4503599627370496 = 0 from by omega, Nat.pow_succ]
      omega
    · rw [show (e * 4503599627370496 + k) / 4503599627370496 - 1 = e from by omega, show 4503599627370496 + (e * 4503599627370496 + k) % 4503599627370496 = k from by omega]

theorem rv_nr0 (Q : Nat) : rv (nr0 Q) = rne Q (nd Q) * 2 ^ (nd Q - 126) := by
  unfold nr0
  exact rv_at _ _ (rne_nd_le Q) (fun h => rne_nd_ge (by omega))

theorem rv_nr0' (Q : Nat) : rv (nr0 Q) * 2 ^ 126 = rne Q (nd Q) * 2 ^ nd Q := by
  rw [rv_nr0, Nat.mul_assoc, ← Nat.pow_add]
  congr 2
  unfold nd; omega

theorem nr0_mono {P Q : Nat} (h : P ≤ Q) : nr0 P ≤ nr0 Q := by
  have hl : P.log2 ≤ Q.log2 := by
    by_cases h0 : P = 0
    · subst h0; simp
    · exact (Nat.le_log2 (by omega)).mpr (Nat.le_trans (Nat.log2_self_le h0) h)
  by_cases he : nd P = nd Q
  · unfold nr0; rw [he]; exact Nat.add_le_add_left (rne_mono h _) _
  · have hlt : nd P < nd Q := by unfold nd at he ⊢; omega
    have h126 : 126 ≤ nd P := by unfold nd; omega
    have a := rne_nd_le P
    have b := rne_nd_ge (Q := Q) (by omega)
    unfold nr0
    omega

theorem nrs_mono {P Q : Nat} (h : P ≤ Q) : nrs P ≤ nrs Q := by
  have := nr0_mono h; unfold nrs; omega

/-- what is a number of at most 53 digits is not rounded -/
theorem nr0_exact {k j : Nat} (hk : k < 9007199254740992) (hj : 126 ≤ j) : rv (nr0 (k * 2 ^ j)) * 2 ^ 126 = k * 2 ^ j := by
  rw [rv_nr0']
  by_cases h0 : k = 0
  · subst h0; rw [Nat.zero_mul, show rne 0 (nd 0) = 0 from by decide, Nat.zero_mul]
  · have hd : nd (k * 2 ^ j) ≤ j := by
      unfold nd; rw [log2_mul_pow h0]
      have h53 : (2 : Nat) ^ 53 = 9007199254740992 := by decide
      have : k.log2 < 53 := (Nat.log2_lt h0).mpr (by omega)
      omega
    obtain ⟨D, hD⟩ : ∃ D, D = nd (k * 2 ^ j) := ⟨_, rfl⟩
    rw [← hD] at hd ⊢
    have e : k * 2 ^ j = (k * 2 ^ (j - D)) * 2 ^ D := by rw [Nat.mul_assoc, ← Nat.pow_add]; congr 2; omega
    rw [e, rne_exact]

/-- how far a value is from its rung's -/
theorem nr0_err (Q : Nat) : 2 * Q ≤ 2 * (rv (nr0 Q) * 2 ^ 126) + 2 ^ nd Q ∧ 2 * (rv (nr0 Q) * 2 ^ 126) ≤ 2 * Q + 2 ^ nd Q := by
  rw [rv_nr0']; exact ⟨rne_lo _ _, rne_hi _ _⟩
end Go.Proofs.YtagailghjfkafaaDoor
