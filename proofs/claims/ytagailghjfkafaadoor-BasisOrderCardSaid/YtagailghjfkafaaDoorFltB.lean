/-
  Plain mathematics on the double format: order, product by 10000, rounding to whole numbers, the rest. No program is spoken of.
-/
import Derived.Test.YtagailghjfkafaaDoorFltA
namespace Go.Proofs.YtagailghjfkafaaDoor
open Ieee

/-- exponents, behind names -/
def E0 : Nat := 1073
def E1 : Nat := 1074
def E3 : Nat := 1200
theorem pE1 : 2 ^ E1 = 2 * 2 ^ E0 := by decide +kernel
theorem pE3 : 2 ^ E3 = 2 ^ E1 * 2 ^ 126 := by decide +kernel

/-- a word's rung with its sign -/
def sr (neg : Bool) (r : Nat) : Int := if neg then -(r : Int) else r
def sv (neg : Bool) (r : Nat) : Int := if neg then -(rv r : Int) else rv r

theorem compare_congr {a b c d : Int} (h1 : a < b ↔ c < d) (h2 : a = b ↔ c = d) : compare a b = compare c d := by
  simp only [compare, compareOfLessAndEq]
  simp only [h1, h2]

theorem sv_lt (s t : Bool) (r q : Nat) : sv s r < sv t q ↔ sr s r < sr t q := by
  have h0 : rv 0 = 0 := by decide
  have a := @rv_lt_iff r q
  have b := @rv_lt_iff q r
  have c := @rv_lt_iff 0 r
  have d := @rv_lt_iff 0 q
  rw [h0] at c d
  cases s <;> cases t <;> simp only [sv, sr, Bool.false_eq_true, if_false, if_true] <;> omega
theorem sv_eq (s t : Bool) (r q : Nat) : sv s r = sv t q ↔ sr s r = sr t q := by
  have h0 : rv 0 = 0 := by decide
  have a := @rv_lt_iff r q
  have b := @rv_lt_iff q r
  have c := @rv_lt_iff 0 r
  have d := @rv_lt_iff 0 q
  rw [h0] at c d
  cases s <;> cases t <;> simp only [sv, sr, Bool.false_eq_true, if_false, if_true] <;> omega

theorem signed_eq (s : Bool) (m up c : Nat) : signed s m up * ((2 ^ c : Nat) : Int) = if s then -((m * 2 ^ (up + c) : Nat) : Int) else ((m * 2 ^ (up + c) : Nat) : Int) := by
  unfold signed
  rw [Nat.shiftLeft_eq, Nat.pow_add, ← Nat.mul_assoc]
  cases s
  · simp only [Bool.false_eq_true, if_false]; rw [Int.natCast_mul (m * 2 ^ up)]
  · simp only [if_true]; rw [Int.natCast_mul (m * 2 ^ up), Int.neg_mul]

theorem order_wd (s t : Bool) (r q : Nat) (hr : r ≤ infR) (hq : q ≤ infR) : double.order (wd s r) (wd t q) = some (compare (sr s r) (sr t q)) := by
  unfold Format.order
  have hi : infR < 9223372036854775808 := by decide
  rw [read_wd s r (by omega), read_wd t q (by omega)]
  unfold dat
  by_cases h1 : r < infR
  · rw [if_pos h1]
    by_cases h2 : q < infR
    · rw [if_pos h2]
      unfold Datum.order
      dsimp only
      congr 1
      obtain ⟨c, hc⟩ : ∃ c, c = min (pl r) (pl q) := ⟨_, rfl⟩
      have e1 : (-1074 + (pl r : Int) - min (-1074 + (pl r : Int)) (-1074 + (pl q : Int))).toNat = pl r - c := by omega
      have e2 : (-1074 + (pl q : Int) - min (-1074 + (pl r : Int)) (-1074 + (pl q : Int))).toNat = pl q - c := by omega
      rw [e1, e2]
      have hp : (0 : Int) < ((2 ^ c : Nat) : Int) := by have := Nat.two_pow_pos c; omega
      have f1 : signed s (mg r) (pl r - c) * ((2 ^ c : Nat) : Int) = sv s r := by
        rw [signed_eq, show pl r - c + c = pl r from by omega]; rfl
      have f2 : signed t (mg q) (pl q - c) * ((2 ^ c : Nat) : Int) = sv t q := by
        rw [signed_eq, show pl q - c + c = pl q from by omega]; rfl
      refine compare_congr ?_ ?_
      · rw [← sv_lt, ← f1, ← f2]
        exact ⟨fun h => Int.mul_lt_mul_of_pos_right h hp, fun h => Int.lt_of_mul_lt_mul_right h (Int.le_of_lt hp)⟩
      · rw [← sv_eq, ← f1, ← f2]
        exact ⟨fun h => by rw [h], fun h => Int.eq_of_mul_eq_mul_right (by omega) h⟩
    · have e : q = infR := by omega
      subst e
      rw [if_neg h2, if_pos rfl]
      unfold Datum.order
      dsimp only
      congr 1
      cases t
      · have : sr s r < sr false infR := by cases s <;> simp only [sr, Bool.false_eq_true, if_false, if_true] <;> omega
        simp [compare, compareOfLessAndEq, this]
      · have h3 : ¬ sr s r < sr true infR := by cases s <;> simp only [sr, Bool.false_eq_true, if_false, if_true] <;> omega
        have h4 : ¬ sr s r = sr true infR := by cases s <;> simp only [sr, Bool.false_eq_true, if_false, if_true] <;> omega
        simp [compare, compareOfLessAndEq, h3, h4]
  · have e : r = infR := by omega
    subst e
    rw [if_neg h1, if_pos rfl]
    by_cases h2 : q < infR
    · rw [if_pos h2]
      unfold Datum.order
      dsimp only
      congr 1
      cases s
      · have h3 : ¬ sr false infR < sr t q := by cases t <;> simp only [sr, Bool.false_eq_true, if_false, if_true] <;> omega
        have h4 : ¬ sr false infR = sr t q := by cases t <;> simp only [sr, Bool.false_eq_true, if_false, if_true] <;> omega
        simp [compare, compareOfLessAndEq, h3, h4]
      · have : sr true infR < sr t q := by cases t <;> simp only [sr, Bool.false_eq_true, if_false, if_true] <;> omega
        simp [compare, compareOfLessAndEq, this]
    · have e : q = infR := by omega
      subst e
      rw [if_neg h2, if_pos rfl]
      cases s <;> cases t <;> decide

theorem order_nan_l (s t : Bool) (r q : Nat) (hr : infR < r) (hr2 : r < 9223372036854775808) (hq : q < 9223372036854775808) : double.order (wd s r) (wd t q) = none := by
  unfold Format.order
  rw [read_wd s r hr2, read_wd t q hq]
  unfold dat
  rw [if_neg (show ¬ r < infR by omega), if_neg (show ¬ r = infR by omega)]
  split
  · rfl
  · split <;> rfl
theorem order_nan_r (s t : Bool) (r q : Nat) (hq2 : infR < q) (hr : r < 9223372036854775808) (hq : q < 9223372036854775808) : double.order (wd s r) (wd t q) = none := by
  unfold Format.order
  rw [read_wd s r hr, read_wd t q hq]
  unfold dat
  rw [if_neg (show ¬ q < infR by omega), if_neg (show ¬ q = infR by omega)]
  split
  · rfl
  · split <;> rfl

/-! ### the product by 10000 -/
def tenK : Nat := 4666723172467343360
def prod (r : Nat) : Nat := nrs (rv r * 10000 * 2 ^ 126)

theorem mul_tenK (r : Nat) (hr : r < infR) : double.mul (wd false r) 4666723172467343360 = some (wd false (prod r)) := by
  unfold Format.mul
  have hi : infR < 9223372036854775808 := by decide
  rw [read_wd false r (by omega)]
  have e : double.read 4666723172467343360 = .number false 5497558138880000 (-39) := by decide
  rw [e]
  unfold dat
  rw [if_pos hr]
  unfold Datum.product
  simp only [Option.map_some, Format.write]
  rw [nearest_eq _ _ _ (by omega)]
  have e2 : (-1074 + (pl r : Int) + -39 + 1200).toNat = pl r + 87 := by omega
  rw [e2]
  have e3 : (5497558138880000 : Nat) * 2 ^ 87 = 10000 * 2 ^ 126 := by decide +kernel
  have key : mg r * 5497558138880000 * 2 ^ (pl r + 87) = rv r * 10000 * 2 ^ 126 := by
    unfold rv
    rw [Nat.pow_add, Nat.mul_assoc (mg r), Nat.mul_left_comm 5497558138880000, e3, Nat.mul_assoc, Nat.mul_assoc]
  rw [key, show (false ^^ false) = false from rfl]
  unfold prod
  exact Eq.refl _

/-! ### whole numbers -/
theorem cut_at (way : Nat → Nat → Nat) (hw : ∀ m t D, way (m * 2 ^ (t - D)) (D - t) = way (m * 2 ^ t) D) (s : Nat) :
    way (mg s <<< (-1074 + (pl s : Int)).toNat) (-(-1074 + (pl s : Int))).toNat = way (rv s) E1 := by
  have e1 : (-1074 + (pl s : Int)).toNat = pl s - E1 := by unfold E1; omega
  have e2 : (-(-1074 + (pl s : Int))).toNat = E1 - pl s := by unfold E1; omega
  rw [e1, e2, Nat.shiftLeft_eq, hw]
  unfold rv
  exact Eq.refl _

theorem div_any (m t D : Nat) : m * 2 ^ (t - D) / 2 ^ (D - t) = m * 2 ^ t / 2 ^ D := by
  by_cases h : t ≤ D
  · rw [show t - D = 0 from by omega, Nat.pow_zero, Nat.mul_one]
    conv => rhs; rw [show D = (D - t) + t from by omega, Nat.pow_add]
    rw [Nat.mul_div_mul_right _ _ (Nat.two_pow_pos t)]
  · rw [show D - t = 0 from by omega, Nat.pow_zero, Nat.div_one]
    conv => rhs; rw [show t = (t - D) + D from by omega, Nat.pow_add, ← Nat.mul_assoc]
    rw [Nat.mul_div_cancel _ (Nat.two_pow_pos D)]

theorem integral_even (s : Nat) (hs : s < infR) : (dat false s).integral .even = .number false (rne (rv s) E1) 0 := by
  unfold dat
  rw [if_pos hs]
  unfold Datum.integral
  dsimp only
  rw [cut_even, cut_at rne rne_any s]

theorem toInt_zero (s : Nat) (hs : s < infR) : (dat false s).toInt .zero = some ((rv s / 2 ^ E1 : Nat) : Int) := by
  unfold Datum.toInt dat
  rw [if_pos hs]
  unfold Datum.integral
  dsimp only
  rw [cut_zero]
  rw [cut_at (fun a b => a / 2 ^ b) div_any s]
  simp only [signed, Bool.false_eq_true, if_false, Nat.shiftLeft_zero]

/-- the rung of a whole number -/
def ofNat (n : Nat) : Nat := nrs (n * 2 ^ E3)

theorem write_int (neg : Bool) (n : Nat) : double.write (.number neg n 0) = wd neg (ofNat n) := by
  simp only [Format.write]
  rw [nearest_eq _ _ _ (by omega)]
  rw [show ((0 : Int) + 1200).toNat = E3 from by decide]
  unfold ofNat
  exact Eq.refl _

theorem ofNat_mono {a b : Nat} (h : a ≤ b) : ofNat a ≤ ofNat b := nrs_mono (Nat.mul_le_mul_right _ h)

theorem ofNat_top : nr0 (9007199254740992 * 2 ^ E3) < infR := by decide +kernel

theorem rv_ofNat {n : Nat} (h : n < 9007199254740992) : ofNat n < infR ∧ rv (ofNat n) = n * 2 ^ E1 := by
  have h1 := nr0_exact (k := n) (j := E3) h (by unfold E3; omega)
  have h2 : nr0 (n * 2 ^ E3) < infR := Nat.lt_of_le_of_lt (nr0_mono (Nat.mul_le_mul_right _ (by omega))) ofNat_top
  have e : ofNat n = nr0 (n * 2 ^ E3) := by unfold ofNat nrs; omega
  refine ⟨by omega, ?_⟩
  rw [e]
  rw [pE3, ← Nat.mul_assoc] at h1
  rw [pE3, ← Nat.mul_assoc]
  exact Nat.eq_of_mul_eq_mul_right (Nat.two_pow_pos _) h1

theorem ofNat_tenK : ofNat 10000 = tenK := by decide +kernel
theorem ofNat_tenK1 : tenK < ofNat 10001 := by decide +kernel

/-- a whole number's rung is above 10000's just if it is -/
theorem ofNat_over (n : Nat) : tenK < ofNat n ↔ 10000 < n := by
  constructor
  · intro h
    rcases Nat.lt_or_ge 10000 n with h1 | h1
    · exact h1
    · have := ofNat_mono h1
      rw [ofNat_tenK] at this
      omega
  · intro h
    have := ofNat_mono (show 10001 ≤ n from h)
    have := ofNat_tenK1
    omega

/-! ### the rest of a division by 1 -/
theorem two1074 : (0 : Nat) < 2 ^ E1 := Nat.two_pow_pos _

theorem mg_lt (s : Nat) : mg s < 9007199254740992 := by unfold mg; split <;> omega

/-- what is behind the point is a rung's value, and is not rounded -/
theorem rest_exact (s : Nat) : rv (nr0 (rv s % 2 ^ E1 * 2 ^ 126)) = rv s % 2 ^ E1 := by
  have hm := mg_lt s
  have key : ∃ k j, k < 9007199254740992 ∧ rv s % 2 ^ E1 = k * 2 ^ j := by
    by_cases h : E1 ≤ pl s
    · refine ⟨0, 0, by omega, ?_⟩
      unfold rv
      rw [show pl s = (pl s - E1) + E1 from by omega, Nat.pow_add, ← Nat.mul_assoc, Nat.mul_mod_left, Nat.zero_mul]
    · refine ⟨mg s % 2 ^ (E1 - pl s), pl s, Nat.lt_of_le_of_lt (Nat.mod_le _ _) hm, ?_⟩
      unfold rv
      conv => lhs; rw [show E1 = (E1 - pl s) + pl s from by omega, Nat.pow_add]
      rw [Nat.mul_mod_mul_right]
  obtain ⟨k, j, hk, e⟩ := key
  rw [e]
  have h1 := nr0_exact (k := k) (j := j + 126) hk (by omega)
  rw [Nat.pow_add, ← Nat.mul_assoc] at h1
  exact Nat.eq_of_mul_eq_mul_right (Nat.two_pow_pos _) h1

theorem rest_top : nr0 (2 ^ E1 * 2 ^ 126) < infR := by decide +kernel

/-- the rung of what is behind the point -/
def restR (s : Nat) : Nat := nrs (rv s % 2 ^ E1 * 2 ^ 126)
theorem restR_fin (s : Nat) : restR s < infR ∧ rv (restR s) = rv s % 2 ^ E1 := by
  have h2 : nr0 (rv s % 2 ^ E1 * 2 ^ 126) < infR :=
    Nat.lt_of_le_of_lt (nr0_mono (Nat.mul_le_mul_right _ (Nat.le_of_lt (Nat.mod_lt _ two1074)))) rest_top
  have e : restR s = nr0 (rv s % 2 ^ E1 * 2 ^ 126) := by unfold restR nrs; omega
  exact ⟨by omega, by rw [e]; exact rest_exact s⟩

theorem sub_whole (s : Nat) (hs : s < infR) (hn : rv s / 2 ^ E1 < 9007199254740992) :
    double.sub (wd false s) (wd false (ofNat (rv s / 2 ^ E1))) = some (wd false (restR s)) := by
  obtain ⟨n, hnn⟩ : ∃ n, n = rv s / 2 ^ E1 := ⟨_, rfl⟩
  rw [← hnn] at hn ⊢
  obtain ⟨h1, h2⟩ := rv_ofNat hn
  obtain ⟨f, hf⟩ : ∃ f, f = ofNat n := ⟨_, rfl⟩
  rw [← hf] at h1 h2 ⊢
  have hi : infR < 9223372036854775808 := by decide
  unfold Format.sub
  rw [read_wd false s (by omega), read_wd false f (by omega)]
  unfold dat
  rw [if_pos hs, if_pos h1]
  unfold Datum.opposite Datum.sum
  simp only [Option.map_some, Bool.not_false]
  obtain ⟨c, hc⟩ : ∃ c, c = min (pl s) (pl f) := ⟨_, rfl⟩
  have eb : min (-1074 + (pl s : Int)) (-1074 + (pl f : Int)) = -1074 + (c : Int) := by omega
  rw [eb]
  have e1 : (-1074 + (pl s : Int) - (-1074 + (c : Int))).toNat = pl s - c := by omega
  have e2 : (-1074 + (pl f : Int) - (-1074 + (c : Int))).toNat = pl f - c := by omega
  rw [e1, e2]
  have hp : 0 < 2 ^ c := Nat.two_pow_pos c
  have g1 : mg s * 2 ^ (pl s - c) * 2 ^ c = rv s := by unfold rv; rw [Nat.mul_assoc, ← Nat.pow_add]; congr 2; omega
  have g2 : mg f * 2 ^ (pl f - c) * 2 ^ c = rv f := by unfold rv; rw [Nat.mul_assoc, ← Nat.pow_add]; congr 2; omega
  obtain ⟨a, ha⟩ : ∃ a, a = mg s * 2 ^ (pl s - c) := ⟨_, rfl⟩
  obtain ⟨b, hb⟩ : ∃ b, b = mg f * 2 ^ (pl f - c) := ⟨_, rfl⟩
  have t1 : signed false (mg s) (pl s - c) + signed true (mg f) (pl f - c) = (a : Int) - (b : Int) := by
    simp only [signed, Bool.false_eq_true, if_false, if_true, Nat.shiftLeft_eq, ← ha, ← hb]; omega
  rw [t1]
  rw [← ha] at g1
  rw [← hb] at g2
  have hdm := Nat.div_add_mod (rv s) (2 ^ E1)
  rw [← hnn, Nat.mul_comm] at hdm
  have hle : b ≤ a := by
    have : b * 2 ^ c ≤ a * 2 ^ c := by rw [g1, g2, h2]; omega
    exact Nat.le_of_mul_le_mul_right this hp
  have hsign : (if (a : Int) - (b : Int) = 0 then (false && true) else decide ((a : Int) - (b : Int) < 0)) = false := by
    split
    · rfl
    · exact decide_eq_false (by omega)
  rw [hsign]
  simp only [Format.write]
  rw [nearest_eq _ _ _ (by omega)]
  have e3 : ((a : Int) - (b : Int)).natAbs = a - b := by omega
  have e4 : (-1074 + (c : Int) + 1200).toNat = c + 126 := by omega
  have key : (a - b) * 2 ^ (c + 126) = rv s % 2 ^ E1 * 2 ^ 126 := by
    rw [Nat.pow_add, ← Nat.mul_assoc, Nat.sub_mul, g1, g2, h2]
    rw [show rv s - n * 2 ^ E1 = rv s % 2 ^ E1 from by omega]
  rw [e3, e4, key]
  unfold restR
  exact Eq.refl _

/-- 0.5 -/
def halfR : Nat := 4602678819172646912
theorem rv_half : rv halfR = 2 ^ E0 := by decide +kernel

/-- the document's rounding, by its rest, is the one to the even -/
theorem rounded (s : Nat) : rne (rv s) E1 = rv s / 2 ^ E1 + (if halfR < restR s ∨ (restR s = halfR ∧ rv s / 2 ^ E1 % 2 = 1) then 1 else 0) := by
  obtain ⟨h1, h2⟩ := restR_fin s
  have a := @rv_lt_iff halfR (restR s)
  have b := @rv_inj (restR s) halfR
  rw [rv_half, h2] at a b
  have p := pE1
  unfold rne
  have e1 : (2 ^ E1 < 2 * (rv s % 2 ^ E1)) ↔ halfR < restR s := by rw [← a]; omega
  have e2 : (2 ^ E1 = 2 * (rv s % 2 ^ E1)) ↔ restR s = halfR := by rw [← b]; omega
  simp only [e1, e2]
end Go.Proofs.YtagailghjfkafaaDoor
