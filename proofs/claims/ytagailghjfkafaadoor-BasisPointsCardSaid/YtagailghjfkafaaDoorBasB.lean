/-
  Contracts of math.IsInf, math.Copysign, cmp.Compare at fractions, basis.Of, basis.Compare.
-/
import Derived.Test.YtagailghjfkafaaDoorBasA
namespace Go.Proofs.YtagailghjfkafaaDoor
open Go.RowKit Ieee

theorem cmp_lt (a b : Int) : (some (compare a b) == some Ordering.lt) = decide (a < b) := by
  rcases Int.lt_trichotomy a b with h | h | h
  · simp [compare, compareOfLessAndEq, h]
  · subst h; simp [compare, compareOfLessAndEq]
  · have h1 : ¬ a < b := by omega
    have h2 : ¬ a = b := by omega
    simp [compare, compareOfLessAndEq, h1, h2]
theorem cmp_eq (a b : Int) : (some (compare a b) == some Ordering.eq) = decide (a = b) := by
  rcases Int.lt_trichotomy a b with h | h | h
  · have h2 : ¬ a = b := by omega
    simp [compare, compareOfLessAndEq, h, h2]
  · subst h; simp [compare, compareOfLessAndEq]
  · have h1 : ¬ a < b := by omega
    have h2 : ¬ a = b := by omega
    simp [compare, compareOfLessAndEq, h1, h2]
theorem cmp_gt (a b : Int) : (some (compare a b) == some Ordering.gt) = decide (b < a) := by
  rcases Int.lt_trichotomy a b with h | h | h
  · have h2 : ¬ b < a := by omega
    simp [compare, compareOfLessAndEq, h, h2]
  · subst h; simp [compare, compareOfLessAndEq]
  · have h1 : ¬ a < b := by omega
    have h2 : ¬ a = b := by omega
    simp [compare, compareOfLessAndEq, h1, h2, h]

theorem o_lt (s t : Bool) {r q : Nat} (hr : r ≤ infR) (hq : q ≤ infR) : (FloatKind.f64.format.order (wd s r) (wd t q) == some .lt) = decide (sr s r < sr t q) := by
  rw [show FloatKind.f64.format = double from rfl, order_wd s t r q hr hq, cmp_lt]
theorem o_eq (s t : Bool) {r q : Nat} (hr : r ≤ infR) (hq : q ≤ infR) : (FloatKind.f64.format.order (wd s r) (wd t q) == some .eq) = decide (sr s r = sr t q) := by
  rw [show FloatKind.f64.format = double from rfl, order_wd s t r q hr hq, cmp_eq]
theorem o_gt (s t : Bool) {r q : Nat} (hr : r ≤ infR) (hq : q ≤ infR) : (FloatKind.f64.format.order (wd s r) (wd t q) == some .gt) = decide (sr t q < sr s r) := by
  rw [show FloatKind.f64.format = double from rfl, order_wd s t r q hr hq, cmp_gt]

theorem isInf_any (s : Bool) (r : Nat) (w : World) (h : r ≤ infR) : Calls Tryd.prog 21 #[.float .f64 (wd s r), .int .i64 0] w fun e w' => e = .returned (.bool (decide (r = infR))) ∧ w = w' := by
  have hi : infR < 9223372036854775808 := by decide
  have ho : (FloatKind.f64.format.order (wd false r) 9218868437227405311 == some .gt) = decide (r = infR) := by
    have := o_gt false false h (show 9218868437227405311 ≤ infR by decide)
    rw [show wd false 9218868437227405311 = 9218868437227405311 from rfl] at this
    rw [this]
    refine decide_eq_decide.mpr ?_
    simp only [sr, Bool.false_eq_true, if_false]
    unfold infR at *
    omega
  have HA := Lib.hid (abs_any s r w (by omega))
  clear hi h
  go_enter Tryd.func21, Tryd.ntmps21
  go_wp2_with fail
  refine HA.out.mono ?_
  rintro e w' ⟨rfl, rfl⟩
  go_wp2
  go_ret
  exact ⟨rfl, rfl⟩

/-- a rung's kind -/
def kindN (r : Nat) : Int := if infR < r then 0 else if r = infR then 1 else if r = 0 then 2 else 3

theorem of_any (s : Bool) (r : Nat) (w : World) (h : r < 9223372036854775808) : Calls Tryd.prog 10 #[.float .f64 (wd s r)] w fun e w' => e = .returned (.int .i64 (kindN r)) ∧ w = w' := by
  by_cases h1 : infR < r
  · have e : kindN r = 0 := by unfold kindN; rw [if_pos h1]
    rw [e]
    have H1 := Lib.hid (isNaN_yes s r w h1 h)
    clear e h1 h
    go_enter Tryd.func10, Tryd.ntmps10
    go_wp2_with fail
    refine H1.out.mono ?_
    rintro e w' ⟨rfl, rfl⟩
    go_wp2
    go_ret
    exact ⟨rfl, rfl⟩
  · have hr : r ≤ infR := by omega
    have H1 := Lib.hid (isNaN_no s r w hr)
    have H2 := isInf_any s r w hr
    by_cases h2 : r = infR
    · have e : kindN r = 1 := by unfold kindN; rw [if_neg h1, if_pos h2]
      rw [e]
      rw [decide_eq_true h2] at H2
      have H3 := Lib.hid H2
      clear e h1 h H2 h2 hr
      go_enter Tryd.func10, Tryd.ntmps10
      go_wp2_with fail
      refine H1.out.mono ?_
      rintro e w' ⟨rfl, rfl⟩
      go_wp2_with fail
      refine H3.out.mono ?_
      rintro e w' ⟨rfl, rfl⟩
      go_wp2
      go_ret
      exact ⟨rfl, rfl⟩
    · rw [decide_eq_false h2] at H2
      have H3 := Lib.hid H2
      have ho := o_eq s false hr (show 0 ≤ infR by decide)
      rw [show wd false 0 = 0 from rfl] at ho
      by_cases h3 : r = 0
      · have e : kindN r = 2 := by unfold kindN; rw [if_neg h1, if_neg h2, if_pos h3]
        rw [e]
        rw [decide_eq_true (show sr s r = sr false 0 by subst h3; cases s <;> rfl)] at ho
        clear e h1 h H2 h2 hr h3
        go_enter Tryd.func10, Tryd.ntmps10
        go_wp2_with fail
        refine H1.out.mono ?_
        rintro e w' ⟨rfl, rfl⟩
        go_wp2_with fail
        refine H3.out.mono ?_
        rintro e w' ⟨rfl, rfl⟩
        go_wp2
        go_ret
        exact ⟨rfl, rfl⟩
      · have e : kindN r = 3 := by unfold kindN; rw [if_neg h1, if_neg h2, if_neg h3]
        rw [e]
        rw [decide_eq_false (show ¬ sr s r = sr false 0 by cases s <;> simp only [sr, Bool.false_eq_true, if_false, if_true] <;> omega)] at ho
        clear e h1 h H2 h2 hr h3
        go_enter Tryd.func10, Tryd.ntmps10
        go_wp2_with fail
        refine H1.out.mono ?_
        rintro e w' ⟨rfl, rfl⟩
        go_wp2_with fail
        refine H3.out.mono ?_
        rintro e w' ⟨rfl, rfl⟩
        go_wp2
        go_ret
        exact ⟨rfl, rfl⟩

/-- the order of fractions as package cmp has it: no number is the least; both noughts are one -/
def ordC (s : Bool) (r : Nat) (t : Bool) (q : Nat) : Int :=
  if infR < r then (if infR < q then 0 else -1)
  else if infR < q then 1
  else if sr s r < sr t q then -1 else if sr t q < sr s r then 1 else 0

theorem cmpF_any (s : Bool) (r : Nat) (t : Bool) (q : Nat) (w : World) (h : r < 9223372036854775808) (hq : q < 9223372036854775808) :
    Calls Tryd.prog 25 #[.float .f64 (wd s r), .float .f64 (wd t q)] w fun e w' => e = .returned (.int .i64 (ordC s r t q)) ∧ w = w' := by
  unfold ordC
  by_cases h1 : infR < r
  · have H1 := Lib.hid (cisNaN_yes s r w h1 h)
    rw [if_pos h1]
    by_cases h2 : infR < q
    · have H2 := Lib.hid (cisNaN_yes t q w h2 hq)
      rw [if_pos h2]
      clear h1 h2 h hq
      go_enter Tryd.func25, Tryd.ntmps25
      go_wp2_with fail
      refine H1.out.mono ?_
      rintro e w' ⟨rfl, rfl⟩
      go_wp2_with fail
      refine H2.out.mono ?_
      rintro e w' ⟨rfl, rfl⟩
      go_wp2
      go_ret
      exact ⟨rfl, rfl⟩
    · have H2 := Lib.hid (cisNaN_no t q w (by omega))
      rw [if_neg h2]
      clear h1 h2 h hq
      go_enter Tryd.func25, Tryd.ntmps25
      go_wp2_with fail
      refine H1.out.mono ?_
      rintro e w' ⟨rfl, rfl⟩
      go_wp2_with fail
      refine H2.out.mono ?_
      rintro e w' ⟨rfl, rfl⟩
      go_wp2
      go_ret
      exact ⟨rfl, rfl⟩
  · have H1 := Lib.hid (cisNaN_no s r w (by omega))
    rw [if_neg h1]
    by_cases h2 : infR < q
    · have H2 := Lib.hid (cisNaN_yes t q w h2 hq)
      rw [if_pos h2]
      clear h1 h2 h hq
      go_enter Tryd.func25, Tryd.ntmps25
      go_wp2_with fail
      refine H1.out.mono ?_
      rintro e w' ⟨rfl, rfl⟩
      go_wp2_with fail
      refine H2.out.mono ?_
      rintro e w' ⟨rfl, rfl⟩
      go_wp2
      go_ret
      exact ⟨rfl, rfl⟩
    · have H2 := Lib.hid (cisNaN_no t q w (by omega))
      have ho1 := o_lt s t (r := r) (q := q) (by omega) (by omega)
      have ho2 := o_gt s t (r := r) (q := q) (by omega) (by omega)
      rw [if_neg h2]
      rcases Int.lt_trichotomy (sr s r) (sr t q) with h3 | h3 | h3
      · rw [decide_eq_true h3] at ho1
        rw [if_pos h3]
        clear h1 h2 h hq h3 ho2
        go_enter Tryd.func25, Tryd.ntmps25
        go_wp2_with fail
        refine H1.out.mono ?_
        rintro e w' ⟨rfl, rfl⟩
        go_wp2_with fail
        refine H2.out.mono ?_
        rintro e w' ⟨rfl, rfl⟩
        go_wp2
        go_ret
        exact ⟨rfl, rfl⟩
      · rw [decide_eq_false (by omega)] at ho1 ho2
        rw [if_neg (by omega), if_neg (by omega)]
        clear h1 h2 h hq h3
        go_enter Tryd.func25, Tryd.ntmps25
        go_wp2_with fail
        refine H1.out.mono ?_
        rintro e w' ⟨rfl, rfl⟩
        go_wp2_with fail
        refine H2.out.mono ?_
        rintro e w' ⟨rfl, rfl⟩
        go_wp2
        go_ret
        exact ⟨rfl, rfl⟩
      · rw [decide_eq_false (by omega)] at ho1
        rw [decide_eq_true h3] at ho2
        rw [if_neg (by omega), if_pos h3]
        clear h1 h2 h hq h3
        go_enter Tryd.func25, Tryd.ntmps25
        go_wp2_with fail
        refine H1.out.mono ?_
        rintro e w' ⟨rfl, rfl⟩
        go_wp2_with fail
        refine H2.out.mono ?_
        rintro e w' ⟨rfl, rfl⟩
        go_wp2
        go_ret
        exact ⟨rfl, rfl⟩

theorem sign_bits (s : Bool) (r : Nat) (h : r < 9223372036854775808) : bits .and .u64 ((wd s r : Nat) : Int) 9223372036854775808 = ((wd s 0 : Nat) : Int) := by
  have h1 := u64_and_nat (wd s r) 9223372036854775808 (wd_lt s h) (by omega)
  rw [show ((9223372036854775808 : Nat) : Int) = 9223372036854775808 from rfl] at h1
  rw [h1]
  congr 1
  have e : wd s r &&& 9223372036854775808 = (wd s r / 9223372036854775808 % 2) * 9223372036854775808 := by
    apply Nat.eq_of_testBit_eq
    intro i
    rw [Nat.testBit_and, show (9223372036854775808 : Nat) = 2 ^ 63 from rfl, Nat.testBit_two_pow, Nat.testBit_mul_two_pow, show (wd s r / 2 ^ 63) % 2 = (wd s r / 2 ^ 63) % 2 ^ 1 from rfl, Nat.testBit_mod_two_pow, Nat.testBit_div_two_pow]
    by_cases hi : i = 63
    · subst hi; simp
    · by_cases hl : 63 ≤ i
      · have : ¬ i - 63 < 1 := by omega
        have h6 : ¬ 63 = i := by omega
        simp [this, h6]
      · have h6 : ¬ 63 = i := by omega
        simp [hl, h6]
  rw [e]
  cases s <;> simp only [wd, Bool.false_eq_true, if_false, if_true] <;> omega

theorem copysign_any (t : Bool) (q : Nat) (w : World) (h : q < 9223372036854775808) :
    Calls Tryd.prog 26 #[.float .f64 4607182418800017408, .float .f64 (wd t q)] w fun e w' => e = .returned (.float .f64 (wd t 4607182418800017408)) ∧ w = w' := by
  have h1 := bits_run (wd t q)
  have h0 := bits_run 4607182418800017408
  have h2 := from_run (wd t 4607182418800017408)
  have h3 := sign_bits t q h
  have h4 : bits .andNot .u64 4607182418800017408 9223372036854775808 = 4607182418800017408 := by decide +kernel
  have h5 : bits .or .u64 4607182418800017408 ((wd t 0 : Nat) : Int) = ((wd t 4607182418800017408 : Nat) : Int) := by cases t <;> decide +kernel
  clear h
  go_enter Tryd.func26, Tryd.ntmps26
  go_wp2
  go_ret
  exact ⟨rfl, rfl⟩
end Go.Proofs.YtagailghjfkafaaDoor
