/-
  Contracts of basis.Compare and of the document's Kind, Negative, key and Compare.
-/
import Derived.Test.YtagailghjfkafaaDoorBasB
namespace Go.Proofs.YtagailghjfkafaaDoor
open Go.RowKit Ieee

theorem eq0 (s : Bool) (r : Nat) (h : r < 9223372036854775808) : (FloatKind.f64.format.order (wd s r) 0 == some .eq) = decide (r = 0) := by
  by_cases h1 : infR < r
  · have e := order_nan_l s false r 0 h1 h (by omega)
    rw [show wd false 0 = 0 from rfl] at e
    rw [show FloatKind.f64.format = double from rfl, e]
    have : ¬ r = 0 := by omega
    simp [this]
  · have e := o_eq s false (r := r) (q := 0) (by omega) (by omega)
    rw [show wd false 0 = 0 from rfl] at e
    rw [e]
    refine decide_eq_decide.mpr ?_
    cases s <;> simp only [sr, Bool.false_eq_true, if_false, if_true] <;> omega

def ordB (s : Bool) (r : Nat) (t : Bool) (q : Nat) : Int :=
  if r = 0 ∧ q = 0 then ordC s 4607182418800017408 t 4607182418800017408 else ordC s r t q

theorem compare_any (s : Bool) (r : Nat) (t : Bool) (q : Nat) (w : World) (h : r < 9223372036854775808) (hq : q < 9223372036854775808) :
    Calls Tryd.prog 14 #[.float .f64 (wd s r), .float .f64 (wd t q)] w fun e w' => e = .returned (.int .i64 (ordB s r t q)) ∧ w = w' := by
  unfold ordB
  have e1 := eq0 s r h
  have e2 := eq0 t q hq
  by_cases h1 : r = 0
  · by_cases h2 : q = 0
    · rw [if_pos ⟨h1, h2⟩]
      have H1 := Lib.hid (copysign_any s r w h)
      have H2 := Lib.hid (copysign_any t q w hq)
      have H3 := Lib.hid (cmpF_any s 4607182418800017408 t 4607182418800017408 w (by omega) (by omega))
      rw [decide_eq_true h1] at e1
      rw [decide_eq_true h2] at e2
      clear h1 h2 h hq
      go_enter Tryd.func14, Tryd.ntmps14
      go_wp2_with fail
      refine H1.out.mono ?_
      rintro e w' ⟨rfl, rfl⟩
      go_wp2_with fail
      refine H2.out.mono ?_
      rintro e w' ⟨rfl, rfl⟩
      go_wp2_with fail
      refine H3.out.mono ?_
      rintro e w' ⟨rfl, rfl⟩
      go_wp2
      go_ret
      exact ⟨rfl, rfl⟩
    · rw [if_neg (fun hh => h2 hh.2)]
      have H3 := Lib.hid (cmpF_any s r t q w h hq)
      rw [decide_eq_true h1] at e1
      rw [decide_eq_false h2] at e2
      clear h1 h2 h hq
      go_enter Tryd.func14, Tryd.ntmps14
      go_wp2_with fail
      refine H3.out.mono ?_
      rintro e w' ⟨rfl, rfl⟩
      go_wp2
      go_ret
      exact ⟨rfl, rfl⟩
  · rw [if_neg (fun hh => h1 hh.1)]
    have H3 := Lib.hid (cmpF_any s r t q w h hq)
    rw [decide_eq_false h1] at e1
    clear h1 h hq e2
    go_enter Tryd.func14, Tryd.ntmps14
    go_wp2_with fail
    refine H3.out.mono ?_
    rintro e w' ⟨rfl, rfl⟩
    go_wp2
    go_ret
    exact ⟨rfl, rfl⟩

/-! ### the document's answers -/
theorem kind_e (s : Bool) (r : Nat) (h : r < 9223372036854775808) : bits .and .u64 (((wd s r : Nat) : Int) / 4503599627370496) 2047 = ((r / 4503599627370496 : Nat) : Int) := by
  have hw := wd_lt s h
  have e : ((wd s r : Nat) : Int) / 4503599627370496 = ((wd s r / 4503599627370496 : Nat) : Int) := by omega
  rw [e]
  have h1 := u64_and_nat (wd s r / 4503599627370496) 2047 (by omega) (by omega)
  rw [show ((2047 : Nat) : Int) = 2047 from rfl] at h1
  rw [h1, nat_mask11]
  congr 1
  cases s <;> simp only [wd, Bool.false_eq_true, if_false, if_true] <;> omega
theorem kind_f (s : Bool) (r : Nat) (h : r < 9223372036854775808) : bits .and .u64 ((wd s r : Nat) : Int) 4503599627370495 = ((r % 4503599627370496 : Nat) : Int) := by
  have hw := wd_lt s h
  have h1 := u64_and_nat (wd s r) 4503599627370495 hw (by omega)
  rw [show ((4503599627370495 : Nat) : Int) = 4503599627370495 from rfl] at h1
  rw [h1, show wd s r &&& 4503599627370495 = wd s r % 4503599627370496 from Nat.and_two_pow_sub_one_eq_mod _ 52]
  congr 1
  cases s <;> simp only [wd, Bool.false_eq_true, if_false, if_true] <;> omega

theorem kind_any (s : Bool) (r : Nat) (w : World) (h : r < 9223372036854775808) : Calls Tryd.prog 11 #[.int .u64 ((wd s r : Nat) : Int)] w fun e w' => e = .returned (.int .i64 (kindN r)) ∧ w = w' := by
  have h0 : (0 : Int) ≤ ((wd s r : Nat) : Int) := by omega
  have h1 := kind_e s r h
  have h2 := kind_f s r h
  obtain ⟨E, hE⟩ : ∃ E, E = r / 4503599627370496 := ⟨_, rfl⟩
  obtain ⟨F, hF⟩ : ∃ F, F = r % 4503599627370496 := ⟨_, rfl⟩
  rw [← hE] at h1
  rw [← hF] at h2
  unfold kindN infR
  by_cases hk : E = 2047
  · have t1 : ((E : Int) == 2047) = true := by simp; omega
    by_cases hf : F = 0
    · have t2 : ((F : Int) != 0) = false := by simp; omega
      rw [if_neg (by omega), if_pos (by omega)]
      clear hE hF hk hf
      go_enter Tryd.func11, Tryd.ntmps11
      go_wp2
      go_ret
      exact ⟨rfl, rfl⟩
    · have t2 : ((F : Int) != 0) = true := by simp; omega
      rw [if_pos (by omega)]
      clear hE hF hk hf
      go_enter Tryd.func11, Tryd.ntmps11
      go_wp2
      go_ret
      exact ⟨rfl, rfl⟩
  · have t1 : ((E : Int) == 2047) = false := by simp; omega
    rw [if_neg (by omega), if_neg (by omega)]
    by_cases he : E = 0
    · have t3 : ((E : Int) == 0) = true := by simp; omega
      by_cases hf : F = 0
      · have t2 : ((F : Int) == 0) = true := by simp; omega
        rw [if_pos (by omega)]
        clear hE hF hk hf he
        go_enter Tryd.func11, Tryd.ntmps11
        go_wp2
        go_ret
        exact ⟨rfl, rfl⟩
      · have t2 : ((F : Int) == 0) = false := by simp; omega
        rw [if_neg (by omega)]
        clear hE hF hk hf he
        go_enter Tryd.func11, Tryd.ntmps11
        go_wp2
        go_ret
        exact ⟨rfl, rfl⟩
    · have t3 : ((E : Int) == 0) = false := by simp; omega
      rw [if_neg (by omega)]
      clear hE hF hk he
      go_enter Tryd.func11, Tryd.ntmps11
      go_wp2
      go_ret
      exact ⟨rfl, rfl⟩

theorem negative_any (s : Bool) (r : Nat) (w : World) (h : r < 9223372036854775808) : Calls Tryd.prog 18 #[.int .u64 ((wd s r : Nat) : Int)] w fun e w' => e = .returned (.bool s) ∧ w = w' := by
  have h0 : (0 : Int) ≤ ((wd s r : Nat) : Int) := by omega
  have h1 : ((((wd s r : Nat) : Int) / 9223372036854775808) == 1) = s := by
    cases s
    · simp only [wd, Bool.false_eq_true, if_false]; rw [show (r : Int) / 9223372036854775808 = 0 from by omega]; rfl
    · simp only [wd, if_true]; rw [show ((9223372036854775808 + r : Nat) : Int) / 9223372036854775808 = 1 from by omega]; rfl
  clear h
  go_enter Tryd.func18, Tryd.ntmps18
  go_wp2
  go_ret
  exact ⟨rfl, rfl⟩

def keyN (s : Bool) (r : Nat) : Int := if infR < r then -9223372036854775808 else if s then -(r : Int) - 1 else r

theorem key_bits (s : Bool) (r : Nat) (h : r < 9223372036854775808) : bits .and .u64 ((wd s r : Nat) : Int) 9223372036854775807 = (r : Int) := by
  have hw := wd_lt s h
  have h1 := u64_and_nat (wd s r) 9223372036854775807 hw (by omega)
  rw [show ((9223372036854775807 : Nat) : Int) = 9223372036854775807 from rfl] at h1
  rw [h1, and_low, wd_mod s h]

theorem key_any (s : Bool) (r : Nat) (w : World) (h : r < 9223372036854775808) : Calls Tryd.prog 27 #[.int .u64 ((wd s r : Nat) : Int)] w fun e w' => e = .returned (.int .i64 (keyN s r)) ∧ w = w' := by
  have HK := kind_any s r w h
  have HN := negative_any s r w h
  have hb := key_bits s r h
  unfold keyN
  by_cases h1 : infR < r
  · rw [if_pos h1]
    rw [show kindN r = 0 from by unfold kindN; rw [if_pos h1]] at HK
    have H1 := Lib.hid HK
    clear HK HN hb h1 h
    go_enter Tryd.func27, Tryd.ntmps27
    go_wp2_with fail
    refine H1.out.mono ?_
    rintro e w' ⟨rfl, rfl⟩
    go_wp2
    go_ret
    exact ⟨rfl, rfl⟩
  · rw [if_neg h1]
    have hk : (kindN r == 0) = false := by
      unfold kindN; rw [if_neg h1]; split
      · rfl
      · split <;> rfl
    obtain ⟨k, hkk⟩ : ∃ k, k = kindN r := ⟨_, rfl⟩
    rw [← hkk] at hk HK
    have H1 := Lib.hid HK
    have H2 := HN
    have hi : (r : Int) ≤ 9218868437227405312 := by unfold infR at h1; omega
    have h00 : (0 : Int) ≤ (r : Int) := by omega
    clear HK HN h1 hkk h
    cases s
    · rw [if_neg (by decide)]
      have H3 := Lib.hid H2
      clear H2
      go_enter Tryd.func27, Tryd.ntmps27
      go_wp2_with fail
      refine H1.out.mono ?_
      rintro e w' ⟨rfl, rfl⟩
      go_wp2_with fail
      refine H3.out.mono ?_
      rintro e w' ⟨rfl, rfl⟩
      go_wp2
      go_ret
      exact ⟨rfl, rfl⟩
    · rw [if_pos rfl]
      have H3 := Lib.hid H2
      clear H2
      go_enter Tryd.func27, Tryd.ntmps27
      go_wp2_with fail
      refine H1.out.mono ?_
      rintro e w' ⟨rfl, rfl⟩
      go_wp2_with fail
      refine H3.out.mono ?_
      rintro e w' ⟨rfl, rfl⟩
      go_wp2
      go_ret
      exact ⟨rfl, rfl⟩

theorem rcompare_any (s : Bool) (r : Nat) (t : Bool) (q : Nat) (w : World) (h : r < 9223372036854775808) (hq : q < 9223372036854775808) :
    Calls Tryd.prog 15 #[.int .u64 ((wd s r : Nat) : Int), .int .u64 ((wd t q : Nat) : Int)] w fun e w' => e = .returned (.int .i64 (ordB s r t q)) ∧ w = w' := by
  have H1 := Lib.hid (key_any s r w h)
  have H2 := Lib.hid (key_any t q w hq)
  have key : ordB s r t q = if keyN s r < keyN t q then -1 else if keyN t q < keyN s r then 1 else 0 := by
    unfold ordB ordC keyN sr infR
    cases s <;> cases t <;> simp only [Bool.false_eq_true, if_false, if_true] <;> (repeat' split) <;> omega
  rw [key]
  clear key h hq
  obtain ⟨x, hx⟩ : ∃ x, x = keyN s r := ⟨_, rfl⟩
  obtain ⟨y, hy⟩ : ∃ y, y = keyN t q := ⟨_, rfl⟩
  rw [← hx] at H1 ⊢
  rw [← hy] at H2 ⊢
  clear hx hy
  rcases Int.lt_trichotomy x y with h3 | h3 | h3
  · rw [if_pos h3]
    have t1 : decide (x < y) = true := decide_eq_true h3
    clear h3
    go_enter Tryd.func15, Tryd.ntmps15
    go_wp2_with fail
    refine H1.out.mono ?_
    rintro e w' ⟨rfl, rfl⟩
    go_wp2_with fail
    refine H2.out.mono ?_
    rintro e w' ⟨rfl, rfl⟩
    go_wp2
    go_ret
    exact ⟨rfl, rfl⟩
  · rw [if_neg (by omega), if_neg (by omega)]
    have t1 : decide (x < y) = false := decide_eq_false (by omega)
    have t2 : decide (y < x) = false := decide_eq_false (by omega)
    clear h3
    go_enter Tryd.func15, Tryd.ntmps15
    go_wp2_with fail
    refine H1.out.mono ?_
    rintro e w' ⟨rfl, rfl⟩
    go_wp2_with fail
    refine H2.out.mono ?_
    rintro e w' ⟨rfl, rfl⟩
    go_wp2
    go_ret
    exact ⟨rfl, rfl⟩
  · rw [if_neg (by omega), if_pos h3]
    have t1 : decide (x < y) = false := decide_eq_false (by omega)
    have t2 : decide (y < x) = true := decide_eq_true h3
    clear h3
    go_enter Tryd.func15, Tryd.ntmps15
    go_wp2_with fail
    refine H1.out.mono ?_
    rintro e w' ⟨rfl, rfl⟩
    go_wp2_with fail
    refine H2.out.mono ?_
    rintro e w' ⟨rfl, rfl⟩
    go_wp2
    go_ret
    exact ⟨rfl, rfl⟩
end Go.Proofs.YtagailghjfkafaaDoor
