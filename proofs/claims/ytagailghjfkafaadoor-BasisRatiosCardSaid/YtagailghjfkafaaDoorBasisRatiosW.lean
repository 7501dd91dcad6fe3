/-
  The walk of souklaw02.BasisRatios.
-/
import Derived.Test.YtagailghjfkafaaDoorBasI
namespace Go.Proofs.YtagailghjfkafaaDoor
open Go.RowKit Ieee

theorem int_top : nr0 (9223372036854775808 * 2 ^ E3) < infR := by decide +kernel
theorem ofNat_one : 0 < ofNat 1 := by decide +kernel
theorem ofNat_zero : ofNat 0 = 0 := by decide +kernel

theorem ofNat_fin {n : Nat} (h : n ≤ 9223372036854775808) : ofNat n < infR := by
  have := nr0_mono (Nat.mul_le_mul_right (2 ^ E3) h)
  have := int_top
  unfold ofNat nrs
  omega
theorem mg_pos {r : Nat} (h : 0 < r) : mg r ≠ 0 := by unfold mg; split <;> omega
theorem mg_zero : mg 0 = 0 := by decide

theorem div_fin (s t : Bool) (a b : Nat) (ha : a < infR) (hb : b < infR) :
    double.div (wd s a) (wd t b) = ((Datum.number s (mg a) (-1074 + (pl a : Int))).quotient 54 (.number t (mg b) (-1074 + (pl b : Int)))).map double.write := by
  have hi : infR < 9223372036854775808 := by decide
  unfold Format.div
  rw [read_wd s a (by omega), read_wd t b (by omega)]
  unfold dat
  rw [if_pos ha, if_pos hb]
  exact Eq.refl _

theorem div_by_zero (p : Int) (h : p ≠ 0) (h1 : -9223372036854775808 ≤ p) (h2 : p ≤ 9223372036854775807) :
    double.div (floatOfInt .f64 p) (floatOfInt .f64 0) = some (wd (decide (p < 0)) infR) := by
  rw [floatOfInt_any p, floatOfInt_any 0]
  have e0 : (0 : Int).natAbs = 0 := rfl
  rw [e0, ofNat_zero, div_fin _ _ _ _ (ofNat_fin (by omega)) (by decide), mg_zero]
  have hm : mg (ofNat p.natAbs) ≠ 0 := mg_pos (Nat.lt_of_lt_of_le ofNat_one (ofNat_mono (by omega)))
  unfold Datum.quotient
  dsimp only
  rw [if_pos rfl, if_neg hm]
  simp only [Option.map_some, Format.write]
  rw [show decide ((0 : Int) < 0) = false from rfl, Bool.xor_false]
  exact Eq.refl _

theorem div_of_zero (q : Int) (h : q ≠ 0) (h1 : -9223372036854775808 ≤ q) (h2 : q ≤ 9223372036854775807) :
    double.div (floatOfInt .f64 0) (floatOfInt .f64 q) = some (wd (decide (q < 0)) 0) := by
  rw [floatOfInt_any q, floatOfInt_any 0]
  have e0 : (0 : Int).natAbs = 0 := rfl
  rw [e0, ofNat_zero, div_fin _ _ _ _ (by decide) (ofNat_fin (by omega)), mg_zero]
  have hm : mg (ofNat q.natAbs) ≠ 0 := mg_pos (Nat.lt_of_lt_of_le ofNat_one (ofNat_mono (by omega)))
  unfold Datum.quotient
  dsimp only
  rw [if_neg hm, Nat.zero_shiftLeft, Nat.zero_div, Nat.zero_mod]
  simp only [Option.map_some, Format.write]
  rw [show decide ((0 : Int) < 0) = false from rfl, Bool.false_xor]
  unfold Format.nearest
  rw [if_pos (by rfl)]
  exact Eq.refl _

theorem div_some (p q : Int) (h : q ≠ 0) (hp1 : -9223372036854775808 ≤ p) (hp2 : p ≤ 9223372036854775807) (h1 : -9223372036854775808 ≤ q) (h2 : q ≤ 9223372036854775807) :
    ∃ b, double.div (floatOfInt .f64 p) (floatOfInt .f64 q) = some b := by
  rw [floatOfInt_any p, floatOfInt_any q, div_fin _ _ _ _ (ofNat_fin (by omega)) (ofNat_fin (by omega))]
  have hm : mg (ofNat q.natAbs) ≠ 0 := mg_pos (Nat.lt_of_lt_of_le ofNat_one (ofNat_mono (by omega)))
  unfold Datum.quotient
  dsimp only
  rw [if_neg hm]
  exact ⟨_, rfl⟩

theorem div_rate (p q : Int) (hp : 0 < p) (hpq : p ≤ q) (hq : q ≤ 1099511627776) :
    ∃ x, x < 9223372036854775808 ∧ double.div (floatOfInt .f64 p) (floatOfInt .f64 q) = some (wd false x) ∧ ptsE false x = 0 ∧ p * 10000 / q ≤ ptsN false x ∧ ptsN false x ≤ p * 10000 / q + 1 ∧ ptsN false x ≤ 10000 := by
  obtain ⟨x, h1, h2, h3, h4, h5, h6⟩ := quo_rate p.toNat q.toNat (by omega) (by omega) (by omega)
  have hi : infR < 9223372036854775808 := by decide
  have n1 : ¬ infR < x := by omega
  have n2 : ¬ x = 0 := by omega
  have n3 : ¬ x = infR := by omega
  have eN : ptsN false x = (Np x : Int) := by
    unfold ptsN; rw [if_neg n1, if_neg n2]; simp only [Bool.false_eq_true, if_false]; rw [if_neg n3, if_neg h4]
  have eE : ptsE false x = 0 := by
    unfold ptsE; rw [if_neg n1, if_neg n2]; simp only [Bool.false_eq_true, if_false]; rw [if_neg n3, if_neg h4]
  have ed : p * 10000 / q = ((p.toNat * 10000 / q.toNat : Nat) : Int) := by
    rw [Int.natCast_ediv, Int.natCast_mul, show ((10000 : Nat) : Int) = 10000 from rfl, Int.toNat_of_nonneg (by omega), Int.toNat_of_nonneg (by omega)]
  refine ⟨x, by omega, ?_, eE, ?_, ?_, ?_⟩
  · rw [floatOfInt_any p, floatOfInt_any q, decide_eq_false (by omega), decide_eq_false (by omega), show p.natAbs = p.toNat from by omega, show q.natAbs = q.toNat from by omega]
    exact h3
  · rw [eN, ed]; omega
  · rw [eN, ed]; omega
  · rw [eN]; omega

set_option maxHeartbeats 1600000 in
theorem ratios_walk (p q : Int) (w : World) (hp1 : -9223372036854775808 ≤ p) (hp2 : p ≤ 9223372036854775807) (h1 : -9223372036854775808 ≤ q) (h2 : q ≤ 9223372036854775807) :
    Calls Tryd.prog 5 #[.int .i64 p, .int .i64 q] w fun e w' => e = .returned (.bool true) ∧ Below w.heap.size w w' := by
  have HL := Lib.hid (lives_any w)
  by_cases hq : q = 0
  · subst hq
    by_cases hp : p = 0
    · subst hp
      clear hp1 hp2 h1 h2
      go_enter Tryd.func5, Tryd.ntmps5
      go_wp2_with fail
      refine HL.out.mono ?_
      rintro e w1 ⟨rfl, k, rfl⟩
      have H3 := Lib.hid (ratio_nan (w.drewN k))
      go_wp2_with fail
      refine H3.out.mono ?_
      rintro e w1 ⟨s, r, n1, n2, rfl, rfl⟩
      have ho := of_any s r (w.drewN k).drew n2
      rw [show kindN r = 0 from by unfold kindN; rw [if_pos n1]] at ho
      have H4 := Lib.hid ho
      have H5 := Lib.hid (text_nan s r (w.drewN k).drew n1 n2)
      clear ho n1 n2
      go_wp2_with fail
      refine H4.out.mono ?_
      rintro e w2 ⟨rfl, rfl⟩
      go_wp2_with fail
      refine H5.out.mono ?_
      rintro e w2 ⟨rfl, rfl⟩
      go_wp2
      go_ret
      exact ⟨rfl, (below_drewN (Below.refl _ _) _).drew⟩
    · have t1 : (p == 0) = false := by simpa using hp
      have hi : infR < 9223372036854775808 := by decide
      have hd := div_by_zero p hp hp1 hp2
      have R1 : ∀ w, Hid (Calls Tryd.prog 16 #[.int .i64 p, .int .i64 0] w fun e w' => e = .returned (.float .f64 (wd (decide (p < 0)) infR)) ∧ w = w') := fun w => ratio_some p 0 _ w hd
      have R2 := fun w => points_any (decide (p < 0)) infR w hi
      have R3 := fun w => of_any (decide (p < 0)) infR w hi
      rw [show kindN infR = 1 from by decide] at R3
      have R4 : ∀ w, Hid _ := fun w => Lib.hid (R3 w)
      clear R3 hd
      by_cases hs : p < 0
      · rw [decide_eq_true hs] at R1 R2 R4
        rw [show ptsN true infR = 0 from by decide, show ptsE true infR = 1 from by decide] at R2
        have R5 : ∀ w, Hid _ := fun w => Lib.hid (R2 w)
        have t2 : decide (0 < p) = false := decide_eq_false (by omega)
        clear R2 hp hp1 hp2 h1 h2 hi hs
        go_enter Tryd.func5, Tryd.ntmps5
        go_wp2_with fail
        refine HL.out.mono ?_
        rintro e w1 ⟨rfl, k, rfl⟩
        go_wp2_with fail
        refine (R1 _).out.mono ?_
        rintro e w1 ⟨rfl, rfl⟩
        go_wp2_with fail
        refine (R5 _).out.mono ?_
        rintro e w1 ⟨rfl, rfl⟩
        go_wp2_with fail
        refine (R4 _).out.mono ?_
        rintro e w1 ⟨rfl, rfl⟩
        go_wp2
        go_ret
        exact ⟨rfl, below_drewN (Below.refl _ _) _⟩
      · rw [decide_eq_false hs] at R1 R2 R4
        rw [show ptsN false infR = 0 from by decide, show ptsE false infR = 2 from by decide] at R2
        have R5 : ∀ w, Hid _ := fun w => Lib.hid (R2 w)
        have t2 : decide (0 < p) = true := decide_eq_true (by omega)
        clear R2 hp hp1 hp2 h1 h2 hi hs
        go_enter Tryd.func5, Tryd.ntmps5
        go_wp2_with fail
        refine HL.out.mono ?_
        rintro e w1 ⟨rfl, k, rfl⟩
        go_wp2_with fail
        refine (R1 _).out.mono ?_
        rintro e w1 ⟨rfl, rfl⟩
        go_wp2_with fail
        refine (R5 _).out.mono ?_
        rintro e w1 ⟨rfl, rfl⟩
        go_wp2_with fail
        refine (R4 _).out.mono ?_
        rintro e w1 ⟨rfl, rfl⟩
        go_wp2
        go_ret
        exact ⟨rfl, below_drewN (Below.refl _ _) _⟩
  · have tq : (q == 0) = false := by simpa using hq
    by_cases hp : p = 0
    · subst hp
      have hd := div_of_zero q hq h1 h2
      have R1 : ∀ w, Hid (Calls Tryd.prog 16 #[.int .i64 0, .int .i64 q] w fun e w' => e = .returned (.float .f64 (wd (decide (q < 0)) 0)) ∧ w = w') := fun w => ratio_some 0 q _ w hd
      have R3 := fun w => of_any (decide (q < 0)) 0 w (by omega)
      rw [show kindN 0 = 2 from by decide] at R3
      have R4 : ∀ w, Hid _ := fun w => Lib.hid (R3 w)
      obtain ⟨b, hb⟩ : ∃ b, b = decide (q < 0) := ⟨_, rfl⟩
      rw [← hb] at R1 R4
      clear R3 hd hp1 hp2 h1 h2 hq hb
      go_enter Tryd.func5, Tryd.ntmps5
      go_wp2_with fail
      refine HL.out.mono ?_
      rintro e w1 ⟨rfl, k, rfl⟩
      go_wp2_with fail
      refine (R1 _).out.mono ?_
      rintro e w1 ⟨rfl, rfl⟩
      go_wp2_with fail
      refine (R4 _).out.mono ?_
      rintro e w1 ⟨rfl, rfl⟩
      go_wp2
      go_ret
      exact ⟨rfl, below_drewN (Below.refl _ _) _⟩
    · have tp : (p == 0) = false := by simpa using hp
      by_cases hc : p < 0 ∨ q < p ∨ 1099511627776 < q
      · obtain ⟨b, hd⟩ := div_some p q hq hp1 hp2 h1 h2
        have R1 : ∀ w, Hid (Calls Tryd.prog 16 #[.int .i64 p, .int .i64 q] w fun e w' => e = .returned (.float .f64 b) ∧ w = w') := fun w => ratio_some p q _ w hd
        obtain ⟨t1, t2, t3, tt⟩ : ∃ t1 t2 t3, (t1 = decide (p < 0) ∧ t2 = decide (q < p) ∧ t3 = decide (1099511627776 < q)) := ⟨_, _, _, rfl, rfl, rfl⟩
        have hc' : decide (p < 0) = true ∨ (decide (p < 0) = false ∧ (decide (q < p) = true ∨ (decide (q < p) = false ∧ decide (1099511627776 < q) = true))) := by
          simp only [decide_eq_true_eq, decide_eq_false_iff_not]; omega
        clear tt t1 t2 t3 hc hd hp hq hp1 hp2 h1 h2
        rcases hc' with c1 | ⟨c1, c2 | ⟨c2, c3⟩⟩
        all_goals
          go_enter Tryd.func5, Tryd.ntmps5
          go_wp2_with fail
          refine HL.out.mono ?_
          rintro e w1 ⟨rfl, k, rfl⟩
          go_wp2_with fail
          refine (R1 _).out.mono ?_
          rintro e w1 ⟨rfl, rfl⟩
          go_wp2
          go_ret
          exact ⟨rfl, below_drewN (Below.refl _ _) _⟩
      · obtain ⟨x, hx, hd, eE, l1, l2, l3⟩ := div_rate p q (by omega) (by omega) (by omega)
        have R1 : ∀ w, Hid (Calls Tryd.prog 16 #[.int .i64 p, .int .i64 q] w fun e w' => e = .returned (.float .f64 (wd false x)) ∧ w = w') := fun w => ratio_some p q _ w hd
        have R2 := fun w => points_any false x w hx
        rw [eE] at R2
        obtain ⟨N, hN⟩ : ∃ N, N = ptsN false x := ⟨_, rfl⟩
        rw [← hN] at R2 l1 l2 l3
        have R5 : ∀ w, Hid _ := fun w => Lib.hid (R2 w)
        have c1 : decide (p < 0) = false := decide_eq_false (by omega)
        have c2 : decide (q < p) = false := decide_eq_false (by omega)
        have c3 : decide (1099511627776 < q) = false := decide_eq_false (by omega)
        have b1 : 0 < p := by omega
        have b2 : p ≤ 1099511627776 := by omega
        have b3 : 0 < q := by omega
        have b4 : 0 ≤ p * 10000 := by omega
        have hL : 0 ≤ p * 10000 / q := Int.ediv_nonneg b4 (by omega)
        obtain ⟨L, eL⟩ : ∃ L, L = p * 10000 / q := ⟨_, rfl⟩
        have HLq := Lib.hid eL
        have d1 : decide (p * 10000 / q ≤ N) = true := decide_eq_true l1
        have d2 : decide (N ≤ p * 10000 / q + 1) = true := decide_eq_true l2
        clear hc hd hp hq hp1 hp2 h1 h2 hx eE R2 hN eL
        go_enter Tryd.func5, Tryd.ntmps5
        go_wp2_with fail
        refine HL.out.mono ?_
        rintro e w1 ⟨rfl, k, rfl⟩
        go_wp2_with fail
        refine (R1 _).out.mono ?_
        rintro e w1 ⟨rfl, rfl⟩
        go_wp2_with fail
        refine (R5 _).out.mono ?_
        rintro e w1 ⟨rfl, rfl⟩
        go_wp2
        go_ret
        exact ⟨rfl, below_drewN (Below.refl _ _) _⟩
end Go.Proofs.YtagailghjfkafaaDoor
