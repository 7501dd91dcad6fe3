/-
  Contracts of the document's Rounded and Points.
-/
import Derived.Test.YtagailghjfkafaaDoorBasD
namespace Go.Proofs.YtagailghjfkafaaDoor
open Go.RowKit Ieee

theorem floatOfInt_nat (n : Nat) : floatOfInt .f64 (n : Int) = wd false (ofNat n) := by
  unfold floatOfInt FloatKind.nearest
  have e : FloatKind.f64.encode (.number (decide ((n : Int) < 0)) (n : Int).natAbs 0) = double.write (.number (decide ((n : Int) < 0)) (n : Int).natAbs 0) := rfl
  rw [e, write_int, Int.natAbs_natCast, decide_eq_false (by omega)]

theorem prod_two : prod 4611686018427387904 = ofNat 20000 := by decide +kernel

theorem rv_mono {a b : Nat} (h : a ≤ b) : rv a ≤ rv b := rv_le_iff.mpr h

theorem prod_mono {a b : Nat} (h : a ≤ b) : prod a ≤ prod b := nrs_mono (Nat.mul_le_mul_right _ (Nat.mul_le_mul_right _ (rv_mono h)))

theorem over_two {r : Nat} (h : 4611686018427387904 < r) : 10000 < Np r := by
  have h1 := prod_mono (Nat.le_of_lt h)
  rw [prod_two] at h1
  unfold Np
  split
  · have h2 := rv_mono h1
    rw [(rv_ofNat (n := 20000) (by omega)).2] at h2
    have h3 := rne_mono h2 E1
    rw [rne_exact] at h3
    omega
  · omega

theorem le_two {r : Nat} (h : ¬ 4611686018427387904 < r) : prod r ≤ ofNat 20000 := by
  rw [← prod_two]; exact prod_mono (by omega)

theorem small_rung {g : Nat} (h : g ≤ ofNat 20000) : g < infR ∧ rv g / 2 ^ E1 ≤ 20000 := by
  obtain ⟨h1, h2⟩ := rv_ofNat (n := 20000) (by omega)
  refine ⟨by omega, ?_⟩
  have h3 := rv_mono h
  rw [h2] at h3
  exact Nat.div_le_of_le_mul (by rw [Nat.mul_comm]; exact h3)

set_option maxHeartbeats 400000 in
theorem rounded_any (g : Nat) (w : World) (h : g ≤ ofNat 20000) :
    Calls Tryd.prog 19 #[.float .f64 (wd false g)] w fun e w' => e = .returned (.int .i64 (rne (rv g) E1 : Nat)) ∧ w = w' := by
  obtain ⟨h1, h2⟩ := small_rung h
  obtain ⟨n, hn⟩ : ∃ n, n = rv g / 2 ^ E1 := ⟨_, rfl⟩
  have hr := rounded g
  have hs := sub_whole g h1 (by omega)
  rw [← hn] at h2 hr hs
  have hc := conv_int_run _ _ (toInt_wd h1 hn.symm (by omega))
  have hf := floatOfInt_nat n
  have hsub : ∀ t w, (binOp .sub t (.float .f64 (wd false g)) (.float .f64 (wd false (ofNat n)))).run Tryd.prog w = .ok (.float .f64 (wd false (restR g))) w := fun t w => run_float_arith w .sub t .f64 _ _ _ hs
  have hrest := (restR_fin g).1
  have og := o_gt false false (Nat.le_of_lt hrest) (show halfR ≤ infR by decide)
  have oe := o_eq false false (Nat.le_of_lt hrest) (show halfR ≤ infR by decide)
  rw [show wd false halfR = 4602678819172646912 from rfl] at og oe
  simp only [sr, Bool.false_eq_true, if_false] at og oe
  have hn0 : (0 : Int) ≤ (n : Int) := by omega
  have hn1 : (n : Int) ≤ 20000 := by omega
  by_cases c1 : halfR < restR g
  · rw [decide_eq_true (by omega)] at og
    rw [if_pos (Or.inl c1)] at hr
    rw [hr]
    clear c1 hrest hs h1 h2 hn hr h oe
    go_enter Tryd.func19, Tryd.ntmps19
    go_wp2
    go_ret
    exact ⟨by first | rfl | (congr 1), rfl⟩
  · rw [decide_eq_false (by omega)] at og
    by_cases c2 : restR g = halfR
    · rw [decide_eq_true (by omega)] at oe
      by_cases c3 : n % 2 = 1
      · have t3 : ((n : Int) % 2 == 1) = true := by simp; omega
        rw [if_pos (Or.inr ⟨c2, c3⟩)] at hr
        rw [hr]
        clear c1 hrest hs h1 h2 hn hr h c2 c3
        go_enter Tryd.func19, Tryd.ntmps19
        go_wp2
        go_ret
        exact ⟨by first | rfl | (congr 1), rfl⟩
      · have t3 : ((n : Int) % 2 == 1) = false := by simp; omega
        rw [if_neg (by omega), Nat.add_zero] at hr
        rw [hr]
        clear c1 hrest hs h1 h2 hn hr h c2 c3
        go_enter Tryd.func19, Tryd.ntmps19
        go_wp2
        go_ret
        exact ⟨rfl, rfl⟩
    · rw [decide_eq_false (by omega)] at oe
      rw [if_neg (by omega), Nat.add_zero] at hr
      rw [hr]
      clear c1 hrest hs h1 h2 hn hr h c2
      go_enter Tryd.func19, Tryd.ntmps19
      go_wp2
      go_ret
      exact ⟨rfl, rfl⟩

theorem rpoints_any (s : Bool) (r : Nat) (w : World) (h : r < 9223372036854775808) :
    Calls Tryd.prog 9 #[.float .f64 (wd s r), .int .u64 ((wd s r : Nat) : Int)] w fun e w' => e = .returned (.tuple #[.int .i64 (ptsN s r), .int .i64 (ptsE s r)]) ∧ w = w' := by
  have HO := kind_any s r w h
  have HN := negative_any s r w h
  unfold ptsN ptsE
  by_cases h1 : infR < r
  · rw [show kindN r = 0 from by unfold kindN; rw [if_pos h1]] at HO
    rw [if_pos h1, if_pos h1]
    have H1 := Lib.hid HO
    clear HO h1 h HN
    go_enter Tryd.func9, Tryd.ntmps9
    go_wp2_with fail
    refine H1.out.mono ?_
    rintro e w' ⟨rfl, rfl⟩
    go_wp2
    go_ret2
    exact ⟨rfl, rfl⟩
  · rw [if_neg h1, if_neg h1]
    by_cases h2 : r = 0
    · rw [show kindN r = 2 from by unfold kindN; rw [if_neg h1, if_neg (by unfold infR; omega), if_pos h2]] at HO
      rw [if_pos h2, if_pos h2]
      have H1 := Lib.hid HO
      clear HO h1 h h2 HN
      go_enter Tryd.func9, Tryd.ntmps9
      go_wp2_with fail
      refine H1.out.mono ?_
      rintro e w' ⟨rfl, rfl⟩
      go_wp2
      go_ret2
      exact ⟨rfl, rfl⟩
    · rw [if_neg h2, if_neg h2]
      have hk0 : (kindN r == 0) = false := by unfold kindN; rw [if_neg h1, if_neg h2]; split <;> rfl
      have hk2 : (kindN r == 2) = false := by unfold kindN; rw [if_neg h1, if_neg h2]; split <;> rfl
      cases s
      · simp only [Bool.false_eq_true, if_false]
        by_cases h3 : r = infR
        · rw [show kindN r = 1 from by unfold kindN; rw [if_neg h1, if_pos h3]] at HO
          rw [if_pos h3, if_pos h3]
          have H1 := Lib.hid HO
          have H2 := Lib.hid HN
          clear HO h1 h h2 h3 HN hk0 hk2
          go_enter Tryd.func9, Tryd.ntmps9
          go_wp2_with fail
          refine H1.out.mono ?_
          rintro e w' ⟨rfl, rfl⟩
          go_wp2_with fail
          refine H2.out.mono ?_
          rintro e w' ⟨rfl, rfl⟩
          go_wp2
          go_ret2
          exact ⟨rfl, rfl⟩
        · rw [show kindN r = 3 from by unfold kindN; rw [if_neg h1, if_neg h3, if_neg h2]] at HO
          rw [if_neg h3, if_neg h3]
          have H1 := Lib.hid HO
          have H2 := Lib.hid HN
          have og := o_gt false false (r := r) (q := 4611686018427387904) (by omega) (by decide)
          rw [show wd false 4611686018427387904 = 4611686018427387904 from rfl] at og
          simp only [sr, Bool.false_eq_true, if_false] at og
          have hm := mul_run r (by omega)
          by_cases h4 : 4611686018427387904 < r
          · rw [decide_eq_true (by omega)] at og
            rw [if_pos (over_two h4), if_pos (over_two h4)]
            clear HO h1 h h2 h3 HN hk0 hk2 h4 hm
            go_enter Tryd.func9, Tryd.ntmps9
            go_wp2_with fail
            refine H1.out.mono ?_
            rintro e w' ⟨rfl, rfl⟩
            go_wp2_with fail
            refine H2.out.mono ?_
            rintro e w' ⟨rfl, rfl⟩
            go_wp2
            go_ret2
            exact ⟨rfl, rfl⟩
          · rw [decide_eq_false (by omega)] at og
            have hp := le_two h4
            have e : Np r = rne (rv (prod r)) E1 := by unfold Np; rw [if_pos (small_rung hp).1]
            have H3 := rounded_any (prod r) w hp
            rw [← e] at H3
            have H4 := Lib.hid H3
            by_cases h5 : 10000 < Np r
            · rw [if_pos h5, if_pos h5]
              have t5 : decide ((10000 : Int) < (Np r : Int)) = true := decide_eq_true (by omega)
              clear HO h1 h h2 h3 HN hk0 hk2 h4 hp e H3 h5
              go_enter Tryd.func9, Tryd.ntmps9
              go_wp2_with fail
              refine H1.out.mono ?_
              rintro e w' ⟨rfl, rfl⟩
              go_wp2_with fail
              refine H2.out.mono ?_
              rintro e w' ⟨rfl, rfl⟩
              go_wp2_with fail
              refine H4.out.mono ?_
              rintro e w' ⟨rfl, rfl⟩
              go_wp2
              go_ret2
              exact ⟨rfl, rfl⟩
            · rw [if_neg h5, if_neg h5]
              have t5 : decide ((10000 : Int) < (Np r : Int)) = false := decide_eq_false (by omega)
              clear HO h1 h h2 h3 HN hk0 hk2 h4 hp e H3 h5
              go_enter Tryd.func9, Tryd.ntmps9
              go_wp2_with fail
              refine H1.out.mono ?_
              rintro e w' ⟨rfl, rfl⟩
              go_wp2_with fail
              refine H2.out.mono ?_
              rintro e w' ⟨rfl, rfl⟩
              go_wp2_with fail
              refine H4.out.mono ?_
              rintro e w' ⟨rfl, rfl⟩
              go_wp2
              go_ret2
              exact ⟨rfl, rfl⟩
      · simp only [if_true]
        obtain ⟨k, hkk⟩ : ∃ k, k = kindN r := ⟨_, rfl⟩
        rw [← hkk] at HO hk0 hk2
        have H1 := Lib.hid HO
        have H2 := Lib.hid HN
        clear HO h1 h h2 HN hkk
        go_enter Tryd.func9, Tryd.ntmps9
        go_wp2_with fail
        refine H1.out.mono ?_
        rintro e w' ⟨rfl, rfl⟩
        go_wp2_with fail
        refine H2.out.mono ?_
        rintro e w' ⟨rfl, rfl⟩
        go_wp2
        go_ret2
        exact ⟨rfl, rfl⟩
end Go.Proofs.YtagailghjfkafaaDoor
