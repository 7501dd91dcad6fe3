/-
  Contracts of basis.Points and of the document's Rounded and Points.
-/
import Derived.Test.YtagailghjfkafaaDoorBasC
namespace Go.Proofs.YtagailghjfkafaaDoor
open Go.RowKit Ieee

/-- a positive fraction's rate, if it is not above 10000 -/
def Np (r : Nat) : Nat := if prod r < infR then rne (rv (prod r)) E1 else 20001
def ptsE (s : Bool) (r : Nat) : Int := if infR < r then 1 else if r = 0 then 0 else if s then 1 else if r = infR then 2 else if 10000 < Np r then 2 else 0
def ptsN (s : Bool) (r : Nat) : Int := if infR < r then 0 else if r = 0 then 0 else if s then 0 else if r = infR then 0 else if 10000 < Np r then 0 else (Np r : Int)

theorem prod_le (r : Nat) : prod r ≤ infR := by unfold prod nrs; omega
theorem ofNat_le (n : Nat) : ofNat n ≤ infR := by unfold ofNat nrs; omega
theorem rteR_le (s : Nat) : rteR s ≤ infR := by
  unfold rteR
  split
  · exact ofNat_le _
  · exact Nat.le_refl _

theorem over_iff (r : Nat) : tenK < rteR (prod r) ↔ 10000 < Np r := by
  unfold rteR Np
  by_cases h : prod r < infR
  · rw [if_pos h, if_pos h]; exact ofNat_over _
  · rw [if_neg h, if_neg h]; exact ⟨fun _ => by omega, fun _ => by decide⟩

theorem toInt_wd {g : Nat} (hg : g < infR) {n : Nat} (hn : rv g / 2 ^ E1 = n) (hb : n < 9007199254740992) : floatToIntVal .f64 (wd false g) .i64 = some (n : Int) := by
  have hi : infR < 9223372036854775808 := by decide
  unfold floatToIntVal
  have e : FloatKind.f64.decode (wd false g) = dat false g := read_wd false g (by omega)
  rw [e, toInt_zero g hg, hn]
  have h1 : IntKind.i64.min ≤ (n : Int) ∧ (n : Int) ≤ IntKind.i64.max := by
    have m1 : IntKind.i64.min = -9223372036854775808 := by decide
    have m2 : IntKind.i64.max = 9223372036854775807 := by decide
    rw [m1, m2]; omega
  simp only [h1, and_self, if_true]

theorem toInt_pts (r : Nat) (h : ¬ 10000 < Np r) : floatToIntVal .f64 (wd false (rteR (prod r))) .i64 = some (Np r : Int) := by
  have hp : prod r < infR := by
    rcases Nat.lt_or_ge (prod r) infR with h1 | h1
    · exact h1
    · unfold Np at h; rw [if_neg (by omega)] at h; omega
  have e : Np r = rne (rv (prod r)) E1 := by unfold Np; rw [if_pos hp]
  have e2 : rteR (prod r) = ofNat (Np r) := by unfold rteR; rw [if_pos hp, e]
  rw [e2]
  obtain ⟨h1, h2⟩ := rv_ofNat (n := Np r) (by omega)
  exact toInt_wd h1 (by rw [h2, Nat.mul_div_cancel _ two1074]) (by omega)

theorem mul_run (r : Nat) (hr : r < infR) (t : TypeId) (w : World) : (binOp .mul t (.float .f64 (wd false r)) (.float .f64 4666723172467343360)).run Tryd.prog w = .ok (.float .f64 (wd false (prod r))) w :=
  run_float_arith w .mul t .f64 _ _ _ (mul_tenK r hr)

theorem conv_int_run (b : Nat) (n : Int) (h : floatToIntVal .f64 b .i64 = some n) (w : World) : (convert 24 2 (.float .f64 b)).run Tryd.prog w = .ok (.int .i64 n) w :=
  run_convert_float_int w 24 2 .f64 .i64 b n (by rw [Tryd.underlying24]; rfl) Tryd.underlying2 h

theorem points_any (s : Bool) (r : Nat) (w : World) (h : r < 9223372036854775808) :
    Calls Tryd.prog 8 #[.float .f64 (wd s r)] w fun e w' => e = .returned (.tuple #[.int .i64 (ptsN s r), .int .i64 (ptsE s r)]) ∧ w = w' := by
  have HO := of_any s r w h
  unfold ptsN ptsE
  by_cases h1 : infR < r
  · rw [show kindN r = 0 from by unfold kindN; rw [if_pos h1]] at HO
    rw [if_pos h1, if_pos h1]
    have H1 := Lib.hid HO
    clear HO h1 h
    go_enter Tryd.func8, Tryd.ntmps8
    go_wp2_with fail
    refine H1.out.mono ?_
    rintro e w' ⟨rfl, rfl⟩
    go_wp2
    go_ret2
    exact ⟨rfl, rfl⟩
  · rw [if_neg h1, if_neg h1]
    by_cases h2 : r = 0
    · rw [show kindN r = 2 from by unfold kindN; rw [if_neg h1, if_neg (by unfold infR; omega), if_pos h2]] at HO
      rw [if_pos h2, if_pos h2]
      have H1 := Lib.hid HO
      clear HO h1 h h2
      go_enter Tryd.func8, Tryd.ntmps8
      go_wp2_with fail
      refine H1.out.mono ?_
      rintro e w' ⟨rfl, rfl⟩
      go_wp2
      go_ret2
      exact ⟨rfl, rfl⟩
    · rw [if_neg h2, if_neg h2]
      have og := o_gt s false (r := r) (q := 0) (by omega) (by omega)
      have ol := o_lt s false (r := r) (q := 0) (by omega) (by omega)
      rw [show wd false 0 = 0 from rfl] at og ol
      have i0 : sr false 0 = 0 := rfl
      by_cases h3 : r = infR
      · rw [show kindN r = 1 from by unfold kindN; rw [if_neg h1, if_pos h3]] at HO
        rw [if_pos h3, if_pos h3]
        have H1 := Lib.hid HO
        cases s
        · rw [decide_eq_true (by rw [i0]; simp only [sr, Bool.false_eq_true, if_false]; omega)] at og
          simp only [Bool.false_eq_true, if_false]
          clear HO h1 h h2 h3 ol
          go_enter Tryd.func8, Tryd.ntmps8
          go_wp2_with fail
          refine H1.out.mono ?_
          rintro e w' ⟨rfl, rfl⟩
          go_wp2
          go_ret2
          exact ⟨rfl, rfl⟩
        · rw [decide_eq_false (by rw [i0]; simp only [sr, if_true]; omega)] at og
          simp only [if_true]
          clear HO h1 h h2 h3 ol
          go_enter Tryd.func8, Tryd.ntmps8
          go_wp2_with fail
          refine H1.out.mono ?_
          rintro e w' ⟨rfl, rfl⟩
          go_wp2
          go_ret2
          exact ⟨rfl, rfl⟩
      · rw [show kindN r = 3 from by unfold kindN; rw [if_neg h1, if_neg h3, if_neg h2]] at HO
        rw [if_neg h3, if_neg h3]
        have H1 := Lib.hid HO
        cases s
        · rw [decide_eq_false (by rw [i0]; simp only [sr, Bool.false_eq_true, if_false]; omega)] at ol
          simp only [Bool.false_eq_true, if_false]
          have hm := mul_run r (by omega)
          have hr := rte_run (prod r) (prod_le r)
          have ot := o_gt false false (rteR_le (prod r)) (show tenK ≤ infR by decide)
          rw [show wd false tenK = 4666723172467343360 from rfl] at ot
          by_cases h4 : 10000 < Np r
          · rw [if_pos h4, if_pos h4]
            rw [decide_eq_true (by have := (over_iff r).mpr h4; simp only [sr, Bool.false_eq_true, if_false]; omega)] at ot
            clear HO h1 h h2 h3 og h4 i0
            go_enter Tryd.func8, Tryd.ntmps8
            go_wp2_with fail
            refine H1.out.mono ?_
            rintro e w' ⟨rfl, rfl⟩
            go_wp2
            go_ret2
            exact ⟨rfl, rfl⟩
          · rw [if_neg h4, if_neg h4]
            rw [decide_eq_false (by have := over_iff r; simp only [sr, Bool.false_eq_true, if_false]; omega)] at ot
            have hc := conv_int_run _ _ (toInt_pts r h4)
            clear HO h1 h h2 h3 og h4 i0
            go_enter Tryd.func8, Tryd.ntmps8
            go_wp2_with fail
            refine H1.out.mono ?_
            rintro e w' ⟨rfl, rfl⟩
            go_wp2
            go_ret2
            exact ⟨rfl, rfl⟩
        · rw [decide_eq_true (by rw [i0]; simp only [sr, if_true]; omega)] at ol
          simp only [if_true]
          clear HO h1 h h2 h3 og i0
          go_enter Tryd.func8, Tryd.ntmps8
          go_wp2_with fail
          refine H1.out.mono ?_
          rintro e w' ⟨rfl, rfl⟩
          go_wp2
          go_ret2
          exact ⟨rfl, rfl⟩
end Go.Proofs.YtagailghjfkafaaDoor
