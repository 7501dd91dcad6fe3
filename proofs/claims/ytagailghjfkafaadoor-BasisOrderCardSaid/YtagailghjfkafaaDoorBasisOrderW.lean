/-
  The walk of souklaw02.BasisOrder.
-/
import Derived.Test.YtagailghjfkafaaDoorBasI
namespace Go.Proofs.YtagailghjfkafaaDoor
open Go.RowKit Ieee

theorem ordB_key (s : Bool) (r : Nat) (t : Bool) (q : Nat) : ordB s r t q = if keyN s r < keyN t q then -1 else if keyN t q < keyN s r then 1 else 0 := by
  unfold ordB ordC keyN sr infR
  cases s <;> cases t <;> simp only [Bool.false_eq_true, if_false, if_true] <;> (repeat' split) <;> omega

theorem ordB_facts (s : Bool) (r : Nat) (t : Bool) (q : Nat) (u : Bool) (v : Nat) :
    ordB s r t q = -ordB t q s r ∧ ordB s r s r = 0 ∧ (0 < ordB s r t q ∨ 0 < ordB t q u v ∨ ordB s r u v ≤ 0) ∧ -1 ≤ ordB t q s r ∧ ordB t q s r ≤ 1 := by
  simp only [ordB_key]
  refine ⟨?_, ?_, ?_, ?_, ?_⟩ <;> (repeat' split) <;> omega

set_option maxHeartbeats 1600000 in
theorem order_walk (s : Bool) (r : Nat) (t : Bool) (q : Nat) (u : Bool) (v : Nat) (w : World) (hr : r < 9223372036854775808) (hq : q < 9223372036854775808) (hv : v < 9223372036854775808) :
    Calls Tryd.prog 4 #[.int .u64 ((wd s r : Nat) : Int), .int .u64 ((wd t q : Nat) : Int), .int .u64 ((wd u v : Nat) : Int)] w fun e w' => e = .returned (.bool true) ∧ Below w.heap.size w w' := by
  have HL := Lib.hid (lives_any w)
  have f1 := from_run (wd s r)
  have f2 := from_run (wd t q)
  have f3 := from_run (wd u v)
  have C1 : ∀ w, Hid (Calls Tryd.prog 14 #[.float .f64 (wd s r), .float .f64 (wd t q)] w fun e w' => e = .returned (.int .i64 (ordB s r t q)) ∧ w = w') := fun w => compare_any s r t q w hr hq
  have C2 : ∀ w, Hid (Calls Tryd.prog 14 #[.float .f64 (wd t q), .float .f64 (wd u v)] w fun e w' => e = .returned (.int .i64 (ordB t q u v)) ∧ w = w') := fun w => compare_any t q u v w hq hv
  have C3 : ∀ w, Hid (Calls Tryd.prog 14 #[.float .f64 (wd s r), .float .f64 (wd u v)] w fun e w' => e = .returned (.int .i64 (ordB s r u v)) ∧ w = w') := fun w => compare_any s r u v w hr hv
  have C4 : ∀ w, Hid (Calls Tryd.prog 14 #[.float .f64 (wd t q), .float .f64 (wd s r)] w fun e w' => e = .returned (.int .i64 (ordB t q s r)) ∧ w = w') := fun w => compare_any t q s r w hq hr
  have C5 : ∀ w, Hid (Calls Tryd.prog 14 #[.float .f64 (wd s r), .float .f64 (wd s r)] w fun e w' => e = .returned (.int .i64 (ordB s r s r)) ∧ w = w') := fun w => compare_any s r s r w hr hr
  have C6 : ∀ w, Hid (Calls Tryd.prog 15 #[.int .u64 ((wd s r : Nat) : Int), .int .u64 ((wd t q : Nat) : Int)] w fun e w' => e = .returned (.int .i64 (ordB s r t q)) ∧ w = w') := fun w => rcompare_any s r t q w hr hq
  obtain ⟨e1, e2, e3, e4, e5⟩ := ordB_facts s r t q u v
  rw [e2] at C5
  obtain ⟨X, hX⟩ : ∃ X, X = ordB s r t q := ⟨_, rfl⟩
  obtain ⟨Y, hY⟩ : ∃ Y, Y = ordB t q u v := ⟨_, rfl⟩
  obtain ⟨Z, hZ⟩ : ∃ Z, Z = ordB s r u v := ⟨_, rfl⟩
  obtain ⟨X', hX'⟩ : ∃ X', X' = ordB t q s r := ⟨_, rfl⟩
  rw [← hX] at C1 C6 e1 e3
  rw [← hY] at C2 e3
  rw [← hZ] at C3 e3
  rw [← hX'] at C4 e1 e4 e5
  have t1 : (X == -X') = true := by simp [e1]
  have HE := Lib.hid e3
  clear hX hY hZ hX' e1 e2 e3 hr hq hv
  go_enter Tryd.func4, Tryd.ntmps4
  go_wp2_with fail
  refine HL.out.mono ?_
  rintro e w1 ⟨rfl, k, rfl⟩
  go_wp2_with fail
  refine (C1 _).out.mono ?_
  rintro e w' ⟨rfl, rfl⟩
  go_wp2_with fail
  refine (C2 _).out.mono ?_
  rintro e w' ⟨rfl, rfl⟩
  go_wp2_with fail
  refine (C3 _).out.mono ?_
  rintro e w' ⟨rfl, rfl⟩
  go_wp2_with fail
  refine (C6 _).out.mono ?_
  rintro e w' ⟨rfl, rfl⟩
  go_wp2_with fail
  refine (C4 _).out.mono ?_
  rintro e w' ⟨rfl, rfl⟩
  by_cases c1 : 0 < X
  · have u1 : decide (0 < X) = true := decide_eq_true c1
    clear c1
    go_wp2_with fail
    refine (C5 _).out.mono ?_
    rintro e w' ⟨rfl, rfl⟩
    go_wp2
    go_ret
    exact ⟨rfl, below_drewN (Below.refl _ _) _⟩
  · have u1 : decide (0 < X) = false := decide_eq_false c1
    by_cases c2 : 0 < Y
    · have u2 : decide (0 < Y) = true := decide_eq_true c2
      clear c1 c2
      go_wp2_with fail
      refine (C5 _).out.mono ?_
      rintro e w' ⟨rfl, rfl⟩
      go_wp2
      go_ret
      exact ⟨rfl, below_drewN (Below.refl _ _) _⟩
    · have u2 : decide (0 < Y) = false := decide_eq_false c2
      have u3 : decide (Z ≤ 0) = true := decide_eq_true (by have := HE.out; omega)
      clear c1 c2
      go_wp2_with fail
      refine (C5 _).out.mono ?_
      rintro e w' ⟨rfl, rfl⟩
      go_wp2
      go_ret
      exact ⟨rfl, below_drewN (Below.refl _ _) _⟩
end Go.Proofs.YtagailghjfkafaaDoor
