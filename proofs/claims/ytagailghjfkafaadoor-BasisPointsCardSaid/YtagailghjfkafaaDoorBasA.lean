/-
  Contracts of the functions of package math and of package cmp at fractions, and of basis.Of.
-/
import Derived.Test.YtagailghjfkafaaDoorProg
import Derived.WalkKit
import Derived.WalkLawsBesides
import Derived.Laws.Externs
import Derived.Lib.Hide
import Derived.Test.YtagailghjfkafaaDoorFltB
namespace Go.Proofs.YtagailghjfkafaaDoor
open Go.RowKit Ieee

theorem from_run (n : Nat) (w : World) : (callFunc 7 #[.int .u64 (n : Int)]).run Tryd.prog w = .ok (.value (.float .f64 n)) w := by
  rw [run_callFunc_extern Tryd.func7 (by kernel_rfl) (by kernel_rfl) (by kernel_rfl) (e := Extern.MathFloatBits.float64frombits) (by kernel_rfl)]
  rfl
theorem bits_run (n : Nat) (w : World) : (callFunc 31 #[.float .f64 n]).run Tryd.prog w = .ok (.value (.int .u64 (n : Int))) w := by
  rw [run_callFunc_extern Tryd.func31 (by kernel_rfl) (by kernel_rfl) (by kernel_rfl) (e := Extern.MathFloatBits.float64bits) (by kernel_rfl)]
  rfl

/-- a rung rounded to a whole number -/
def rteR (s : Nat) : Nat := if s < infR then ofNat (rne (rv s) E1) else infR

theorem rte_run (s : Nat) (hs : s ≤ infR) (w : World) : (callFunc 17 #[.float .f64 (wd false s)]).run Tryd.prog w = .ok (.value (.float .f64 (wd false (rteR s)))) w := by
  have hi : infR < 9223372036854775808 := by decide
  rw [run_callFunc_extern Tryd.func17 (by kernel_rfl) (by kernel_rfl) (by kernel_rfl) (e := Extern.MathFloor.toIntegral "math.RoundToEven" .even) (by kernel_rfl)]
  have hd : FloatKind.f64.decode (wd false s) = dat false s := read_wd false s (by omega)
  have key : (Extern.MathFloor.toIntegral "math.RoundToEven" .even #[.float .f64 (wd false s)]).run Tryd.prog w = .ok (.float .f64 (wd false (rteR s))) w := by
    change Sem.run Tryd.prog (match FloatKind.f64.decode (wd false s) with | .nan _ _ => _ | d => pure (Value.float .f64 (FloatKind.f64.encode (d.integral .even)))) w = _
    rw [hd]
    by_cases h : s < infR
    · have e1 := integral_even s h
      unfold dat at e1 ⊢
      rw [if_pos h] at e1 ⊢
      simp only [e1]
      have e2 : FloatKind.f64.encode (.number false (rne (rv s) E1) 0) = wd false (ofNat (rne (rv s) E1)) := write_int false _
      rw [e2]
      unfold rteR
      rw [if_pos h]
      exact Eq.refl _
    · have e : s = infR := by omega
      unfold dat rteR
      rw [if_neg h, if_pos e, if_neg h]
      exact Eq.refl _
  rw [key]
  exact Eq.refl _

theorem order_self {s : Bool} {r : Nat} (h : r ≤ infR) : FloatKind.f64.format.order (wd s r) (wd s r) = some .eq := by
  rw [show FloatKind.f64.format = double from rfl, order_wd s s r r h h]
  simp [compare, compareOfLessAndEq]
theorem order_self_nan {s : Bool} {r : Nat} (h : infR < r) (h2 : r < 9223372036854775808) : FloatKind.f64.format.order (wd s r) (wd s r) = none :=
  order_nan_l s s r r h h2 h2

theorem isNaN_no (s : Bool) (r : Nat) (w : World) (h : r ≤ infR) : Calls Tryd.prog 20 #[.float .f64 (wd s r)] w fun e w' => e = .returned (.bool false) ∧ w = w' := by
  have ho := order_self (s := s) h
  go_enter Tryd.func20, Tryd.ntmps20
  go_wp2
  go_ret
  exact ⟨rfl, rfl⟩
theorem isNaN_yes (s : Bool) (r : Nat) (w : World) (h : infR < r) (h2 : r < 9223372036854775808) : Calls Tryd.prog 20 #[.float .f64 (wd s r)] w fun e w' => e = .returned (.bool true) ∧ w = w' := by
  have ho := order_self_nan (s := s) h h2
  go_enter Tryd.func20, Tryd.ntmps20
  go_wp2
  go_ret
  exact ⟨rfl, rfl⟩
theorem cisNaN_no (s : Bool) (r : Nat) (w : World) (h : r ≤ infR) : Calls Tryd.prog 30 #[.float .f64 (wd s r)] w fun e w' => e = .returned (.bool false) ∧ w = w' := by
  have ho := order_self (s := s) h
  go_enter Tryd.func30, Tryd.ntmps30
  go_wp2
  go_ret
  exact ⟨rfl, rfl⟩
theorem cisNaN_yes (s : Bool) (r : Nat) (w : World) (h : infR < r) (h2 : r < 9223372036854775808) : Calls Tryd.prog 30 #[.float .f64 (wd s r)] w fun e w' => e = .returned (.bool true) ∧ w = w' := by
  have ho := order_self_nan (s := s) h h2
  go_enter Tryd.func30, Tryd.ntmps30
  go_wp2
  go_ret
  exact ⟨rfl, rfl⟩

theorem wd_lt (s : Bool) {r : Nat} (h : r < 9223372036854775808) : wd s r < 18446744073709551616 := by
  cases s <;> simp only [wd, Bool.false_eq_true, if_false, if_true] <;> omega

theorem and_low (x : Nat) : x &&& 9223372036854775807 = x % 9223372036854775808 := Nat.and_two_pow_sub_one_eq_mod x 63

theorem wd_mod (s : Bool) {r : Nat} (h : r < 9223372036854775808) : wd s r % 9223372036854775808 = r := by
  cases s <;> simp only [wd, Bool.false_eq_true, if_false, if_true] <;> omega

theorem abs_bits (s : Bool) (r : Nat) (h : r < 9223372036854775808) : bits .andNot .u64 ((wd s r : Nat) : Int) 9223372036854775808 = (r : Int) := by
  have := u64_andNot_nat (wd s r) 9223372036854775808 (wd_lt s h) (by omega)
  rw [show ((9223372036854775808 : Nat) : Int) = 9223372036854775808 from rfl] at this
  rw [this, show 18446744073709551615 - 9223372036854775808 = 9223372036854775807 from rfl, and_low, wd_mod s h]

theorem abs_any (s : Bool) (r : Nat) (w : World) (h : r < 9223372036854775808) : Calls Tryd.prog 28 #[.float .f64 (wd s r)] w fun e w' => e = .returned (.float .f64 (wd false r)) ∧ w = w' := by
  have h1 := bits_run (wd s r)
  have h2 := from_run r
  have h3 := abs_bits s r h
  have e : wd false r = r := rfl
  rw [e]
  clear e
  go_enter Tryd.func28, Tryd.ntmps28
  go_wp2
  go_ret
  exact ⟨rfl, rfl⟩
end Go.Proofs.YtagailghjfkafaaDoor
