/-
  Contracts of cmp.isNaN, cmp.Compare and the comparison of money.mostFirst: of two places the one whose number is greater comes first.
-/
import Derived.Test.YtmnhjcfhgcineaaAddA
import Derived.Deep.QuietTactic
import Derived.BigQuiet
import Derived.Deep.LoopGhost
import Derived.Outline
namespace Go.Proofs.Ytmnhjcfhgcineaa
open Go.RowKit

theorem isNaN_any (x : Int) (w : World) : Calls Try.prog 42 #[.int .u64 x] w fun e w' => e = .returned (.bool false) ∧ w = w' := by
  have h : (x != x) = false := by simp
  go_enter Try.func42, Try.ntmps42
  go_wp2
  go_ret
  exact ⟨rfl, rfl⟩

/-- Go's cmp.Compare on numbers. -/
def cmpI (x y : Int) : Int := if x < y then -1 else if y < x then 1 else 0

set_option maxHeartbeats 400000 in
theorem cmp_any (x y : Int) (w : World) : Calls Try.prog 35 #[.int .u64 x, .int .u64 y] w fun e w' => e = .returned (.int .i64 (cmpI x y)) ∧ w' = w := by
  rcases Int.lt_trichotomy x y with h | h | h
  · have e1 : cmpI x y = -1 := if_pos h
    rw [e1]; clear e1
    go_enter Try.func35, Try.ntmps35
    go_wp2_with (go_at_call 42; refine (isNaN_any _ _).mono ?_; rintro e w' ⟨rfl, rfl⟩)
    go_ret
    exact ⟨rfl, rfl⟩
  · subst h
    have e1 : cmpI x x = 0 := by simp [cmpI]
    rw [e1]; clear e1
    have h1 : ¬ x < x := by omega
    go_enter Try.func35, Try.ntmps35
    go_wp2_with (go_at_call 42; refine (isNaN_any _ _).mono ?_; rintro e w' ⟨rfl, rfl⟩)
    go_ret
    exact ⟨rfl, rfl⟩
  · have e1 : cmpI x y = 1 := by unfold cmpI; rw [if_neg (by omega), if_pos h]
    rw [e1]; clear e1
    go_enter Try.func35, Try.ntmps35
    go_wp2_with (go_at_call 42; refine (isNaN_any _ _).mono ?_; rintro e w' ⟨rfl, rfl⟩)
    go_ret
    exact ⟨rfl, rfl⟩

set_option maxHeartbeats 400000 in
theorem mfcmp_any (Bx bK n c i j : Nat) (ki kj : Int) (w : World) (hbox : w.cell? ⟨Bx, 0, none⟩ = some (.slice (some ⟨bK, 0, none⟩) n c)) (hi : i < n) (hj : j < n)
    (hki : w.cell? ⟨bK, i, none⟩ = some (.int .u64 ki)) (hkj : w.cell? ⟨bK, j, none⟩ = some (.int .u64 kj)) :
    Calls Try.prog 34 #[.int .i64 i, .int .i64 j, .pointer (some ⟨Bx, 0, none⟩)] w fun e w' => e = .returned (.int .i64 (cmpI kj ki)) ∧ ∃ m, w' = w.drewN m := by
  have h1 : (0 : Int) ≤ (i : Int) := by omega
  have h2 : (i : Int) < (n : Int) := by omega
  have h3 : (0 : Int) ≤ (j : Int) := by omega
  have h4 : (j : Int) < (n : Int) := by omega
  go_enter Try.func34, Try.ntmps34
  go_wp2
  go_quiet ((go_at_call 35; exact Calls.quiet_of_same (cmp_any _ _ _)))
  go_wp2
  go_ret
  exact ⟨rfl, _, rfl⟩
end Go.Proofs.Ytmnhjcfhgcineaa
