/-
  Contracts of dial.Period, IsCut, Next, Backoff, and of the document's: what each answers, for all ticks and tries.
-/
import Derived.Test.YtoobomfankhjnaaProg
import Derived.WalkKit
import Derived.WalkLawsBesides
import Derived.WalkMore
import Derived.Below
import Derived.OpenShut
import Derived.IntWalk
import Derived.Deep.LoopGhost
import Derived.Lib.Hide
namespace Go.Proofs.Ytoobomfankhjnaa
open Go.RowKit

/-- A tick, or a number of tries. -/
def Tk (n : Int) : Prop := -9223372036854775808 ≤ n ∧ n ≤ 9223372036854775807
theorem Tk.of_wf {n : Int} (h : (Lit.int .i64 n).wf = true) : Tk n := bounds_i64 h

/-- how many cut-offs are up to a tick -/
def perI (n : Int) : Int := if n < 0 then 0 else n / 8
/-- is a tick a cut-off? -/
def cutI (n : Int) : Bool := decide (0 < n) && (n % 8 == 0)
/-- how long is waited -/
def bkoI (n : Int) : Int := if n ≤ 0 then 1 else if n = 1 then 2 else if n = 2 then 4 else 8

theorem bkoI_le (n : Int) : 1 ≤ bkoI n ∧ bkoI n ≤ 8 := by unfold bkoI; repeat' split <;> omega
theorem bkoI_mono (n : Int) : bkoI (n - 1) ≤ bkoI n := by unfold bkoI; repeat' split <;> omega
theorem perI_le {n : Int} (h : Tk n) : 0 ≤ perI n ∧ perI n ≤ 1152921504606846975 := by unfold Tk at h; unfold perI; split <;> omega

theorem period_any (n : Int) (w : World) (h : Tk n) :
    Calls Try.prog 6 #[.int .i64 n] w fun e w' => e = .returned (.int .i64 (perI n)) ∧ w = w' := by
  unfold Tk at h
  unfold perI
  by_cases h0 : n < 0
  · rw [if_pos h0]
    go_enter Try.func6, Try.ntmps6
    go_wp2
    go_ret
    exact ⟨rfl, rfl⟩
  · rw [if_neg h0]
    go_enter Try.func6, Try.ntmps6
    go_wp2
    go_ret
    exact ⟨rfl, rfl⟩

theorem rperiod_any (n : Int) (w : World) (h : Tk n) :
    Calls Try.prog 7 #[.int .i64 n] w fun e w' => e = .returned (.int .i64 (perI n)) ∧ w = w' := by
  unfold Tk at h
  unfold perI
  by_cases h0 : n < 0
  · rw [if_pos h0]
    go_enter Try.func7, Try.ntmps7
    go_wp2
    go_ret
    exact ⟨rfl, rfl⟩
  · rw [if_neg h0]
    go_enter Try.func7, Try.ntmps7
    go_wp2
    go_ret
    exact ⟨rfl, rfl⟩

theorem iscut_any (n : Int) (w : World) (h : Tk n) :
    Calls Try.prog 8 #[.int .i64 n] w fun e w' => e = .returned (.bool (cutI n)) ∧ w = w' := by
  unfold Tk at h
  unfold cutI
  by_cases h0 : 0 < n
  · go_enter Try.func8, Try.ntmps8
    go_wp2
    go_ret
    exact ⟨by simp [h0], rfl⟩
  · have hf : (decide (0 < n) && n % 8 == 0) = false := by rw [decide_eq_false h0]; rfl
    rw [hf]
    go_enter Try.func8, Try.ntmps8
    go_wp2
    go_ret
    exact ⟨rfl, rfl⟩

theorem riscut_any (n : Int) (w : World) (h : Tk n) :
    Calls Try.prog 9 #[.int .i64 n] w fun e w' => e = .returned (.bool (cutI n)) ∧ w = w' := by
  unfold Tk at h
  unfold cutI
  by_cases h0 : 0 < n
  · go_enter Try.func9, Try.ntmps9
    go_wp2
    go_ret
    exact ⟨by simp [h0], rfl⟩
  · have hf : (decide (0 < n) && n % 8 == 0) = false := by rw [decide_eq_false h0]; rfl
    rw [hf]
    go_enter Try.func9, Try.ntmps9
    go_wp2
    go_ret
    exact ⟨rfl, rfl⟩

/-- the next cut-off -/
theorem next_yes (n : Int) (w : World) (h : Tk n) (hp : perI n < 1152921504606846975) :
    Calls Try.prog 10 #[.int .i64 n] w fun e w' => e = .returned (.tuple #[.int .i64 ((perI n + 1) * 8), .int .i64 0]) ∧ w = w' := by
  have H1 := Lib.hid (period_any n w h)
  obtain ⟨h0, _⟩ := perI_le h
  obtain ⟨p, hpp⟩ : ∃ p, p = perI n := ⟨_, rfl⟩
  rw [← hpp] at hp h0 H1 ⊢
  clear hpp h
  have t1 : (p == 1152921504606846975) = false := by rw [beq_eq_false_iff_ne]; omega
  go_enter Try.func10, Try.ntmps10
  go_wp2_with fail
  refine H1.out.mono ?_
  rintro e w1 ⟨rfl, rfl⟩
  go_wp2
  go_ret2
  exact ⟨rfl, rfl⟩

theorem next_no (n : Int) (w : World) (h : Tk n) (hp : perI n = 1152921504606846975) :
    Calls Try.prog 10 #[.int .i64 n] w fun e w' => e = .returned (.tuple #[.int .i64 0, .int .i64 2]) ∧ w = w' := by
  have H1 := Lib.hid (period_any n w h)
  rw [hp] at H1
  clear hp h
  go_enter Try.func10, Try.ntmps10
  go_wp2_with fail
  refine H1.out.mono ?_
  rintro e w1 ⟨rfl, rfl⟩
  go_wp2
  go_ret2
  exact ⟨rfl, rfl⟩

/-- where a doubling stands -/
def Rd (j : Nat) (v : Int) : Prop := (j = 0 ∧ v = 1) ∨ (j = 1 ∧ v = 2) ∨ (j = 2 ∧ v = 4) ∨ (j = 3 ∧ v = 8)

set_option maxHeartbeats 1000000 in
theorem backoff_any (n : Int) (w : World) (h : Tk n) :
    Calls Try.prog 11 #[.int .i64 n] w fun e w' => e = .returned (.int .i64 (bkoI n)) ∧ w = w' := by
  unfold Tk at h
  go_enter Try.func11, Try.ntmps11
  go_wp2
  go_step3
  go_wp2
  go_step3
  go_wp2
  go_loopg [3, 5] 4 (fun gk t i wr => ∃ (j : Nat) (v : Int), i = .int .i64 j ∧ t = .int .i64 v ∧ Rd j v ∧ 4 - j ≤ gk ∧ (j = 0 ∨ (j : Int) ≤ n) ∧ w = wr)
  case atStart => exact ⟨0, 1, rfl, rfl, .inl ⟨rfl, rfl⟩, by omega, .inl rfl, rfl⟩
  case round =>
    obtain ⟨j, v, rfl, rfl, hR, hgk, hjn, rfl⟩ := hrel
    unfold Rd at hR
    by_cases hlt : (j : Int) < n
    · by_cases h3 : j = 3
      · obtain rfl : v = 8 := by omega
        subst h3
        have hb : bkoI n = 8 := by unfold bkoI; repeat' split <;> omega
        clear hR hgk hjn
        go_wp2
        try rw [Exit.noGoto_ret]
        go_ret
        exact ⟨by rw [hb]; rfl, rfl⟩
      · go_wp2
        go_roundg (4 - (j + 1))
        case measure => omega
        case rel => exact ⟨j + 1, v * 2, by go_num, rfl, by unfold Rd; omega, by omega, .inr (by omega), rfl⟩
    · have hb : bkoI n = v := by unfold bkoI; repeat' split <;> omega
      go_wp2
      try rw [Exit.noGoto_ret]
      go_ret
      exact ⟨by rw [hb]; rfl, rfl⟩

set_option maxHeartbeats 1000000 in
theorem rbackoff_any (n : Int) (w : World) (h : Tk n) :
    Calls Try.prog 12 #[.int .i64 n] w fun e w' => e = .returned (.int .i64 (bkoI n)) ∧ w = w' := by
  unfold Tk at h
  go_enter Try.func12, Try.ntmps12
  go_wp2
  go_loopg [3, 4] 4 (fun gk t i wr => ∃ (j : Nat) (v : Int), i = .int .i64 j ∧ t = .int .i64 v ∧ Rd j v ∧ 4 - j ≤ gk ∧ (j = 0 ∨ (j : Int) ≤ n) ∧ w = wr)
  case atStart => exact ⟨0, 1, rfl, rfl, .inl ⟨rfl, rfl⟩, by omega, .inl rfl, rfl⟩
  case round =>
    obtain ⟨j, v, rfl, rfl, hR, hgk, hjn, rfl⟩ := hrel
    unfold Rd at hR
    by_cases hlt : (j : Int) < n
    · have t1 : decide ((j : Int) < n) = true := decide_eq_true hlt
      by_cases h3 : j = 3
      · obtain rfl : v = 8 := by omega
        subst h3
        have hb : bkoI n = 8 := by unfold bkoI; repeat' split <;> omega
        clear hR hgk hjn
        go_wp2
        go_ret
        exact ⟨by rw [hb]; rfl, rfl⟩
      · have t2 : decide (v < 8) = true := decide_eq_true (by omega)
        go_wp2
        go_roundg (4 - (j + 1))
        case measure => omega
        case rel => exact ⟨j + 1, v * 2, by go_num, rfl, by unfold Rd; omega, by omega, .inr (by omega), rfl⟩
    · have t1 : decide ((j : Int) < n) = false := decide_eq_false hlt
      have hb : bkoI n = v := by unfold bkoI; repeat' split <;> omega
      have hm : min v 8 = v := by omega
      go_wp2
      go_ret
      exact ⟨rfl, rfl⟩

/-- the chapter's example -/
theorem lives15_any (w : World) : Calls Try.prog 5 #[] w fun e w' => e = .returned (.bool true) ∧ Below w.heap.size w w' := by
  have H1 : ∀ w, Hid (Calls Try.prog 10 #[.int .i64 8] w fun e w' => e = .returned (.tuple #[.int .i64 16, .int .i64 0]) ∧ w = w') := fun w => next_yes 8 w (by unfold Tk; omega) (by decide)
  have H2 : ∀ w, Hid (Calls Try.prog 11 #[.int .i64 2] w fun e w' => e = .returned (.int .i64 4) ∧ w = w') := fun w => backoff_any 2 w (by unfold Tk; omega)
  go_enter Try.func5, Try.ntmps5
  go_wp2_with (first | (go_at_call 10; refine (H1 _).out.mono ?_; rintro e w' ⟨rfl, rfl⟩) | (go_at_call 11; refine (H2 _).out.mono ?_; rintro e w' ⟨rfl, rfl⟩))
  go_ret
  exact ⟨rfl, Below.refl _ _⟩
end Go.Proofs.Ytoobomfankhjnaa
