/-
  The walk of souklaw15.DialTicks.
-/
import Derived.Test.YtoobomfankhjnaaDlA
namespace Go.Proofs.Ytoobomfankhjnaa
open Go.RowKit

/-- the next cut-off, plain -/
theorem next_plain {n m : Int} (h : Tk n) (hs : n < 9223372036854775800) (hm : m = (perI n + 1) * 8) :
    perI n < 1152921504606846975 ∧ Tk m ∧ n < m ∧ cutI m = true ∧ (m - 8 ≤ n ∨ m = 8) ∧ perI m = perI n + 1 := by
  have h0 : 0 ≤ perI n ∧ perI n < 1152921504606846975 ∧ n < (perI n + 1) * 8 ∧ ((perI n + 1) * 8 - 8 ≤ n ∨ perI n = 0) := by
    unfold Tk at h; unfold perI; split <;> omega
  obtain ⟨p, hp⟩ : ∃ p, p = perI n := ⟨_, rfl⟩
  rw [← hp] at h0 hm ⊢
  refine ⟨by omega, by unfold Tk; omega, by omega, ?_, by omega, ?_⟩
  · unfold cutI
    rw [decide_eq_true (by omega : 0 < m), Bool.true_and, beq_iff_eq]
    omega
  · unfold perI
    rw [if_neg (by omega)]
    omega

theorem over_plain {n : Int} (h : Tk n) (hs : 9223372036854775800 ≤ n) : perI n = 1152921504606846975 := by
  unfold Tk at h; unfold perI; split <;> omega

set_option maxHeartbeats 1000000 in
theorem ticks_walk (n : Int) (w : World) (h : Tk n) :
    Calls Try.prog 3 #[.int .i64 n] w fun e w' => e = .returned (.bool true) ∧ Below w.heap.size w w' := by
  have HL := Lib.hid (lives15_any w)
  have H1 : ∀ w, Hid (Calls Try.prog 6 #[.int .i64 n] w fun e w' => e = .returned (.int .i64 (perI n)) ∧ w = w') := fun w => period_any n w h
  have H2 : ∀ w, Hid (Calls Try.prog 7 #[.int .i64 n] w fun e w' => e = .returned (.int .i64 (perI n)) ∧ w = w') := fun w => rperiod_any n w h
  have H3 : ∀ w, Hid (Calls Try.prog 8 #[.int .i64 n] w fun e w' => e = .returned (.bool (cutI n)) ∧ w = w') := fun w => iscut_any n w h
  have H4 : ∀ w, Hid (Calls Try.prog 9 #[.int .i64 n] w fun e w' => e = .returned (.bool (cutI n)) ∧ w = w') := fun w => riscut_any n w h
  obtain ⟨c, hc⟩ : ∃ c, c = cutI n := ⟨_, rfl⟩
  rw [← hc] at H3 H4
  clear hc
  by_cases hs : n < 9223372036854775800
  · obtain ⟨m, hm⟩ : ∃ m, m = (perI n + 1) * 8 := ⟨_, rfl⟩
    obtain ⟨k1, k2, k3, k4, k5, k6⟩ := next_plain h hs hm
    have H5 : ∀ w, Hid (Calls Try.prog 10 #[.int .i64 n] w fun e w' => e = .returned (.tuple #[.int .i64 m, .int .i64 0]) ∧ w = w') := fun w => hm ▸ next_yes n w h k1
    have H6 : ∀ w, Hid (Calls Try.prog 9 #[.int .i64 m] w fun e w' => e = .returned (.bool true) ∧ w = w') := fun w => k4 ▸ riscut_any m w k2
    have H7 : ∀ w, Hid (Calls Try.prog 6 #[.int .i64 m] w fun e w' => e = .returned (.int .i64 (perI n + 1)) ∧ w = w') := fun w => k6 ▸ period_any m w k2
    have hp := perI_le h
    obtain ⟨p, hpp⟩ : ∃ p, p = perI n := ⟨_, rfl⟩
    rw [← hpp] at H1 H2 H7 hp k1
    have t1 : decide (9223372036854775800 ≤ n) = false := decide_eq_false (by omega)
    have t2 : decide (n < m) = true := decide_eq_true k3
    have hp0 : 0 ≤ p := hp.1
    have hm1 : -9223372036854775808 ≤ m - 8 := by unfold Tk at h k2; omega
    have hm2 : m - 8 ≤ 9223372036854775807 := by unfold Tk at k2; omega
    have HK : Hid (m - 8 ≤ n ∨ m = 8) := k5
    clear hm hpp h k2 k3 k4 k5 k6 hp
    go_enter Try.func3, Try.ntmps3
    go_wp2_with fail
    refine HL.out.mono ?_
    rintro e w1 ⟨rfl, hb⟩
    have HB := Lib.hid hb
    clear hb
    go_wp2_with fail
    refine (H1 _).out.mono ?_
    rintro e w' ⟨rfl, rfl⟩
    go_wp2_with fail
    refine (H2 _).out.mono ?_
    rintro e w' ⟨rfl, rfl⟩
    go_wp2_with fail
    refine (H3 _).out.mono ?_
    rintro e w' ⟨rfl, rfl⟩
    go_wp2_with fail
    refine (H4 _).out.mono ?_
    rintro e w' ⟨rfl, rfl⟩
    go_wp2_with fail
    refine (H5 _).out.mono ?_
    rintro e w' ⟨rfl, rfl⟩
    go_wp2_with fail
    refine (H6 _).out.mono ?_
    rintro e w' ⟨rfl, rfl⟩
    by_cases hk : m - 8 ≤ n
    · have t3 : decide (m - 8 ≤ n) = true := decide_eq_true hk
      clear hk
      go_wp2_with fail
      refine (H7 _).out.mono ?_
      rintro e w' ⟨rfl, rfl⟩
      go_wp2_with fail
      refine (H1 _).out.mono ?_
      rintro e w' ⟨rfl, rfl⟩
      go_wp2
      go_ret
      exact ⟨rfl, HB.out⟩
    · have t3 : decide (m - 8 ≤ n) = false := decide_eq_false hk
      have t4 : (m == 8) = true := by rw [beq_iff_eq]; exact HK.out.resolve_left hk
      clear hk
      go_wp2_with fail
      refine (H7 _).out.mono ?_
      rintro e w' ⟨rfl, rfl⟩
      go_wp2_with fail
      refine (H1 _).out.mono ?_
      rintro e w' ⟨rfl, rfl⟩
      go_wp2
      go_ret
      exact ⟨rfl, HB.out⟩
  · have k1 := over_plain h (by omega)
    have H5 : ∀ w, Hid (Calls Try.prog 10 #[.int .i64 n] w fun e w' => e = .returned (.tuple #[.int .i64 0, .int .i64 2]) ∧ w = w') := fun w => next_no n w h k1
    rw [k1] at H1 H2
    have t1 : decide (9223372036854775800 ≤ n) = true := decide_eq_true (by omega)
    clear k1 h hs
    go_enter Try.func3, Try.ntmps3
    go_wp2_with fail
    refine HL.out.mono ?_
    rintro e w1 ⟨rfl, hb⟩
    have HB := Lib.hid hb
    clear hb
    go_wp2_with fail
    refine (H1 _).out.mono ?_
    rintro e w' ⟨rfl, rfl⟩
    go_wp2_with fail
    refine (H2 _).out.mono ?_
    rintro e w' ⟨rfl, rfl⟩
    go_wp2_with fail
    refine (H3 _).out.mono ?_
    rintro e w' ⟨rfl, rfl⟩
    go_wp2_with fail
    refine (H4 _).out.mono ?_
    rintro e w' ⟨rfl, rfl⟩
    go_wp2_with fail
    refine (H5 _).out.mono ?_
    rintro e w' ⟨rfl, rfl⟩
    go_wp2
    go_ret
    exact ⟨rfl, HB.out⟩
end Go.Proofs.Ytoobomfankhjnaa
