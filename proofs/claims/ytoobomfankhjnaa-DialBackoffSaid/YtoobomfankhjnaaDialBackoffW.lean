/-
  The walk of souklaw15.DialBackoff.
-/
import Derived.Test.YtoobomfankhjnaaDlA
namespace Go.Proofs.Ytoobomfankhjnaa
open Go.RowKit

set_option maxHeartbeats 1000000 in
theorem backoff_walk (n : Int) (w : World) (h : Tk n) :
    Calls Try.prog 4 #[.int .i64 n] w fun e w' => e = .returned (.bool true) ∧ Below w.heap.size w w' := by
  have HL := Lib.hid (lives15_any w)
  have H1 : ∀ w, Hid (Calls Try.prog 11 #[.int .i64 n] w fun e w' => e = .returned (.int .i64 (bkoI n)) ∧ w = w') := fun w => backoff_any n w h
  have H2 : ∀ w, Hid (Calls Try.prog 12 #[.int .i64 n] w fun e w' => e = .returned (.int .i64 (bkoI n)) ∧ w = w') := fun w => rbackoff_any n w h
  obtain ⟨h1, h2⟩ := bkoI_le n
  have h3 := bkoI_mono n
  by_cases hm : n = -9223372036854775808
  · obtain ⟨N, hN⟩ : ∃ N, N = bkoI n := ⟨_, rfl⟩
    rw [← hN] at H1 H2 h1 h2
    have t1 : decide (1 ≤ N) = true := decide_eq_true h1
    have t2 : decide (N ≤ 8) = true := decide_eq_true h2
    subst hm
    clear hN h h1 h2 h3
    go_enter Try.func4, Try.ntmps4
    go_wp2_with fail
    refine HL.out.mono ?_
    rintro e w1 ⟨rfl, hb⟩
    have HB := Lib.hid hb
    clear hb
    go_wp2_with (first | (go_at_call 11; refine (H1 _).out.mono ?_; rintro e w' ⟨rfl, rfl⟩) | (go_at_call 12; refine (H2 _).out.mono ?_; rintro e w' ⟨rfl, rfl⟩))
    go_ret
    exact ⟨rfl, HB.out⟩
  · have hlo : -9223372036854775808 ≤ n - 1 := by unfold Tk at h; omega
    have hhi : n - 1 ≤ 9223372036854775807 := by unfold Tk at h; omega
    have H3 : ∀ w, Hid (Calls Try.prog 11 #[.int .i64 (n - 1)] w fun e w' => e = .returned (.int .i64 (bkoI (n - 1))) ∧ w = w') := fun w => backoff_any (n - 1) w ⟨hlo, hhi⟩
    obtain ⟨N, hN⟩ : ∃ N, N = bkoI n := ⟨_, rfl⟩
    obtain ⟨M, hM⟩ : ∃ M, M = bkoI (n - 1) := ⟨_, rfl⟩
    rw [← hN] at H1 H2 h1 h2 h3
    rw [← hM] at H3 h3
    have t1 : decide (1 ≤ N) = true := decide_eq_true h1
    have t2 : decide (N ≤ 8) = true := decide_eq_true h2
    have t3 : decide (M ≤ N) = true := decide_eq_true h3
    have t4 : (n == -9223372036854775808) = false := by rw [beq_eq_false_iff_ne]; exact hm
    clear hN hM h h1 h2 h3
    go_enter Try.func4, Try.ntmps4
    go_wp2_with fail
    refine HL.out.mono ?_
    rintro e w1 ⟨rfl, hb⟩
    have HB := Lib.hid hb
    clear hb
    go_wp2_with fail
    refine (H1 _).out.mono ?_
    rintro e w' ⟨rfl, rfl⟩
    go_wp2_with fail
    refine (H2 _).out.mono ?_
    rintro e w' ⟨rfl, rfl⟩
    go_wp2_with fail
    refine (H3 _).out.mono ?_
    rintro e w' ⟨rfl, rfl⟩
    go_wp2
    go_ret
    exact ⟨rfl, HB.out⟩
end Go.Proofs.Ytoobomfankhjnaa
