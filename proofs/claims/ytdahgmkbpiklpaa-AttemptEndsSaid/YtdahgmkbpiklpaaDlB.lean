/-
  Contracts of dial.Backoff, and of the document's: what each answers, for all tries.
-/
import Derived.Test.YtdahgmkbpiklpaaProg
import Derived.WalkKit
import Derived.WalkLawsBesides
import Derived.WalkMore
import Derived.Below
import Derived.OpenShut
import Derived.IntWalk
import Derived.Deep.LoopGhost
import Derived.Lib.Hide
namespace Go.Proofs.Ytdahgmkbpiklpaa
open Go.RowKit

/-- A tick, or a number of tries. -/
def Tk (n : Int) : Prop := -9223372036854775808 ≤ n ∧ n ≤ 9223372036854775807
theorem Tk.of_wf {n : Int} (h : (Lit.int .i64 n).wf = true) : Tk n := bounds_i64 h

/-- how long is waited -/
def bkoI (n : Int) : Int := if n ≤ 0 then 1 else if n = 1 then 2 else if n = 2 then 4 else 8

theorem bkoI_le (n : Int) : 1 ≤ bkoI n ∧ bkoI n ≤ 8 := by unfold bkoI; repeat' split <;> omega
theorem bkoI_mono (n : Int) : bkoI (n - 1) ≤ bkoI n := by unfold bkoI; repeat' split <;> omega

/-- where a doubling stands -/
def Rd (j : Nat) (v : Int) : Prop := (j = 0 ∧ v = 1) ∨ (j = 1 ∧ v = 2) ∨ (j = 2 ∧ v = 4) ∨ (j = 3 ∧ v = 8)

set_option maxHeartbeats 1000000 in
theorem backoff_any (n : Int) (w : World) (h : Tk n) :
    Calls Try.prog 27 #[.int .i64 n] w fun e w' => e = .returned (.int .i64 (bkoI n)) ∧ w = w' := by
  unfold Tk at h
  go_enter Try.func27, Try.ntmps27
  go_wp2
  go_step3
  go_wp2
  go_step3
  go_wp2
  go_loopg [3, 5] 4 (fun gk t i wr => ∃ (j : Nat) (v : Int), i = .int .i64 j ∧ t = .int .i64 v ∧ Rd j v ∧ 4 - j ≤ gk ∧ (j = 0 ∨ (j : Int) ≤ n) ∧ w = wr)
  case atStart => exact ⟨0, 1, rfl, rfl, .inl ⟨rfl, rfl⟩, by omega, .inl rfl, rfl⟩
  case round =>
    obtain ⟨j, v, rfl, rfl, hR, hgk, hjn, rfl⟩ := hrel
    unfold Rd at hR
    by_cases hlt : (j : Int) < n
    · by_cases h3 : j = 3
      · obtain rfl : v = 8 := by omega
        subst h3
        have hb : bkoI n = 8 := by unfold bkoI; repeat' split <;> omega
        clear hR hgk hjn
        go_wp2
        try rw [Exit.noGoto_ret]
        go_ret
        exact ⟨by rw [hb]; rfl, rfl⟩
      · go_wp2
        go_roundg (4 - (j + 1))
        case measure => omega
        case rel => exact ⟨j + 1, v * 2, by go_num, rfl, by unfold Rd; omega, by omega, .inr (by omega), rfl⟩
    · have hb : bkoI n = v := by unfold bkoI; repeat' split <;> omega
      go_wp2
      try rw [Exit.noGoto_ret]
      go_ret
      exact ⟨by rw [hb]; rfl, rfl⟩

set_option maxHeartbeats 1000000 in
theorem rbackoff_any (n : Int) (w : World) (h : Tk n) :
    Calls Try.prog 20 #[.int .i64 n] w fun e w' => e = .returned (.int .i64 (bkoI n)) ∧ w = w' := by
  unfold Tk at h
  go_enter Try.func20, Try.ntmps20
  go_wp2
  go_loopg [3, 4] 4 (fun gk t i wr => ∃ (j : Nat) (v : Int), i = .int .i64 j ∧ t = .int .i64 v ∧ Rd j v ∧ 4 - j ≤ gk ∧ (j = 0 ∨ (j : Int) ≤ n) ∧ w = wr)
  case atStart => exact ⟨0, 1, rfl, rfl, .inl ⟨rfl, rfl⟩, by omega, .inl rfl, rfl⟩
  case round =>
    obtain ⟨j, v, rfl, rfl, hR, hgk, hjn, rfl⟩ := hrel
    unfold Rd at hR
    by_cases hlt : (j : Int) < n
    · have t1 : decide ((j : Int) < n) = true := decide_eq_true hlt
      by_cases h3 : j = 3
      · obtain rfl : v = 8 := by omega
        subst h3
        have hb : bkoI n = 8 := by unfold bkoI; repeat' split <;> omega
        clear hR hgk hjn
        go_wp2
        go_ret
        exact ⟨by rw [hb]; rfl, rfl⟩
      · have t2 : decide (v < 8) = true := decide_eq_true (by omega)
        go_wp2
        go_roundg (4 - (j + 1))
        case measure => omega
        case rel => exact ⟨j + 1, v * 2, by go_num, rfl, by unfold Rd; omega, by omega, .inr (by omega), rfl⟩
    · have t1 : decide ((j : Int) < n) = false := decide_eq_false hlt
      have hb : bkoI n = v := by unfold bkoI; repeat' split <;> omega
      have hm : min v 8 = v := by omega
      go_wp2
      go_ret
      exact ⟨rfl, rfl⟩
end Go.Proofs.Ytdahgmkbpiklpaa
