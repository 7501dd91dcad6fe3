/-
  Contracts of slices.swapRangeCmpFunc and slices.rotateCmpFunc in the sort's world.
-/
import Derived.Test.YtmnhjcfhgcineaaSortC
import Derived.Test.YtmnhjcfhgcineaaMerge
namespace Go.Proofs.Ytmnhjcfhgcineaa
open Go.RowKit

set_option maxHeartbeats 1600000 in
set_option maxRecDepth 100000 in
theorem swapRange_any (n g cap a b cnt : Nat) (d : Nat → Nat) (w0 w : World) (fv : Value) (S : SW w0 g n d w) (h1 : a + cnt ≤ b) (h2 : b + cnt ≤ n) (hn : n ≤ 1000000) :
    Calls Try.prog 47 #[.slice (some ⟨g, 0, none⟩) n cap, .int .i64 a, .int .i64 b, .int .i64 cnt, fv] w
      fun e w' => e = .returned (.tuple #[]) ∧ SW w0 g n (swpR d a b cnt) w' := by
  have HS := Lib.hid S
  clear S
  go_enter Try.func47, Try.ntmps47
  go_wp2
  go_loopg [10] cnt (fun g1 vi wr => ∃ k : Nat, vi = .int .i64 k ∧ k ≤ cnt ∧ cnt - k ≤ g1 ∧ Hid (SW w0 g n (swpR d a b k) wr))
  case atStart => exact ⟨0, rfl, Nat.zero_le _, by omega, by rw [swpR_zero]; exact HS⟩
  case round =>
    clear HS
    obtain ⟨k, rfl, hk, hg1, HS⟩ := hrel
    by_cases hlt : k < cnt
    · obtain ⟨dk, hdk⟩ : ∃ dk, dk = swpR d a b k := ⟨_, rfl⟩
      have hst := swpR_succ d a b k (by omega)
      rw [← hdk] at HS hst
      have HST := Lib.hid hst
      clear hdk hst
      have c1 : wr.cell? ⟨g, a + k, none⟩ = some (.int .i64 (dk (a + k))) := HS.out.row.cell (by omega)
      have c2 : wr.cell? ⟨g, b + k, none⟩ = some (.int .i64 (dk (b + k))) := HS.out.row.cell (by omega)
      have f1 := HS.out.row.frozen (a + k)
      have f2 := HS.out.row.frozen (b + k)
      have S2 := HS.out.swap (i := a + k) (j := b + k) (by omega)
      have HS1 := Lib.hid S2
      clear S2 HS
      obtain ⟨x, hx⟩ : ∃ x, x = dk (a + k) := ⟨_, rfl⟩
      obtain ⟨y, hy⟩ : ∃ y, y = dk (b + k) := ⟨_, rfl⟩
      rw [← hx] at c1 HS1
      rw [← hy] at c2 HS1
      clear hx hy
      obtain ⟨i, hi⟩ : ∃ i, i = a + k := ⟨_, rfl⟩
      obtain ⟨j, hj⟩ : ∃ j, j = b + k := ⟨_, rfl⟩
      rw [← hi] at c1 f1 HS1 HST
      rw [← hj] at c2 f2 HS1 HST
      have b1 : i < n := by omega
      have b2 : j < n := by omega
      have hij : i ≠ j := by omega
      have q1 : (a : Int) + (k : Int) = (i : Int) := by omega
      have q2 : (b : Int) + (k : Int) = (j : Int) := by omega
      have z1 : (0 : Int) ≤ (i : Int) := by omega
      have z2 : (i : Int) < (n : Int) := by omega
      have z3 : (0 : Int) ≤ (j : Int) := by omega
      have z4 : (j : Int) < (n : Int) := by omega
      have z5 : IntKind.i64.wrap (i : Int) = (i : Int) := IntWalk.i64_in _ (by omega)
      have z6 : IntKind.i64.wrap (j : Int) = (j : Int) := IntWalk.i64_in _ (by omega)
      clear hi hj
      go_wp2
      go_region
      all_goals go_wp2
      go_roundg (cnt - (k + 1))
      case measure => omega
      case rel => exact ⟨k + 1, by go_num, by omega, by omega, by rw [← HST.out]; exact HS1.out.drew⟩
    · obtain rfl : k = cnt := by omega
      go_wp2
      go_end0
      exact ⟨rfl, HS.out⟩

set_option maxHeartbeats 1600000 in
set_option maxRecDepth 100000 in
theorem rotate_any (n g cap a m b : Nat) (d : Nat → Nat) (w0 w : World) (fv : Value) (S : SW w0 g n d w) (h1 : a < m) (h2 : m < b) (h3 : b ≤ n) (hn : n ≤ 1000000) :
    Calls Try.prog 46 #[.slice (some ⟨g, 0, none⟩) n cap, .int .i64 a, .int .i64 m, .int .i64 b, fv] w
      fun e w' => e = .returned (.tuple #[]) ∧ SW w0 g n (rotF d a m b) w' := by
  have HS := Lib.hid S
  clear S
  have q1 : (m : Int) - (a : Int) = ((m - a : Nat) : Int) := by omega
  have q2 : (b : Int) - (m : Int) = ((b - m : Nat) : Int) := by omega
  go_enter Try.func46, Try.ntmps46
  go_wp2
  clear q1 q2
  go_loopg [10, 11] (b - a) (fun g1 vi vj wr => ∃ (i j : Nat) (D : Nat → Nat), vi = .int .i64 i ∧ vj = .int .i64 j ∧ 0 < i ∧ 0 < j ∧ i ≤ m ∧ m + j ≤ n ∧ i + j ≤ g1 ∧ Hid (SW w0 g n D wr) ∧ Hid (rotF D (m - i) m (m + j) = rotF d a m b))
  case atStart => exact ⟨m - a, b - m, d, rfl, rfl, by omega, by omega, by omega, by omega, by omega, HS, by rw [show m - (m - a) = a from by omega, show m + (b - m) = b from by omega]; exact rfl⟩
  case round =>
    clear HS
    obtain ⟨i, j, D, rfl, rfl, hi, hj, him, hjn, hg1, HS, HR⟩ := hrel
    have p1 : (m : Int) - (i : Int) = ((m - i : Nat) : Int) := by omega
    rcases Nat.lt_trichotomy i j with hc | hc | hc
    · have HC := Lib.hid (swapRange_any n g cap (m - i) (m + j - i) i D w0 wr fv HS.out (by omega) (by omega) hn)
      have t1 : ((i : Int) != (j : Int)) = true := by simp; omega
      have t2 : decide ((j : Int) < (i : Int)) = false := decide_eq_false (by omega)
      have p2 : (m : Int) + (j : Int) - (i : Int) = ((m + j - i : Nat) : Int) := by omega
      have p3 : (j : Int) - (i : Int) = ((j - i : Nat) : Int) := by omega
      go_wp2_with fail
      refine HC.out.mono ?_
      rintro e w' ⟨rfl, hs⟩
      have HS1 := Lib.hid hs
      clear hs HC
      go_wp2
      go_roundg (i + (j - i))
      case measure => omega
      case rel => exact ⟨i, j - i, _, rfl, rfl, by omega, by omega, by omega, by omega, by omega, HS1, by rw [← HR.out]; exact rotF_lt D m i j him hc⟩
    · subst hc
      have HC := Lib.hid (swapRange_any n g cap (m - i) m i D w0 wr fv HS.out (by omega) (by omega) hn)
      have t1 : ((i : Int) != (i : Int)) = false := by simp
      go_wp2_with fail
      refine HC.out.mono ?_
      rintro e w' ⟨rfl, hs⟩
      have HS1 := Lib.hid hs
      clear hs HC
      go_wp2
      go_end0
      exact ⟨rfl, by rw [← HR.out, ← rotF_eq D m i him]; exact HS1.out⟩
    · have HC := Lib.hid (swapRange_any n g cap (m - i) m j D w0 wr fv HS.out (by omega) (by omega) hn)
      have t1 : ((i : Int) != (j : Int)) = true := by simp; omega
      have t2 : decide ((j : Int) < (i : Int)) = true := decide_eq_true (by omega)
      have p3 : (i : Int) - (j : Int) = ((i - j : Nat) : Int) := by omega
      go_wp2_with fail
      refine HC.out.mono ?_
      rintro e w' ⟨rfl, hs⟩
      have HS1 := Lib.hid hs
      clear hs HC
      go_wp2
      go_roundg (i - j + j)
      case measure => omega
      case rel => exact ⟨i - j, j, _, rfl, rfl, by omega, by omega, by omega, by omega, by omega, HS1, by rw [← HR.out]; exact rotF_gt D m i j him hc⟩
end Go.Proofs.Ytmnhjcfhgcineaa
