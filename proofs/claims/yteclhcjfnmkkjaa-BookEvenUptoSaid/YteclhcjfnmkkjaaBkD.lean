/-
  Contracts of Key.Right, right, and of the document's Right.
-/
import Derived.Test.YteclhcjfnmkkjaaBkM
import Derived.Test.YteclhcjfnmkkjaaStrs
namespace Go.Proofs.Yteclhcjfnmkkjaa
open Go.RowKit Go.Lib
set_option linter.unusedSimpArgs false

def kClearing : List UInt8 := [99, 108, 101, 97, 114, 105, 110, 103]
def kFee : List UInt8 := [102, 101, 101]
def kTax : List UInt8 := [116, 97, 120]
def kAvail : List UInt8 := [97, 118, 97, 105, 108, 97, 98, 108, 101]
def kReserve : List UInt8 := [114, 101, 115, 101, 114, 118, 101]
def kFlight : List UInt8 := [102, 108, 105, 103, 104, 116]
def kPaid : List UInt8 := [112, 97, 105, 100]
def kDebt : List UInt8 := [100, 101, 98, 116]

/-- may it be -/
def rightA (a : Ac) : Bool :=
  if a.2.2 = [] then false
  else if a.1 = kClearing ∨ a.1 = kFee ∨ a.1 = kTax then decide (a.2.1 = [])
  else if a.1 = kAvail ∨ a.1 = kReserve ∨ a.1 = kFlight ∨ a.1 = kPaid ∨ a.1 = kDebt then decide (a.2.1 ≠ [])
  else false

theorem st_tl (l : List UInt8) : (st l).toList = l := by rw [Go.Lib.toList_data, st_toList]

theorem isE (p : List UInt8) : p.isEmpty = decide (p = []) := by cases p <;> simp

set_option maxHeartbeats 2000000 in
theorem bkRight_any (a : Ac) (w : World) : Calls Try.prog 16 #[kv a] w fun e w' => e = .returned (.bool (rightA a)) ∧ Below w.heap.size w w' := by
  obtain ⟨k, p, c⟩ := a
  have HB : Hid (∀ o : Obj, Below w.heap.size w (w.alloc o)) := fun o => (Below.refl _ w).alloc (Nat.le_refl _) o
  unfold kv
  go_enter Try.func16, Try.ntmps16
  go_wp2
  all_goals go_ret
  all_goals refine ⟨?_, HB.out _⟩
  all_goals clear HB
  all_goals simp only [st_tl, List.isEmpty_iff, beq_iff_eq, beq_eq_false_iff_ne, ne_eq, List.isEmpty_eq_false_iff] at *
  all_goals simp_all [rightA, kClearing, kFee, kTax, kAvail, kReserve, kFlight, kPaid, kDebt, isE]

set_option maxHeartbeats 2000000 in
theorem rRight_any (a : Ac) (n : Int) (w : World) : Calls Try.prog 17 #[.agg #[.string (st a.1), .string (st a.2.1), .string (st a.2.2), .int .i64 n]] w fun e w' => e = .returned (.bool (rightA a)) ∧ Below w.heap.size w w' := by
  obtain ⟨k, p, c⟩ := a
  have HB : Hid (∀ o : Obj, Below w.heap.size w (w.alloc o)) := fun o => (Below.refl _ w).alloc (Nat.le_refl _) o
  go_enter Try.func17, Try.ntmps17
  go_wp2
  all_goals go_ret
  all_goals refine ⟨?_, HB.out _⟩
  all_goals clear HB
  all_goals simp only [st_tl, List.isEmpty_iff, beq_iff_eq, beq_eq_false_iff_ne, ne_eq, List.isEmpty_eq_false_iff] at *
  all_goals simp_all [rightA, kClearing, kFee, kTax, kAvail, kReserve, kFlight, kPaid, kDebt, isE]
end Go.Proofs.Yteclhcjfnmkkjaa
