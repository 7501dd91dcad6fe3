/-
  Contract of the document's Parts.
-/
import Derived.Test.YtkflakeocdlinaaGreatDoorMP07
import Derived.Test.YtkflakeocdlinaaGreatDoorMP03
namespace Go.Proofs.YtkflakeocdlinaaGreatDoor
open Go.RowKit Go.Deep

/-- what the document's Parts answers -/
def RpPost (E : Int) (T : Nat) (h : Int) (xs : List Sh) (t : Nat → Nat) (w : World) (e : Ending) (w' : World) : Prop :=
  (E ≠ 0 ∧ OfBad E w e w') ∨ (E = 0 ∧ ∃ ar cr, e = .returned (.tuple #[.slice ar xs.length cr, .int .i64 0]) ∧
    RowG 3 cPt w' ar (prtL xs (partK T (ptS xs) (ptW xs) t (leftN T (ptS xs) (ptW xs) xs.length)) h) ∧ Below w.heap.size w w')

theorem ofE_bad1 {A f t h : Int} {xs : List Sh} (hb : xs.length = 0 ∨ 8 < xs.length) : ofE A f t h xs = 1 := by
  unfold ofE
  rw [rgF_bad hb]
  split <;> rfl
theorem ofE_bad2 {A f t h : Int} {xs : List Sh} (hn : ¬ (A ≤ 1125899906842624 ∧ 0 ≤ f ∧ 0 ≤ t ∧ 0 ≤ h ∧ h ≤ 10000 ∧ f + t ≤ A)) : ofE A f t h xs = 1 := by
  unfold ofE
  rw [show cstB A f t h = false from decide_eq_false hn]
  rfl
theorem ofE_good {A f t h : Int} {xs : List Sh} (hn : A ≤ 1125899906842624 ∧ 0 ≤ f ∧ 0 ≤ t ∧ 0 ≤ h ∧ h ≤ 10000 ∧ f + t ≤ A) (hb : ¬ (xs.length = 0 ∨ 8 < xs.length)) : ofE A f t h xs = rgTo xs xs.length := by
  unfold ofE
  rw [show cstB A f t h = true from decide_eq_true hn, rgF_few hb]
  rfl

set_option maxHeartbeats 1600000 in
set_option maxRecDepth 100000 in
theorem rparts_bad (A f t h q : Int) (a : Option Addr) (c n : Nat) (w : World) (hA : Amt A)
    (hb : ¬ (A ≤ 1125899906842624 ∧ 0 ≤ f ∧ 0 ≤ t ∧ 0 ≤ h ∧ h ≤ 10000 ∧ f + t ≤ A) ∨ (n = 0 ∨ 8 < n)) :
    Calls Tryz.prog 33 #[.int .i64 A, .agg #[.int .i64 f, .int .i64 t, .int .i64 h, .int .i64 q], .slice a n c] w (OfBad 1 w) := by
  have HB : Hid (Below w.heap.size w (w.alloc (.cells #[.int .i64 f, .int .i64 t, .int .i64 h, .int .i64 q] 65))) := (Below.refl _ w).alloc (Nat.le_refl _) _
  unfold Amt at hA
  by_cases h1 : n = 0
  · clear hb
    subst h1
    go_enter Tryz.func33, Tryz.ntmps33
    go_wp2
    go_ret2
    exact ⟨rfl, HB.out⟩
  have t1 : ((n : Int) == 0) = false := by rw [beq_eq_false_iff_ne]; omega
  by_cases h2 : 8 < n
  · have t3 : (8 : Int) < (n : Int) := by omega
    clear hb h2
    go_enter Tryz.func33, Tryz.ntmps33
    go_wp2
    go_ret2
    exact ⟨rfl, HB.out⟩
  have t2 : ¬ (8 : Int) < (n : Int) := by omega
  have hb' : ¬ (A ≤ 1125899906842624 ∧ 0 ≤ f ∧ 0 ≤ t ∧ 0 ≤ h ∧ h ≤ 10000 ∧ f + t ≤ A) := by
    rcases hb with hb | hb
    · exact hb
    · omega
  clear hb h1 h2
  by_cases h3 : f < 0
  · clear hb'
    go_enter Tryz.func33, Tryz.ntmps33
    go_wp2
    go_ret2
    exact ⟨rfl, HB.out⟩
  by_cases h4 : t < 0
  · clear hb'
    go_enter Tryz.func33, Tryz.ntmps33
    go_wp2
    go_ret2
    exact ⟨rfl, HB.out⟩
  by_cases h5 : h < 0
  · clear hb'
    go_enter Tryz.func33, Tryz.ntmps33
    go_wp2
    go_ret2
    exact ⟨rfl, HB.out⟩
  by_cases h6 : 10000 < h
  · clear hb'
    go_enter Tryz.func33, Tryz.ntmps33
    go_wp2
    go_ret2
    exact ⟨rfl, HB.out⟩
  by_cases h7 : 1125899906842624 < A
  · clear hb'
    go_enter Tryz.func33, Tryz.ntmps33
    go_wp2
    go_ret2
    exact ⟨rfl, HB.out⟩
  by_cases h8 : A < f
  · clear hb'
    go_enter Tryz.func33, Tryz.ntmps33
    go_wp2
    go_ret2
    exact ⟨rfl, HB.out⟩
  have h9 : A - f < t := by omega
  have h10 : 0 ≤ A - f := by omega
  clear hb'
  go_enter Tryz.func33, Tryz.ntmps33
  go_wp2
  go_ret2
  exact ⟨rfl, HB.out⟩

end Go.Proofs.YtkflakeocdlinaaGreatDoor
