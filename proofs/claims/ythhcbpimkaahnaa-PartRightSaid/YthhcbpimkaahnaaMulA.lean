/-
  Contracts of money.size, awayFromZero, withSign and MulDiv.
-/
import Derived.Test.YthhcbpimkaahnaaDivB
namespace Go.Proofs.Ythhcbpimkaahnaa
open Go.RowKit

theorem ret_one {a b : Value} (h : a = b) : Ending.returned a = .returned b := by rw [h]

set_option maxHeartbeats 400000 in
theorem size_any (a : Int) (w : World) (ha : Amt a) : Calls Try.prog 40 #[.int .i64 a] w fun e w' => e = .returned (.int .u64 (a.natAbs : Int)) ∧ w = w' := by
  unfold Amt at ha
  obtain ⟨h1, h2⟩ := ha
  by_cases h : a < 0
  · go_enter Try.func40, Try.ntmps40
    go_wp2
    go_ret
    refine ⟨ret_one (int_eq ?_), rfl⟩
    show IntKind.u64.wrap _ = _
    simp only [IntKind.wrap_u64]
    omega
  · go_enter Try.func40, Try.ntmps40
    go_wp2
    go_ret
    refine ⟨ret_one (int_eq ?_), rfl⟩
    first
      | (show IntKind.u64.wrap _ = _; simp only [IntKind.wrap_u64]; omega)
      | omega

/-- is a quotient's size rounded to the next one -/
def upB (below : Bool) (m : Int) (q r c : Nat) : Bool :=
  if r = 0 then false else if m = 0 then below else if m = 1 then !below else decide (c < 2 * r) || (decide (c = 2 * r) && decide (q % 2 = 1))

set_option maxHeartbeats 400000 in
theorem away_any (q r c : Nat) (below : Bool) (m : Int) (w : World) (hr : r < c) (hc : c < 18446744073709551616) (hm : 0 ≤ m ∧ m ≤ 2) :
    Calls Try.prog 41 #[.int .u64 q, .int .u64 r, .int .u64 c, .bool below, .int .i64 m] w fun e w' => e = .returned (.bool (upB below m q r c)) ∧ w = w' := by
  by_cases h0 : r = 0
  · subst h0
    have e1 : upB below m q 0 c = false := if_pos rfl
    rw [e1]
    clear e1
    go_enter Try.func41, Try.ntmps41
    go_wp2
    go_ret
    exact ⟨rfl, rfl⟩
  have t0 : ((r : Int) == 0) = false := by rw [beq_eq_false_iff_ne]; omega
  have e0 : upB below m q r c = if m = 0 then below else if m = 1 then !below else decide (c < 2 * r) || (decide (c = 2 * r) && decide (q % 2 = 1)) := if_neg h0
  rw [e0]
  clear e0
  by_cases m0 : m = 0
  · subst m0
    rw [if_pos rfl]
    go_enter Try.func41, Try.ntmps41
    go_wp2
    go_ret
    exact ⟨rfl, rfl⟩
  rw [if_neg m0]
  by_cases m1 : m = 1
  · subst m1
    rw [if_pos rfl]
    go_enter Try.func41, Try.ntmps41
    go_wp2
    go_ret
    exact ⟨rfl, rfl⟩
  rw [if_neg m1]
  obtain rfl : m = 2 := by omega
  clear m0 m1 hm
  by_cases g1 : c < 2 * r
  · have e : (decide (c < 2 * r) || (decide (c = 2 * r) && decide (q % 2 = 1))) = true := by simp [g1]
    rw [e]
    clear e
    have t1 : decide ((c : Int) - (r : Int) < (r : Int)) = true := decide_eq_true (by omega)
    go_enter Try.func41, Try.ntmps41
    go_wp2
    go_ret
    exact ⟨rfl, rfl⟩
  have t1 : decide ((c : Int) - (r : Int) < (r : Int)) = false := decide_eq_false (by omega)
  by_cases g2 : c = 2 * r
  · have e : (decide (c < 2 * r) || (decide (c = 2 * r) && decide (q % 2 = 1))) = decide (q % 2 = 1) := by simp [g2]
    rw [e]
    clear e
    have t2 : ((r : Int) == (c : Int) - (r : Int)) = true := by rw [beq_iff_eq]; omega
    have t3 : (0 : Int) ≤ (q : Int) := by omega
    have HG := Lib.hid g2
    clear g1 g2
    by_cases g3 : q % 2 = 1
    · have t4 : ((q : Int) % 2 == 1) = true := by rw [beq_iff_eq]; omega
      rw [decide_eq_true g3]
      clear g3
      go_enter Try.func41, Try.ntmps41
      go_wp2
      go_ret
      exact ⟨rfl, rfl⟩
    · have t4 : ((q : Int) % 2 == 1) = false := by rw [beq_eq_false_iff_ne]; omega
      rw [decide_eq_false g3]
      clear g3
      go_enter Try.func41, Try.ntmps41
      go_wp2
      go_ret
      exact ⟨rfl, rfl⟩
  · have e : (decide (c < 2 * r) || (decide (c = 2 * r) && decide (q % 2 = 1))) = false := by simp [g1, g2]
    rw [e]
    clear e
    have t2 : ((r : Int) == (c : Int) - (r : Int)) = false := by rw [beq_eq_false_iff_ne]; omega
    clear g1 g2
    go_enter Try.func41, Try.ntmps41
    go_wp2
    go_ret
    exact ⟨rfl, rfl⟩

/-- an amount of a size -/
def sgnI (q : Nat) (below : Bool) : Int := if below then -(q : Int) else (q : Int)
def sgnV (q : Nat) (below : Bool) : Int := if Amt (sgnI q below) then sgnI q below else 0
def sgnB (q : Nat) (below : Bool) : Bool := decide (Amt (sgnI q below))

set_option maxHeartbeats 400000 in
theorem withSign_any (q : Nat) (below : Bool) (w : World) (hq : q < 18446744073709551616) :
    Calls Try.prog 42 #[.int .u64 q, .bool below] w fun e w' => e = .returned (.tuple #[.int .i64 (sgnV q below), .int .i64 (overE (sgnB q below))]) ∧ w = w' := by
  cases below
  · by_cases h : q < 9223372036854775808
    · have ha : Amt (sgnI q false) := by unfold Amt sgnI; simp; omega
      have e1 : sgnV q false = q := if_pos ha
      have e2 : sgnB q false = true := decide_eq_true ha
      rw [e1, e2]
      clear e1 e2 ha
      have t1 : decide ((q : Int) < 9223372036854775808) = true := decide_eq_true (by omega)
      go_enter Try.func42, Try.ntmps42
      go_wp2
      go_ret2
      refine ⟨ret_tuple2 (int_eq ?_) rfl, rfl⟩
      first
        | rfl
        | (show wrap64 _ = _; unfold wrap64; omega)
    · have ha : ¬ Amt (sgnI q false) := by unfold Amt sgnI; simp; omega
      have e1 : sgnV q false = 0 := if_neg ha
      have e2 : sgnB q false = false := decide_eq_false ha
      rw [e1, e2]
      clear e1 e2 ha
      have t1 : decide ((q : Int) < 9223372036854775808) = false := decide_eq_false (by omega)
      go_enter Try.func42, Try.ntmps42
      go_wp2
      go_ret2
      exact ⟨rfl, rfl⟩
  · by_cases h : q ≤ 9223372036854775808
    · have ha : Amt (sgnI q true) := by unfold Amt sgnI; simp; omega
      have e1 : sgnV q true = -(q : Int) := if_pos ha
      have e2 : sgnB q true = true := decide_eq_true ha
      rw [e1, e2]
      clear e1 e2 ha
      have t1 : decide ((q : Int) ≤ 9223372036854775808) = true := decide_eq_true (by omega)
      go_enter Try.func42, Try.ntmps42
      go_wp2
      go_ret2
      refine ⟨ret_tuple2 (int_eq ?_) rfl, rfl⟩
      show wrap64 (IntKind.u64.wrap _) = _
      unfold wrap64
      simp only [IntKind.wrap_u64]
      omega
    · have ha : ¬ Amt (sgnI q true) := by unfold Amt sgnI; simp; omega
      have e1 : sgnV q true = 0 := if_neg ha
      have e2 : sgnB q true = false := decide_eq_false ha
      rw [e1, e2]
      clear e1 e2 ha
      have t1 : decide ((q : Int) ≤ 9223372036854775808) = false := decide_eq_false (by omega)
      go_enter Try.func42, Try.ntmps42
      go_wp2
      go_ret2
      exact ⟨rfl, rfl⟩

def mdBelow (a b : Int) : Bool := decide (a < 0) != decide (b < 0)
def mdQ (a b : Int) (c : Nat) (m : Int) : Nat :=
  a.natAbs * b.natAbs / c + if upB (mdBelow a b) m (a.natAbs * b.natAbs / c) (a.natAbs * b.natAbs % c) c then 1 else 0
def mdV (a b : Int) (c : Nat) (m : Int) : Int := sgnV (mdQ a b c m) (mdBelow a b)
def mdB (a b : Int) (c : Nat) (m : Int) : Bool := sgnB (mdQ a b c m) (mdBelow a b)

set_option maxHeartbeats 400000 in
theorem mulDiv_bad (a b c m : Int) (w : World) (h : c < 1 ∨ m < 0 ∨ 2 < m) :
    Calls Try.prog 22 #[.int .i64 a, .int .i64 b, .int .i64 c, .int .i64 m] w fun e w' => e = .returned (.tuple #[.int .i64 0, .int .i64 1]) ∧ w = w' := by
  by_cases h1 : c < 1
  · go_enter Try.func22, Try.ntmps22
    go_wp2
    go_ret2
    exact ⟨rfl, rfl⟩
  by_cases h2 : m < 0
  · go_enter Try.func22, Try.ntmps22
    go_wp2
    go_ret2
    exact ⟨rfl, rfl⟩
  have h3 : 2 < m := by omega
  clear h
  go_enter Try.func22, Try.ntmps22
  go_wp2
  go_ret2
  exact ⟨rfl, rfl⟩

set_option maxHeartbeats 800000 in
theorem mulDiv_any (a b : Int) (c : Nat) (m : Int) (w : World) (ha : Amt a) (hb : Amt b) (hc : 0 < c) (hc2 : c ≤ 9223372036854775807) (hm : 0 ≤ m ∧ m ≤ 2) :
    Calls Try.prog 22 #[.int .i64 a, .int .i64 b, .int .i64 c, .int .i64 m] w fun e w' => e = .returned (.tuple #[.int .i64 (mdV a b c m), .int .i64 (overE (mdB a b c m))]) ∧ ∃ n, w' = w.drewN n := by
  have HS1 := Lib.hid (fun W => size_any a W ha)
  have HS2 := Lib.hid (fun W => size_any b W hb)
  have hA : a.natAbs < 18446744073709551616 := by unfold Amt at ha; omega
  have hB : b.natAbs < 18446744073709551616 := by unfold Amt at hb; omega
  have HD := Lib.hid (fun W => divide_any a.natAbs b.natAbs c W hA hB hc (fun h => div64_all _ _ _ h (Nat.mod_lt _ (by omega)) (by omega)))
  have hbl : (!(decide (a < 0) == decide (b < 0))) = mdBelow a b := rfl
  obtain ⟨below, hbe⟩ : ∃ x, x = mdBelow a b := ⟨_, rfl⟩
  rw [← hbe] at hbl
  obtain ⟨q, hq⟩ : ∃ q, q = a.natAbs * b.natAbs / c := ⟨_, rfl⟩
  obtain ⟨r, hr⟩ : ∃ r, r = a.natAbs * b.natAbs % c := ⟨_, rfl⟩
  have hrc : r < c := by rw [hr]; exact Nat.mod_lt _ hc
  have eV : mdV a b c m = sgnV (q + if upB below m q r c then 1 else 0) below := by unfold mdV mdQ; rw [← hbe, ← hq, ← hr]
  have eB : mdB a b c m = sgnB (q + if upB below m q r c then 1 else 0) below := by unfold mdB mdQ; rw [← hbe, ← hq, ← hr]
  rw [eV, eB]
  unfold DividePost at HD
  rw [← hq, ← hr] at HD
  obtain ⟨x, hx⟩ : ∃ x, x = a.natAbs := ⟨_, rfl⟩
  obtain ⟨z, hz⟩ : ∃ z, z = b.natAbs := ⟨_, rfl⟩
  rw [← hx] at HS1 HD
  rw [← hz] at HS2 HD
  clear eV eB hq hr hx hz hA hB hbe ha hb
  have t1 : ¬ ((c : Int) < 1) := by omega
  obtain ⟨m1, m2⟩ := hm
  have t2 : decide (m < 0) = false := decide_eq_false (by omega)
  have t3 : decide (2 < m) = false := decide_eq_false (by omega)
  have t4 : decide ((c : Int) < 1) = false := decide_eq_false (by omega)
  have z1 : IntKind.u64.wrap (c : Int) = (c : Int) := by rw [IntKind.wrap_u64]; omega
  have HU := Lib.hid (fun W => away_any q r c below m W hrc (by omega) ⟨m1, m2⟩)
  by_cases hbig : q ≤ 9223372036854775808
  · have e1 : ∀ x, divV q x = x := fun x => if_pos hbig
    have e2 : divE q = 0 := if_pos hbig
    rw [e1, e1, e2] at HD
    clear e1 e2
    have HWs := Lib.hid (fun (W : World) (k : Nat) (hk : k < 18446744073709551616) => withSign_any k below W hk)
    cases hup : upB below m q r c
    · rw [hup] at HU
      clear hup
      simp only [Bool.false_eq_true, if_false, Nat.add_zero]
      go_enter Try.func22, Try.ntmps22
      go_wp2_with fail
      refine (HS1.out _).mono ?_
      rintro e w' ⟨rfl, rfl⟩
      clear HS1
      go_wp2_with fail
      refine (HS2.out _).mono ?_
      rintro e w' ⟨rfl, rfl⟩
      clear HS2
      go_wp2_with fail
      refine (HD.out _).mono ?_
      rintro e w' ⟨rfl, n, rfl⟩
      clear HD
      go_wp2_with fail
      refine (HU.out _).mono ?_
      rintro e w' ⟨rfl, rfl⟩
      clear HU
      go_wp2_with fail
      refine (HWs.out _ q (by omega)).mono ?_
      rintro e w' ⟨rfl, rfl⟩
      go_wp2
      go_ret2
      exact ⟨rfl, n, rfl⟩
    · rw [hup] at HU
      clear hup
      simp only [if_true]
      go_enter Try.func22, Try.ntmps22
      go_wp2_with fail
      refine (HS1.out _).mono ?_
      rintro e w' ⟨rfl, rfl⟩
      clear HS1
      go_wp2_with fail
      refine (HS2.out _).mono ?_
      rintro e w' ⟨rfl, rfl⟩
      clear HS2
      go_wp2_with fail
      refine (HD.out _).mono ?_
      rintro e w' ⟨rfl, n, rfl⟩
      clear HD
      go_wp2_with fail
      refine (HU.out _).mono ?_
      rintro e w' ⟨rfl, rfl⟩
      clear HU
      go_wp2_with fail
      refine (HWs.out _ (q + 1) (by omega)).mono ?_
      rintro e w' ⟨rfl, rfl⟩
      go_wp2
      go_ret2
      exact ⟨rfl, n, rfl⟩
  · have e1 : ∀ x, divV q x = 0 := fun x => if_neg hbig
    have e2 : divE q = 2 := if_neg hbig
    rw [e1, e1, e2] at HD
    clear e1 e2
    obtain ⟨k, hk⟩ : ∃ k, k = q + if upB below m q r c then 1 else 0 := ⟨_, rfl⟩
    rw [← hk]
    have hkb : ¬ Amt (sgnI k below) := by
      have : q ≤ k := by rw [hk]; omega
      unfold Amt sgnI
      cases below <;> simp <;> omega
    have e1 : sgnV k below = 0 := if_neg hkb
    have e2 : sgnB k below = false := decide_eq_false hkb
    rw [e1, e2]
    clear e1 e2 hkb hk HU
    go_enter Try.func22, Try.ntmps22
    go_wp2_with fail
    refine (HS1.out _).mono ?_
    rintro e w' ⟨rfl, rfl⟩
    clear HS1
    go_wp2_with fail
    refine (HS2.out _).mono ?_
    rintro e w' ⟨rfl, rfl⟩
    clear HS2
    go_wp2_with fail
    refine (HD.out _).mono ?_
    rintro e w' ⟨rfl, n, rfl⟩
    clear HD
    go_wp2
    go_ret2
    exact ⟨rfl, n, rfl⟩
end Go.Proofs.Ythhcbpimkaahnaa
