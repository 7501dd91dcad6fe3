/-
  Contracts of bits.Div64 at a high half of 0, and of money.divide.
-/
import Derived.Test.YtmnhjcfhgcineaaSplitA
namespace Go.Proofs.Ytmnhjcfhgcineaa
open Go.RowKit

/-- bits.Div64 answers the quotient and the rest. -/
def DivOK (hi lo y : Nat) : Prop := ∀ w : World, Calls Try.prog 32 #[.int .u64 hi, .int .u64 lo, .int .u64 y] w
  fun e w' => e = .returned (.tuple #[.int .u64 (((hi * 18446744073709551616 + lo) / y : Nat) : Int), .int .u64 (((hi * 18446744073709551616 + lo) % y : Nat) : Int)]) ∧ ∃ m, w' = w.drewN m

set_option maxHeartbeats 400000 in
theorem div64_zero (lo y : Nat) (hy : 0 < y) (hlo : lo < 18446744073709551616) : DivOK 0 lo y := by
  intro w
  have h1 : ((y : Int) == 0) = false := by rw [beq_eq_false_iff_ne]; omega
  have h2 : decide ((y : Int) ≤ 0) = false := decide_eq_false (by omega)
  have h3 : (0 : Int) ≤ (lo : Int) := by omega
  have h4 : (1 : Int) ≤ (y : Int) := by omega
  have h5 : ¬ ((y : Int) = 0) := by omega
  rw [Nat.zero_mul, Nat.zero_add]
  go_enter Try.func32, Try.ntmps32
  go_wp2
  go_quiet (fail)
  go_wp2
  go_ret2
  refine ⟨ret_tuple2 (int_eq ?_) (int_eq ?_), nq, rfl⟩
  · have : lo / y ≤ lo := Nat.div_le_self _ _
    have e : (lo : Int) / (y : Int) = ((lo / y : Nat) : Int) := (Int.natCast_ediv lo y).symm
    show IntKind.u64.wrap ((lo : Int) / (y : Int)) = _
    rw [e, IntKind.wrap_u64]
    generalize lo / y = q at *
    omega
  · exact (Int.natCast_emod lo y).symm

/-- what money.divide answers -/
def divV (q : Nat) (x : Nat) : Int := if q ≤ 9223372036854775808 then (x : Int) else 0
def divE (q : Nat) : Int := if q ≤ 9223372036854775808 then 0 else 2

theorem ret_tuple3 {a b c d e f : Value} (h : a = d) (h' : b = e) (h'' : c = f) : Ending.returned (.tuple #[a, b, c]) = .returned (.tuple #[d, e, f]) := by rw [h, h', h'']

def DividePost (a b c : Nat) (w : World) (e : Ending) (w' : World) : Prop :=
  e = .returned (.tuple #[.int .u64 (divV (a * b / c) (a * b / c)), .int .u64 (divV (a * b / c) (a * b % c)), .int .i64 (divE (a * b / c))]) ∧ ∃ m, w' = w.drewN m

theorem split128 (x : Nat) : x / 18446744073709551616 * 18446744073709551616 + x % 18446744073709551616 = x := by
  have := Nat.div_add_mod x 18446744073709551616; omega

theorem over128 {x c : Nat} (hc : 0 < c) (h : c ≤ x / 18446744073709551616) : ¬ x / c ≤ 9223372036854775808 := by
  have h1 : c * 18446744073709551616 ≤ x := (Nat.le_div_iff_mul_le (by omega)).1 h
  have : 18446744073709551616 ≤ x / c := (Nat.le_div_iff_mul_le hc).2 (by rw [Nat.mul_comm]; exact h1)
  omega

set_option maxHeartbeats 400000 in
theorem divide_any (a b c : Nat) (w : World) (ha : a < 18446744073709551616) (hb : b < 18446744073709551616) (hc : 0 < c)
    (hD : a * b / 18446744073709551616 < c → DivOK (a * b / 18446744073709551616) (a * b % 18446744073709551616) c) :
    Calls Try.prog 23 #[.int .u64 a, .int .u64 b, .int .u64 c] w (DividePost a b c w) := by
  have HM := Lib.hid (Try.bits_Mul64 a b ha hb w)
  obtain ⟨x, hx⟩ : ∃ x, x = a * b := ⟨_, rfl⟩
  have HP : Hid (DividePost a b c w = fun e w' => e = .returned (.tuple #[.int .u64 (divV (x / c) (x / c)), .int .u64 (divV (x / c) (x % c)), .int .i64 (divE (x / c))]) ∧ ∃ m, w' = w.drewN m) := by
    rw [hx]; rfl
  rw [HP.out]
  rw [← hx] at HM hD
  clear HP hx ha hb
  by_cases hov : x / 18446744073709551616 < c
  · have hd := hD hov w
    unfold DivOK at hD
    rw [split128] at hd
    have HD := Lib.hid hd
    clear hd hD
    obtain ⟨hi, hhi⟩ : ∃ hi, hi = x / 18446744073709551616 := ⟨_, rfl⟩
    obtain ⟨lo, hlo⟩ : ∃ lo, lo = x % 18446744073709551616 := ⟨_, rfl⟩
    obtain ⟨q, hq⟩ : ∃ q, q = x / c := ⟨_, rfl⟩
    obtain ⟨r, hr⟩ : ∃ r, r = x % c := ⟨_, rfl⟩
    rw [← hhi] at HD HM hov
    rw [← hlo] at HD HM
    rw [← hq, ← hr] at HD ⊢
    clear hhi hlo hq hr
    have h1 : decide ((c : Int) ≤ (hi : Int)) = false := decide_eq_false (by omega)
    by_cases hbig : q ≤ 9223372036854775808
    · have e1 : ∀ x, divV q x = x := fun x => if_pos hbig
      have e2 : divE q = 0 := if_pos hbig
      rw [e1, e1, e2]
      clear e1 e2
      have h2 : decide ((9223372036854775808 : Int) < (q : Int)) = false := decide_eq_false (by omega)
      go_enter Try.func23, Try.ntmps23
      go_wp2_with fail
      refine HM.out.mono ?_
      rintro e w' ⟨rfl, rfl⟩
      clear HM
      go_wp2_with fail
      refine HD.out.mono ?_
      rintro e w' ⟨rfl, m, rfl⟩
      clear HD
      go_wp2
      go_ret3
      exact ⟨rfl, m, rfl⟩
    · have e1 : ∀ x, divV q x = 0 := fun x => if_neg hbig
      have e2 : divE q = 2 := if_neg hbig
      rw [e1, e1, e2]
      clear e1 e2
      have h2 : decide ((9223372036854775808 : Int) < (q : Int)) = true := decide_eq_true (by omega)
      go_enter Try.func23, Try.ntmps23
      go_wp2_with fail
      refine HM.out.mono ?_
      rintro e w' ⟨rfl, rfl⟩
      clear HM
      go_wp2_with fail
      refine HD.out.mono ?_
      rintro e w' ⟨rfl, m, rfl⟩
      clear HD
      go_wp2
      go_ret3
      exact ⟨rfl, m, rfl⟩
  · have hn := over128 hc (Nat.le_of_not_lt hov)
    have e1 : ∀ y, divV (x / c) y = 0 := fun y => if_neg hn
    have e2 : divE (x / c) = 2 := if_neg hn
    rw [e1, e1, e2]
    clear e1 e2 hD hn
    obtain ⟨hi, hhi⟩ : ∃ hi, hi = x / 18446744073709551616 := ⟨_, rfl⟩
    obtain ⟨lo, hlo⟩ : ∃ lo, lo = x % 18446744073709551616 := ⟨_, rfl⟩
    rw [← hhi] at HM hov
    rw [← hlo] at HM
    clear hhi hlo
    have h1 : decide ((c : Int) ≤ (hi : Int)) = true := decide_eq_true (by omega)
    go_enter Try.func23, Try.ntmps23
    go_wp2_with fail
    refine HM.out.mono ?_
    rintro e w' ⟨rfl, rfl⟩
    clear HM
    go_wp2
    go_ret3
    exact ⟨rfl, 0, rfl⟩

/-- an amount of a size -/
def sgnI (q : Nat) (below : Bool) : Int := if below then -(q : Int) else (q : Int)
def sgnV (q : Nat) (below : Bool) : Int := if Amt (sgnI q below) then sgnI q below else 0
def sgnB (q : Nat) (below : Bool) : Bool := decide (Amt (sgnI q below))

end Go.Proofs.Ytmnhjcfhgcineaa
