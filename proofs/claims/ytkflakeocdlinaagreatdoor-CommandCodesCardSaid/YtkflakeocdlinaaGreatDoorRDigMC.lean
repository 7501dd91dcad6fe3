/-
  Contract of the document's Digits.
-/
import Derived.Test.YtkflakeocdlinaaGreatDoorProg
import Derived.Test.YtkflakeocdlinaaGreatDoorMC03
import Derived.Lib.ItoaLen
import Derived.Lib.ItoaMem
import Derived.Lib.Hide
import Derived.BigQuiet
namespace Go.Proofs.YtkflakeocdlinaaGreatDoor
open Go.RowKit Go.Maps

/-- figures -/
def tenL : List UInt8 := [48, 49, 50, 51, 52, 53, 54, 55, 56, 57]
theorem ten_at {d : Nat} (h : d < 10) : (st tenL).extract d (d + 1) = st [UInt8.ofNat (48 + d)] := by
  match d, h with
  | 0, _ => rfl
  | 1, _ => rfl
  | 2, _ => rfl
  | 3, _ => rfl
  | 4, _ => rfl
  | 5, _ => rfl
  | 6, _ => rfl
  | 7, _ => rfl
  | 8, _ => rfl
  | 9, _ => rfl
  | d + 10, h => omega

theorem dec_lo {n : Nat} (h : n < 10) : Go.Lib.decDigits n = [UInt8.ofNat (48 + n)] := Go.Lib.decDigits_one h
theorem dec_hi {n : Nat} (h : ¬ n < 10) : Go.Lib.decDigits n = Go.Lib.decDigits (n / 10) ++ [UInt8.ofNat (48 + n % 10)] := by rw [Go.Lib.decDigits, dif_neg h]
theorem dec_len {n : Nat} (h : n ≤ 9223372036854775807) : (Go.Lib.decDigits n).length ≤ 21 := by
  have := Go.Lib.itoa_length_le (n : Int) (by omega) (by omega)
  rw [Go.Lib.itoa_nonneg] at this
  exact this

set_option maxHeartbeats 1000000 in
set_option maxRecDepth 100000 in
theorem rdigits_any : ∀ (k n : Nat) (w : World), n ≤ k → n ≤ 9223372036854775807 →
    Calls Tryz.prog 42 #[.int .i64 (n : Int)] w fun e w' => e = .returned (.string (st (Go.Lib.decDigits n))) ∧ w = w' := by
  have hlo : ∀ (n : Nat) (w : World), n < 10 → Calls Tryz.prog 42 #[.int .i64 (n : Int)] w fun e w' => e = .returned (.string (st (Go.Lib.decDigits n))) ∧ w = w' := by
    intro n w h
    have HR : Hid (st (Go.Lib.decDigits n) = st [UInt8.ofNat (48 + n)]) := by show _ = _; rw [dec_lo h]
    have hx : (⟨#[48, 49, 50, 51, 52, 53, 54, 55, 56, 57]⟩ : ByteArray).extract n (n + 1) = st [UInt8.ofNat (48 + n)] := ten_at h
    obtain ⟨T, hT⟩ : ∃ T, T = st [UInt8.ofNat (48 + n)] := ⟨_, rfl⟩
    rw [← hT] at hx HR
    have i0 : (n : Int) % 10 = (n : Int) := by omega
    obtain ⟨m, hm⟩ : ∃ m, m = n + 1 := ⟨_, rfl⟩
    rw [← hm] at hx
    have i1 : IntKind.i64.wrap ((n : Int) + 1) = (m : Int) := by rw [IntWalk.i64_in _ (by omega)]; omega
    have i2 : (0 : Int) ≤ (n : Int) := by omega
    have i3 : (n : Int) ≤ (m : Int) := by omega
    have i4 : (m : Int) ≤ 10 := by omega
    have i5 : ¬ ((10 : Int) ≤ (n : Int)) := by omega
    clear hT hm
    go_enter Tryz.func42, Tryz.ntmps42
    go_wp2_with (fail)
    go_ret
    exact ⟨by rw [HR.out]; rfl, rfl⟩
  intro k
  induction k with
  | zero => intro n w hk hn; exact hlo n w (by omega)
  | succ k ih =>
    intro n w hk hn
    by_cases h : n < 10
    · exact hlo n w h
    · have HR : Hid (Go.Lib.decDigits n = Go.Lib.decDigits (n / 10) ++ [UInt8.ofNat (48 + n % 10)]) := dec_hi h
      obtain ⟨d, hd⟩ : ∃ d, d = n % 10 := ⟨_, rfl⟩
      rw [← hd] at HR
      have hx : (⟨#[48, 49, 50, 51, 52, 53, 54, 55, 56, 57]⟩ : ByteArray).extract d (d + 1) = st [UInt8.ofNat (48 + d)] := ten_at (by omega)
      have i0 : (n : Int) % 10 = (d : Int) := by omega
      obtain ⟨m, hm⟩ : ∃ m, m = d + 1 := ⟨_, rfl⟩
      rw [← hm] at hx
      have i1 : IntKind.i64.wrap ((d : Int) + 1) = (m : Int) := by rw [IntWalk.i64_in _ (by omega)]; omega
      have i2 : (0 : Int) ≤ (n : Int) := by omega
      have i3 : (d : Int) ≤ (m : Int) := by omega
      have i4 : (m : Int) ≤ 10 := by omega
      have i5 : (10 : Int) ≤ (n : Int) := by omega
      have i6 : (0 : Int) ≤ (d : Int) := by omega
      have HI : ∀ W, Hid (Calls Tryz.prog 42 #[.int .i64 ((n : Int) / 10)] W fun e w' => e = .returned (.string (st (Go.Lib.decDigits (n / 10)))) ∧ W = w') := fun W => ih (n / 10) W (by omega) (by omega)
      have hlen := dec_len (n := n / 10) (by omega)
      have hs1 := st_size (Go.Lib.decDigits (n / 10))
      have hsum := st_append (Go.Lib.decDigits (n / 10)) [UInt8.ofNat (48 + d)]
      rw [← HR.out] at hsum
      obtain ⟨T, hT⟩ : ∃ T, T = st [UInt8.ofNat (48 + d)] := ⟨_, rfl⟩
      obtain ⟨U, hU⟩ : ∃ U, U = st (Go.Lib.decDigits (n / 10)) := ⟨_, rfl⟩
      have hs2 : T.size = 1 := by rw [hT]; rfl
      rw [← hT] at hx hsum
      rw [← hU] at HI hs1 hsum
      have hz : ¬ 9223372036854775807 < U.size + T.size := by omega
      clear ih hT hU hs1 hs2 hlen HR hd hm h hlo
      go_enter Tryz.func42, Tryz.ntmps42
      go_wp2_with (first | (go_at_call 42; with_reducible refine (HI _).out.mono ?_; rintro e w' ⟨rfl, rfl⟩) | fail)
      go_ret
      exact ⟨rfl, rfl⟩
end Go.Proofs.YtkflakeocdlinaaGreatDoor
