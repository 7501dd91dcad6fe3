/-
  Contracts of the document's Digits, rate, one.
-/
import Derived.Test.YtjegfoeempojiaaDoorPlnD
import Derived.Test.YtjegfoeempojiaaDoorPlnU
import Derived.BigQuiet
namespace Go.Proofs.YtjegfoeempojiaaDoor
open Go.RowKit Go.Maps

/-- figures -/
def tenL : List UInt8 := [48, 49, 50, 51, 52, 53, 54, 55, 56, 57]
theorem ten_at {d : Nat} (h : d < 10) : (st tenL).extract d (d + 1) = st [UInt8.ofNat (48 + d)] := by
  match d, h with
  | 0, _ => rfl
  | 1, _ => rfl
  | 2, _ => rfl
  | 3, _ => rfl
  | 4, _ => rfl
  | 5, _ => rfl
  | 6, _ => rfl
  | 7, _ => rfl
  | 8, _ => rfl
  | 9, _ => rfl
  | d + 10, h => omega

theorem dec_lo {n : Nat} (h : n < 10) : Go.Lib.decDigits n = [UInt8.ofNat (48 + n)] := Go.Lib.decDigits_one h
theorem dec_hi {n : Nat} (h : ¬ n < 10) : Go.Lib.decDigits n = Go.Lib.decDigits (n / 10) ++ [UInt8.ofNat (48 + n % 10)] := by rw [Go.Lib.decDigits, dif_neg h]
theorem dec_len {n : Nat} (h : n ≤ 9223372036854775807) : (Go.Lib.decDigits n).length ≤ 21 := by
  have := itoa_len (n := (n : Int)) ⟨by omega, by omega⟩
  rw [Go.Lib.itoa_nonneg] at this
  exact this

set_option maxHeartbeats 1000000 in
set_option maxRecDepth 100000 in
theorem rdigits_any : ∀ (k n : Nat) (w : World), n ≤ k → n ≤ 9223372036854775807 →
    Calls Tryd.prog 24 #[.int .i64 (n : Int)] w fun e w' => e = .returned (.string (st (Go.Lib.decDigits n))) ∧ w = w' := by
  have hlo : ∀ (n : Nat) (w : World), n < 10 → Calls Tryd.prog 24 #[.int .i64 (n : Int)] w fun e w' => e = .returned (.string (st (Go.Lib.decDigits n))) ∧ w = w' := by
    intro n w h
    have HR : Hid (st (Go.Lib.decDigits n) = st [UInt8.ofNat (48 + n)]) := by show _ = _; rw [dec_lo h]
    have hx : (⟨#[48, 49, 50, 51, 52, 53, 54, 55, 56, 57]⟩ : ByteArray).extract n (n + 1) = st [UInt8.ofNat (48 + n)] := ten_at h
    obtain ⟨T, hT⟩ : ∃ T, T = st [UInt8.ofNat (48 + n)] := ⟨_, rfl⟩
    rw [← hT] at hx HR
    have i0 : (n : Int) % 10 = (n : Int) := by omega
    obtain ⟨m, hm⟩ : ∃ m, m = n + 1 := ⟨_, rfl⟩
    rw [← hm] at hx
    have i1 : IntKind.i64.wrap ((n : Int) + 1) = (m : Int) := by rw [IntWalk.i64_in _ (by omega)]; omega
    have i2 : (0 : Int) ≤ (n : Int) := by omega
    have i3 : (n : Int) ≤ (m : Int) := by omega
    have i4 : (m : Int) ≤ 10 := by omega
    have i5 : ¬ ((10 : Int) ≤ (n : Int)) := by omega
    clear hT hm
    go_enter Tryd.func24, Tryd.ntmps24
    go_wp2_with (fail)
    go_ret
    exact ⟨by rw [HR.out]; rfl, rfl⟩
  intro k
  induction k with
  | zero => intro n w hk hn; exact hlo n w (by omega)
  | succ k ih =>
    intro n w hk hn
    by_cases h : n < 10
    · exact hlo n w h
    · have HR : Hid (Go.Lib.decDigits n = Go.Lib.decDigits (n / 10) ++ [UInt8.ofNat (48 + n % 10)]) := dec_hi h
      obtain ⟨d, hd⟩ : ∃ d, d = n % 10 := ⟨_, rfl⟩
      rw [← hd] at HR
      have hx : (⟨#[48, 49, 50, 51, 52, 53, 54, 55, 56, 57]⟩ : ByteArray).extract d (d + 1) = st [UInt8.ofNat (48 + d)] := ten_at (by omega)
      have i0 : (n : Int) % 10 = (d : Int) := by omega
      obtain ⟨m, hm⟩ : ∃ m, m = d + 1 := ⟨_, rfl⟩
      rw [← hm] at hx
      have i1 : IntKind.i64.wrap ((d : Int) + 1) = (m : Int) := by rw [IntWalk.i64_in _ (by omega)]; omega
      have i2 : (0 : Int) ≤ (n : Int) := by omega
      have i3 : (d : Int) ≤ (m : Int) := by omega
      have i4 : (m : Int) ≤ 10 := by omega
      have i5 : (10 : Int) ≤ (n : Int) := by omega
      have i6 : (0 : Int) ≤ (d : Int) := by omega
      have HI : ∀ W, Hid (Calls Tryd.prog 24 #[.int .i64 ((n : Int) / 10)] W fun e w' => e = .returned (.string (st (Go.Lib.decDigits (n / 10)))) ∧ W = w') := fun W => ih (n / 10) W (by omega) (by omega)
      have hlen := dec_len (n := n / 10) (by omega)
      have hs1 := st_size (Go.Lib.decDigits (n / 10))
      have hsum := st_append (Go.Lib.decDigits (n / 10)) [UInt8.ofNat (48 + d)]
      rw [← HR.out] at hsum
      obtain ⟨T, hT⟩ : ∃ T, T = st [UInt8.ofNat (48 + d)] := ⟨_, rfl⟩
      obtain ⟨U, hU⟩ : ∃ U, U = st (Go.Lib.decDigits (n / 10)) := ⟨_, rfl⟩
      have hs2 : T.size = 1 := by rw [hT]; rfl
      rw [← hT] at hx hsum
      rw [← hU] at HI hs1 hsum
      have hz : ¬ 9223372036854775807 < U.size + T.size := by omega
      clear ih hT hU hs1 hs2 hlen HR hd hm h hlo
      go_enter Tryd.func24, Tryd.ntmps24
      go_wp2_with (first | (go_at_call 24; with_reducible refine (HI _).out.mono ?_; rintro e w' ⟨rfl, rfl⟩) | fail)
      go_ret
      exact ⟨rfl, rfl⟩

theorem pctI_nat (n : Nat) : pctI (n : Int) = if n % 100 = 0 then Go.Lib.decDigits (n / 100) ++ [37] else ((Go.Lib.decDigits (n / 100) ++ [46]) ++ Go.Lib.decDigits (n / 10 % 10) ++ Go.Lib.decDigits (n % 10)) ++ [37] := by
  unfold pctI
  have e1 : (n : Int).tmod 100 = ((n % 100 : Nat) : Int) := rfl
  have e2 : (n : Int).tdiv 100 = ((n / 100 : Nat) : Int) := rfl
  have e3 : ((n : Int).tdiv 10).tmod 10 = ((n / 10 % 10 : Nat) : Int) := rfl
  have e4 : (n : Int).tmod 10 = ((n % 10 : Nat) : Int) := rfl
  rw [e1, e2, e3, e4, Go.Lib.itoa_nonneg, Go.Lib.itoa_nonneg, Go.Lib.itoa_nonneg]
  by_cases h : n % 100 = 0
  · rw [if_pos h, if_pos (by rw [h]; rfl)]
  · rw [if_neg h, if_neg (by omega)]

set_option maxHeartbeats 1000000 in
set_option maxRecDepth 100000 in
theorem rpct_any (n : Nat) (w : World) (hn : n ≤ 9223372036854775807) :
    Calls Tryd.prog 25 #[.int .i64 (n : Int)] w fun e w' => e = .returned (.string (st (pctI (n : Int)))) ∧ w = w' := by
  obtain ⟨A, hA⟩ : ∃ A, A = Go.Lib.decDigits (n / 100) := ⟨_, rfl⟩
  obtain ⟨C, hC⟩ : ∃ C, C = Go.Lib.decDigits (n / 10 % 10) := ⟨_, rfl⟩
  obtain ⟨D, hD⟩ : ∃ D, D = Go.Lib.decDigits (n % 10) := ⟨_, rfl⟩
  have hA2 : A.length ≤ 21 := by rw [hA]; exact dec_len (by omega)
  have hC2 : C.length ≤ 21 := by rw [hC]; exact dec_len (by omega)
  have hD2 : D.length ≤ 21 := by rw [hD]; exact dec_len (by omega)
  have H1 : ∀ W, Hid (Calls Tryd.prog 24 #[.int .i64 ((n : Int) / 100)] W fun e w' => e = .returned (.string (st A)) ∧ W = w') := fun W => by rw [hA]; exact rdigits_any _ (n / 100) W (Nat.le_refl _) (by omega)
  have H2 : ∀ W, Hid (Calls Tryd.prog 24 #[.int .i64 ((n : Int) / 10 % 10)] W fun e w' => e = .returned (.string (st C)) ∧ W = w') := fun W => by rw [hC]; exact rdigits_any _ (n / 10 % 10) W (Nat.le_refl _) (by omega)
  have H3 : ∀ W, Hid (Calls Tryd.prog 24 #[.int .i64 ((n : Int) % 10)] W fun e w' => e = .returned (.string (st D)) ∧ W = w') := fun W => by rw [hD]; exact rdigits_any _ (n % 10) W (Nat.le_refl _) (by omega)
  have HR : Hid (pctI (n : Int) = if n % 100 = 0 then A ++ [37] else ((A ++ [46]) ++ C ++ D) ++ [37]) := by show _ = _; rw [pctI_nat, hA, hC, hD]
  have q0 := st_append A [37]
  have q1 := st_append A [46]
  have q2 := st_append (A ++ [46]) C
  have q3 := st_append (A ++ [46] ++ C) D
  have q4 := st_append (A ++ [46] ++ C ++ D) [37]
  have z0 := st_size A
  have z1 := st_size (A ++ [46])
  have z2 := st_size (A ++ [46] ++ C)
  have z3 := st_size (A ++ [46] ++ C ++ D)
  have y1 := st_size C
  have y2 := st_size D
  simp only [List.length_append, List.length_singleton] at z1 z2 z3
  clear hA hC hD
  have p46 : st [46] = ⟨#[46]⟩ := rfl
  have p37 : st [37] = ⟨#[37]⟩ := rfl
  rw [p46] at q1
  rw [p37] at q0 q4
  by_cases h0 : n % 100 = 0
  · have HR2 : Hid (pctI (n : Int) = A ++ [37]) := by show _ = _; rw [HR.out, if_pos h0]
    obtain ⟨S0, hS0⟩ : ∃ S, S = st A := ⟨_, rfl⟩
    obtain ⟨S1, hS1⟩ : ∃ S, S = st (A ++ [37]) := ⟨_, rfl⟩
    have HS1 := Lib.hid hS1
    simp only [← hS0] at q0 z0 H1
    simp only [← hS1] at q0
    have b1 : ¬ 9223372036854775807 < S0.size + 1 := by omega
    have k0 : ¬ ((0 : Int) < (n : Int) % 100) := by omega
    clear q1 q2 q3 q4 z1 z2 z3 z0 y1 y2 p46 p37 hS0 hS1 hA2 hC2 hD2 H2 H3 HR h0
    go_enter Tryd.func25, Tryd.ntmps25
    go_wp2_with (first | (go_at_call 24; with_reducible refine (H1 _).out.mono ?_; rintro e w1 ⟨rfl, rfl⟩) | fail)
    go_ret
    refine ⟨?_, rfl⟩
    rw [HR2.out, ← HS1.out]
    rfl
  · have HR2 : Hid (pctI (n : Int) = ((A ++ [46]) ++ C ++ D) ++ [37]) := by show _ = _; rw [HR.out, if_neg h0]
    obtain ⟨S0, hS0⟩ : ∃ S, S = st A := ⟨_, rfl⟩
    obtain ⟨S1, hS1⟩ : ∃ S, S = st (A ++ [46]) := ⟨_, rfl⟩
    obtain ⟨S2, hS2⟩ : ∃ S, S = st (A ++ [46] ++ C) := ⟨_, rfl⟩
    obtain ⟨S3, hS3⟩ : ∃ S, S = st (A ++ [46] ++ C ++ D) := ⟨_, rfl⟩
    obtain ⟨S4, hS4⟩ : ∃ S, S = st (A ++ [46] ++ C ++ D ++ [37]) := ⟨_, rfl⟩
    obtain ⟨SC, hSC⟩ : ∃ S, S = st C := ⟨_, rfl⟩
    obtain ⟨SD, hSD⟩ : ∃ S, S = st D := ⟨_, rfl⟩
    have HS4 := Lib.hid hS4
    rw [← hS4] at q4
    rw [← hS3] at q4 q3 z3
    rw [← hS2] at q3 q2 z2
    rw [← hS1] at q2 q1 z1
    rw [← hS0] at q1 z0
    simp only [← hS0] at H1
    rw [← hSC] at q2 y1
    rw [← hSD] at q3 y2
    simp only [← hSC] at H2
    simp only [← hSD] at H3
    have b1 : ¬ 9223372036854775807 < S0.size + 1 := by omega
    have b2 : ¬ 9223372036854775807 < S1.size + SC.size := by omega
    have b3 : ¬ 9223372036854775807 < S2.size + SD.size := by omega
    have b4 : ¬ 9223372036854775807 < S3.size + 1 := by omega
    have k0 : (0 : Int) < (n : Int) % 100 := by omega
    clear q0 z1 z2 z3 z0 y1 y2 p46 p37 hS0 hS1 hS2 hS3 hS4 hSC hSD hA2 hC2 hD2 HR h0
    go_enter Tryd.func25, Tryd.ntmps25
    go_wp2_with (first
      | (go_at_call 24; with_reducible refine (H1 _).out.mono ?_; rintro e w1 ⟨rfl, rfl⟩)
      | (go_at_call 24; with_reducible refine (H2 _).out.mono ?_; rintro e w2 ⟨rfl, rfl⟩)
      | (go_at_call 24; with_reducible refine (H3 _).out.mono ?_; rintro e w3 ⟨rfl, rfl⟩)
      | fail)
    go_ret
    refine ⟨?_, rfl⟩
    rw [HR2.out, ← HS4.out]
    rfl
end Go.Proofs.YtjegfoeempojiaaDoor
