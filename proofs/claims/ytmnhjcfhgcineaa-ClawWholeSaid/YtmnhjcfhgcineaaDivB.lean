/-
  Contract of bits.Div64 at a high half above 0.
-/
import Derived.Test.YtmnhjcfhgcineaaDivA
import Derived.Test.YtmnhjcfhgcineaaDivP
import Derived.Deep.DeepCutAuto
import Derived.Deep.CutBlock
import Derived.Lib.ItoaNum
namespace Go.Proofs.Ytmnhjcfhgcineaa
open Go.RowKit

theorem wu_mul (a b : Nat) : IntKind.u64.wrap ((a : Int) * (b : Int)) = ((a * b % 18446744073709551616 : Nat) : Int) := by
  rw [IntKind.wrap_u64, ← Int.natCast_mul]; rfl
theorem wu_mulc (a : Nat) : IntKind.u64.wrap ((a : Int) * 4294967296) = ((a * 4294967296 % 18446744073709551616 : Nat) : Int) := wu_mul a 4294967296
theorem wu_add (a b : Nat) : IntKind.u64.wrap ((a : Int) + (b : Int)) = (((a + b) % 18446744073709551616 : Nat) : Int) := by
  rw [IntKind.wrap_u64, ← Int.natCast_add]; rfl
theorem wu_sub (a b : Nat) (h : b ≤ 18446744073709551616) : IntKind.u64.wrap ((a : Int) - (b : Int)) = (((a + (18446744073709551616 - b)) % 18446744073709551616 : Nat) : Int) := by
  rw [IntKind.wrap_u64]; omega
theorem wu_div (a b : Nat) (h : a < 18446744073709551616) : IntKind.u64.wrap ((a : Int) / (b : Int)) = ((a / b : Nat) : Int) := by
  rw [← Int.natCast_ediv, IntKind.wrap_u64]
  have : a / b ≤ a := Nat.div_le_self _ _
  obtain ⟨q, hq⟩ : ∃ q, q = a / b := ⟨_, rfl⟩
  rw [← hq] at this ⊢
  omega

/-- a difference, by rests -/
theorem mod_diff (M x z v : Nat) (h : x = z + v) (hv : v < M) : (x % M + (M - z % M)) % M = v := by
  have hM : 0 < M := by omega
  have h1 := Nat.mod_lt z hM
  have h2 : x % M = (z % M + v) % M := by rw [h, Nat.add_mod z v M, Nat.mod_eq_of_lt hv]
  rw [h2]
  by_cases hc : z % M + v < M
  · rw [Nat.mod_eq_of_lt hc, show z % M + v + (M - z % M) = v + M by omega, Nat.add_mod_right, Nat.mod_eq_of_lt hv]
  · rw [show z % M + v = (z % M + v - M) + M by omega, Nat.add_mod_right, Nat.mod_eq_of_lt (by omega : z % M + v - M < M), show z % M + v - M + (M - z % M) = v by omega, Nat.mod_eq_of_lt hv]

set_option maxHeartbeats 3200000 in
set_option maxRecDepth 100000 in
theorem div64_pos (hi lo y s : Nat) (w : World) (hh : 0 < hi) (hy : hi < y) (hs : s ≤ 63)
    (Y y1 y0 H X u L d1 d0 : Nat) (E1 : IntKind.u64.wrap ((y : Int) * 2 ^ s) = (Y : Int)) (E2 : (Y : Int) / 4294967296 = (y1 : Int)) (E3 : bits .and .u64 (Y : Int) 4294967295 = (y0 : Int)) (hy1 : 2147483648 ≤ y1) (hy1' : y1 < 4294967296) (hy0 : y0 < 4294967296)
    (HY : Hid (Y = y1 * 4294967296 + y0)) (HuY : Hid (u < Y))
    (E4 : IntKind.u64.wrap ((hi : Int) * 2 ^ s) = (H : Int)) (E5 : (lo : Int) / 2 ^ (64 - s) = (X : Int)) (E6 : bits .or .u64 (H : Int) (X : Int) = (u : Int)) (E7 : IntKind.u64.wrap ((lo : Int) * 2 ^ s) = (L : Int))
    (E8 : (L : Int) / 4294967296 = (d1 : Int)) (E9 : bits .and .u64 (L : Int) 4294967295 = (d0 : Int)) (hd1 : d1 < 4294967296) (hd0 : d0 < 4294967296) (hu : u < 18446744073709551616)
    (HLZ : Hid (Calls Try.prog 40 #[.int .u64 y] w fun e w' => e = .returned (.int .i64 s) ∧ w = w'))
    (Qt Rt : Nat) (HQt : Hid ((u * 4294967296 + d1) / Y * 4294967296 + ((u * 4294967296 + d1) % Y * 4294967296 + d0) / Y = Qt)) (HRt : Hid (((u * 4294967296 + d1) % Y * 4294967296 + d0) % Y = Rt * 2 ^ s)) (HQb : Hid (Qt < 18446744073709551616)) :
    Calls Try.prog 32 #[.int .u64 hi, .int .u64 lo, .int .u64 y] w fun e w' => e = .returned (.tuple #[.int .u64 Qt, .int .u64 Rt]) ∧ w = w' := by
  have h1 : ((y : Int) == 0) = false := by rw [beq_eq_false_iff_ne]; omega
  have h2 : decide ((y : Int) ≤ (hi : Int)) = false := decide_eq_false (by omega)
  have h3 : ((hi : Int) == 0) = false := by rw [beq_eq_false_iff_ne]; omega
  have h5 : ¬ ((y1 : Int) = 0) := by omega
  have h6 : (1 : Int) ≤ (y1 : Int) := by omega
  obtain ⟨qa, hqa⟩ : ∃ q, q = u / y1 := ⟨_, rfl⟩
  have E10 := wu_div u y1 hu
  rw [← hqa] at E10
  have hpa : qa * y1 ≤ u := by rw [hqa]; exact Nat.div_mul_le_self _ _
  have E11 := wu_mul qa y1
  rw [Nat.mod_eq_of_lt (by omega)] at E11
  obtain ⟨pa, hpa'⟩ : ∃ p, p = qa * y1 := ⟨_, rfl⟩
  rw [← hpa'] at E11 hpa
  have E12 := wu_sub u pa (by omega)
  have hra : (u + (18446744073709551616 - pa)) % 18446744073709551616 = u - pa := by omega
  rw [hra] at E12
  obtain ⟨ra, hra'⟩ : ∃ r, r = u - pa := ⟨_, rfl⟩
  rw [← hra'] at E12
  have HST : Hid (DigAt 4294967296 u d1 y1 y0 qa ra) := by
    have := DigAt.start (B := 4294967296) (u := u) (d := d1) (y1 := y1) (y0 := y0) (by omega) hy1' hy0 (by have := HY.out; have := HuY.out; omega) hd1
    have e : u % y1 = ra := by rw [hra', hpa', hqa, Nat.mod_eq_sub_div_mul]
    rw [← hqa, e] at this
    exact this
  clear hqa hpa hpa' hra hra'
  obtain ⟨Q1, hQ1⟩ : ∃ Q, Q = (u * 4294967296 + d1) / (y1 * 4294967296 + y0) := ⟨_, rfl⟩
  have HQ1 := Lib.hid hQ1
  clear hQ1
  go_enter Try.func32, Try.ntmps32
  go_wp2_with fail
  refine HLZ.out.mono ?_
  rintro e w' ⟨rfl, rfl⟩
  clear HLZ
  go_upto_block 0 with fail
  clear E1 E2 E3 E4 E5 E6 E7 E8 E9 E10 E11 E12 h1 h2 h3
  go_cut [15, 16] (fun a _ wx => a = .int .u64 Q1 ∧ wx = w)
  case first =>
    go_wp2_with fail
    go_loopg [15, 16] qa (fun gk a b wr => ∃ q r : Nat, a = .int .u64 q ∧ b = .int .u64 r ∧ q ≤ gk ∧ Hid (DigAt 4294967296 u d1 y1 y0 q r) ∧ Hid (wr = w))
    case atStart => exact ⟨qa, ra, rfl, rfl, Nat.le_refl _, HST, rfl⟩
    case round =>
      clear HST
      obtain ⟨q, r, rfl, rfl, hq, HD, HW⟩ := hrel
      have hw := HW.out
      subst hw
      clear HW
      have hr := HD.out.r_lt
      have hqb := HD.out.le
      have huY : u < y1 * 4294967296 + y0 := by have := HY.out; have := HuY.out; omega
      have HUY := Lib.hid huY
      clear huY
      by_cases hA : 4294967296 ≤ q
      · obtain ⟨p, rfl⟩ : ∃ p, q = p + 1 := ⟨q - 1, by omega⟩
        have tA : decide ((4294967296 : Int) ≤ (p : Int) + 1) = true := decide_eq_true (by omega)
        have tA2 : decide ((4294967296 : Int) ≤ ((p + 1 : Nat) : Int)) = true := decide_eq_true (by omega)
        by_cases hov : 4294967296 ≤ r + y1
        · have tB : decide ((4294967296 : Int) ≤ (r : Int) + (y1 : Int)) = true := decide_eq_true (by omega)
          go_wp2
          go_meet
          exact ⟨int_eq (by have := HD.out.over (by omega) (by omega) hy0 HUY.out hd1 (.inl hA) hov; rw [HQ1.out, ← this]; omega), rfl⟩
        · have tB : decide ((4294967296 : Int) ≤ (r : Int) + (y1 : Int)) = false := decide_eq_false (by omega)
          go_wp2
          go_roundg p
          case measure => omega
          case rel => exact ⟨p, r + y1, by first | rfl | exact int_eq (by omega), int_eq (by omega), Nat.le_refl _, HD.out.step (by omega) (by omega) HUY.out hd1 (.inl hA) (by omega), rfl⟩
      · have tA : decide ((4294967296 : Int) ≤ (q : Int)) = false := decide_eq_false (by omega)
        have hKb : q * y0 < 18446744073709551616 := by
          have := Nat.mul_le_mul (show q ≤ 4294967295 by omega) (show y0 ≤ 4294967295 by omega)
          omega
        have E20 := wu_mul q y0
        rw [Nat.mod_eq_of_lt hKb] at E20
        obtain ⟨K, hK⟩ : ∃ K, K = q * y0 := ⟨_, rfl⟩
        rw [← hK] at E20 hKb
        have HK := Lib.hid hK
        clear hK
        by_cases hB : r * 4294967296 + d1 < K
        · have hq1 : 1 ≤ q := by
            have := HK.out
            rcases Nat.eq_zero_or_pos q with h0 | h0
            · rw [h0, Nat.zero_mul] at this; omega
            · exact h0
          have tC : decide ((4294967296 : Int) * (r : Int) + (d1 : Int) < (K : Int)) = true := decide_eq_true (by omega)
          have hc : 4294967296 ≤ q ∨ r * 4294967296 + d1 < q * y0 := .inr (by rw [← HK.out]; exact hB)
          have HCC := Lib.hid hc
          clear hc
          by_cases hov : 4294967296 ≤ r + y1
          · have tB : decide ((4294967296 : Int) ≤ (r : Int) + (y1 : Int)) = true := decide_eq_true (by omega)
            go_wp2
            go_meet
            exact ⟨int_eq (by have := HD.out.over (by omega) (by omega) hy0 HUY.out hd1 HCC.out hov; rw [HQ1.out, ← this]; omega), rfl⟩
          · have tB : decide ((4294967296 : Int) ≤ (r : Int) + (y1 : Int)) = false := decide_eq_false (by omega)
            go_wp2
            go_roundg (q - 1)
            case measure => omega
            case rel => exact ⟨q - 1, r + y1, int_eq (by omega), int_eq (by omega), Nat.le_refl _, HD.out.step (by omega) (by omega) HUY.out hd1 HCC.out (by omega), rfl⟩
        · have tC : decide ((4294967296 : Int) * (r : Int) + (d1 : Int) < (K : Int)) = false := decide_eq_false (by omega)
          go_wp2
          go_meet
          exact ⟨int_eq (by have := HD.out.done (by omega) (by omega) (by rw [← HK.out]; omega); rw [HQ1.out, ← this]), rfl⟩
  case rest =>
    clear HST
    obtain ⟨rfl, rfl⟩ := hcut
    have hYb : Y < 18446744073709551616 := by have := HY.out; omega
    have hY0 : 0 < Y := by have := HY.out; omega
    obtain ⟨c1, hc1⟩ : ∃ c, c = u * 4294967296 % 18446744073709551616 := ⟨_, rfl⟩
    have E13 := wu_mulc u
    rw [← hc1] at E13
    obtain ⟨c2, hc2⟩ : ∃ c, c = (c1 + d1) % 18446744073709551616 := ⟨_, rfl⟩
    have E14 := wu_add c1 d1
    rw [← hc2] at E14
    obtain ⟨c3, hc3⟩ : ∃ c, c = Q1 * Y % 18446744073709551616 := ⟨_, rfl⟩
    have E15 := wu_mul Q1 Y
    rw [← hc3] at E15
    have E16 := wu_sub c2 c3 (by rw [hc3]; exact Nat.le_of_lt (Nat.mod_lt _ (by omega)))
    obtain ⟨v, hv⟩ : ∃ v, v = (u * 4294967296 + d1) % Y := ⟨_, rfl⟩
    have hvY : v < Y := by rw [hv]; exact Nat.mod_lt _ hY0
    have hsum : u * 4294967296 + d1 = Q1 * Y + v := by
      rw [hv, HQ1.out, ← HY.out]
      have := Nat.div_add_mod (u * 4294967296 + d1) Y
      rw [Nat.mul_comm Y] at this
      exact this.symm
    have e16 : (c2 + (18446744073709551616 - c3)) % 18446744073709551616 = v := by
      have e1 : c2 = (u * 4294967296 + d1) % 18446744073709551616 := by rw [hc2, hc1, Nat.mod_add_mod]
      rw [e1, hc3]
      exact mod_diff _ _ _ _ hsum (by omega)
    rw [e16] at E16
    rw [← HY.out] at HQ1
    rw [← hv, ← HQ1.out] at HQt
    rw [← hv] at HRt
    have HvY := Lib.hid hvY
    have hvM : v < 18446744073709551616 := by omega
    clear hc1 hc2 hc3 e16 hsum hv hvY HQ1
    obtain ⟨qb, hqb⟩ : ∃ q, q = v / y1 := ⟨_, rfl⟩
    have E17 := wu_div v y1 hvM
    rw [← hqb] at E17
    have hpb : qb * y1 ≤ v := by rw [hqb]; exact Nat.div_mul_le_self _ _
    have E18 := wu_mul qb y1
    rw [Nat.mod_eq_of_lt (by omega)] at E18
    obtain ⟨pb, hpb'⟩ : ∃ p, p = qb * y1 := ⟨_, rfl⟩
    rw [← hpb'] at E18 hpb
    have E19 := wu_sub v pb (by omega)
    have hrb : (v + (18446744073709551616 - pb)) % 18446744073709551616 = v - pb := by omega
    rw [hrb] at E19
    obtain ⟨rb, hrb'⟩ : ∃ r, r = v - pb := ⟨_, rfl⟩
    rw [← hrb'] at E19
    have HST : Hid (DigAt 4294967296 v d0 y1 y0 qb rb) := by
      have := DigAt.start (B := 4294967296) (u := v) (d := d0) (y1 := y1) (y0 := y0) (by omega) hy1' hy0 (by have := HY.out; have := HvY.out; omega) hd0
      have e : v % y1 = rb := by rw [hrb', hpb', hqb, Nat.mod_eq_sub_div_mul]
      rw [← hqb, e] at this
      exact this
    clear hqb hpb hpb' hrb hrb'
    obtain ⟨Q0, hQ0⟩ : ∃ Q, Q = (v * 4294967296 + d0) / (y1 * 4294967296 + y0) := ⟨_, rfl⟩
    have HQ0 := Lib.hid hQ0
    clear hQ0
    go_upto_block 2 with fail
    clear E13 E14 E15 E16 E17 E18 E19
    go_cut [18, 16] (fun a _ wx => a = .int .u64 Q0 ∧ wx = wc)
    case first =>
      go_wp2_with fail
      go_loopg [18, 16] qb (fun gk a b wr => ∃ q r : Nat, a = .int .u64 q ∧ b = .int .u64 r ∧ q ≤ gk ∧ Hid (DigAt 4294967296 v d0 y1 y0 q r) ∧ Hid (wr = wc))
      case atStart => exact ⟨qb, rb, rfl, rfl, Nat.le_refl _, HST, rfl⟩
      case round =>
        clear HST
        obtain ⟨q, r, rfl, rfl, hq, HD, HW⟩ := hrel
        have hw := HW.out
        subst hw
        clear HW
        have hr := HD.out.r_lt
        have hqb := HD.out.le
        have huY : v < y1 * 4294967296 + y0 := by have := HY.out; have := HvY.out; omega
        have HUY := Lib.hid huY
        clear huY
        by_cases hA : 4294967296 ≤ q
        · obtain ⟨p, rfl⟩ : ∃ p, q = p + 1 := ⟨q - 1, by omega⟩
          have tA : decide ((4294967296 : Int) ≤ (p : Int) + 1) = true := decide_eq_true (by omega)
          have tA2 : decide ((4294967296 : Int) ≤ ((p + 1 : Nat) : Int)) = true := decide_eq_true (by omega)
          by_cases hov : 4294967296 ≤ r + y1
          · have tB : decide ((4294967296 : Int) ≤ (r : Int) + (y1 : Int)) = true := decide_eq_true (by omega)
            go_wp2
            go_meet
            exact ⟨int_eq (by have := HD.out.over (by omega) (by omega) hy0 HUY.out hd0 (.inl hA) hov; rw [HQ0.out, ← this]; omega), rfl⟩
          · have tB : decide ((4294967296 : Int) ≤ (r : Int) + (y1 : Int)) = false := decide_eq_false (by omega)
            go_wp2
            go_roundg p
            case measure => omega
            case rel => exact ⟨p, r + y1, by first | rfl | exact int_eq (by omega), int_eq (by omega), Nat.le_refl _, HD.out.step (by omega) (by omega) HUY.out hd0 (.inl hA) (by omega), rfl⟩
        · have tA : decide ((4294967296 : Int) ≤ (q : Int)) = false := decide_eq_false (by omega)
          have hKb : q * y0 < 18446744073709551616 := by
            have := Nat.mul_le_mul (show q ≤ 4294967295 by omega) (show y0 ≤ 4294967295 by omega)
            omega
          have E20 := wu_mul q y0
          rw [Nat.mod_eq_of_lt hKb] at E20
          obtain ⟨K, hK⟩ : ∃ K, K = q * y0 := ⟨_, rfl⟩
          rw [← hK] at E20 hKb
          have HK := Lib.hid hK
          clear hK
          by_cases hB : r * 4294967296 + d0 < K
          · have hq1 : 1 ≤ q := by
              have := HK.out
              rcases Nat.eq_zero_or_pos q with h0 | h0
              · rw [h0, Nat.zero_mul] at this; omega
              · exact h0
            have tC : decide ((4294967296 : Int) * (r : Int) + (d0 : Int) < (K : Int)) = true := decide_eq_true (by omega)
            have hc : 4294967296 ≤ q ∨ r * 4294967296 + d0 < q * y0 := .inr (by rw [← HK.out]; exact hB)
            have HCC := Lib.hid hc
            clear hc
            by_cases hov : 4294967296 ≤ r + y1
            · have tB : decide ((4294967296 : Int) ≤ (r : Int) + (y1 : Int)) = true := decide_eq_true (by omega)
              go_wp2
              go_meet
              exact ⟨int_eq (by have := HD.out.over (by omega) (by omega) hy0 HUY.out hd0 HCC.out hov; rw [HQ0.out, ← this]; omega), rfl⟩
            · have tB : decide ((4294967296 : Int) ≤ (r : Int) + (y1 : Int)) = false := decide_eq_false (by omega)
              go_wp2
              go_roundg (q - 1)
              case measure => omega
              case rel => exact ⟨q - 1, r + y1, int_eq (by omega), int_eq (by omega), Nat.le_refl _, HD.out.step (by omega) (by omega) HUY.out hd0 HCC.out (by omega), rfl⟩
          · have tC : decide ((4294967296 : Int) * (r : Int) + (d0 : Int) < (K : Int)) = false := decide_eq_false (by omega)
            go_wp2
            go_meet
            exact ⟨int_eq (by have := HD.out.done (by omega) (by omega) (by rw [← HK.out]; omega); rw [HQ0.out, ← this]), rfl⟩
    case rest =>
      clear HST
      obtain ⟨rfl, hwe⟩ := hcut
      subst hwe
      rw [← HY.out] at HQ0
      obtain ⟨f1, hf1⟩ : ∃ c, c = Q1 * 4294967296 % 18446744073709551616 := ⟨_, rfl⟩
      have E21 := wu_mulc Q1
      rw [← hf1] at E21
      have E22 := wu_add f1 Q0
      have e22 : (f1 + Q0) % 18446744073709551616 = Qt := by
        rw [hf1, Nat.mod_add_mod, HQ0.out, HQt.out]
        exact Nat.mod_eq_of_lt HQb.out
      rw [e22] at E22
      obtain ⟨g1, hg1⟩ : ∃ c, c = v * 4294967296 % 18446744073709551616 := ⟨_, rfl⟩
      have E23 := wu_mulc v
      rw [← hg1] at E23
      obtain ⟨g2, hg2⟩ : ∃ c, c = (g1 + d0) % 18446744073709551616 := ⟨_, rfl⟩
      have E24 := wu_add g1 d0
      rw [← hg2] at E24
      obtain ⟨g3, hg3⟩ : ∃ c, c = Q0 * Y % 18446744073709551616 := ⟨_, rfl⟩
      have E25 := wu_mul Q0 Y
      rw [← hg3] at E25
      have E26 := wu_sub g2 g3 (by rw [hg3]; exact Nat.le_of_lt (Nat.mod_lt _ (by omega)))
      obtain ⟨g4, hg4⟩ : ∃ v', v' = (v * 4294967296 + d0) % Y := ⟨_, rfl⟩
      have hsum : v * 4294967296 + d0 = Q0 * Y + g4 := by
        rw [hg4, HQ0.out]
        have := Nat.div_add_mod (v * 4294967296 + d0) Y
        rw [Nat.mul_comm Y] at this
        exact this.symm
      have hg4Y : g4 < Y := by rw [hg4]; exact Nat.mod_lt _ hY0
      have e26 : (g2 + (18446744073709551616 - g3)) % 18446744073709551616 = g4 := by
        have e1 : g2 = (v * 4294967296 + d0) % 18446744073709551616 := by rw [hg2, hg1, Nat.mod_add_mod]
        rw [e1, hg3]
        exact mod_diff _ _ _ _ hsum (by omega)
      rw [e26] at E26
      have E27 : (g4 : Int) / 2 ^ s = (Rt : Int) := by
        rw [hg4, HRt.out]
        have e : ((Rt * 2 ^ s : Nat) : Int) = (Rt : Int) * 2 ^ s := by rw [Int.natCast_mul, Int.natCast_pow]; rfl
        rw [e]
        exact Int.mul_ediv_cancel _ (by have : (0 : Int) < 2 ^ s := Int.pow_pos (by omega); omega)
      clear hf1 e22 hg1 hg2 hg3 hg4 hsum hg4Y e26 HQ0 HQt HRt HQb HY HuY HvY
      go_wp2
      go_ret2
      exact ⟨rfl, rfl⟩

theorem bitLen_at (y : Nat) (h0 : y ≠ 0) (h : y < 18446744073709551616) : 1 ≤ Lib.bitLen y ∧ Lib.bitLen y ≤ 64 ∧ 2 ^ (Lib.bitLen y - 1) ≤ y ∧ y < 2 ^ Lib.bitLen y := by
  have h64 : y < 2 ^ 64 := by rw [show (2 : Nat) ^ 64 = 18446744073709551616 from by decide]; exact h
  have := Lib.bitLenAux_bounds 64 y h64 h0
  exact ⟨this.1, Lib.bitLen_le y 64 (Nat.le_refl _) h64, this.2.1, this.2.2⟩

theorem two64 : (2 : Nat) ^ 64 = 18446744073709551616 := by decide
theorem two63 : (2 : Nat) ^ 63 = 9223372036854775808 := by decide

theorem u64_mask (a : Nat) (ha : a < 18446744073709551616) : bits .and .u64 (a : Int) 4294967295 = ((a % 4294967296 : Nat) : Int) := by
  have h := bits_and_u64_nat a 4294967295 ha (by omega)
  have e : a &&& 4294967295 = a % 4294967296 := Nat.and_two_pow_sub_one_eq_mod a 32
  rw [e] at h
  exact h

theorem div64_all (hi lo y : Nat) (hy : hi < y) (hlo : lo < 18446744073709551616) (hy2 : y < 18446744073709551616) : DivOK hi lo y := by
  rcases Nat.eq_zero_or_pos hi with h0 | hh
  · subst h0
    exact div64_zero lo y hy hlo
  intro w
  obtain ⟨b1, b2, b3, b4⟩ := bitLen_at y (by omega) hy2
  obtain ⟨bl, hbl⟩ : ∃ b, b = Lib.bitLen y := ⟨_, rfl⟩
  rw [← hbl] at b1 b2 b3 b4
  obtain ⟨s, hs⟩ : ∃ s, s = 64 - bl := ⟨_, rfl⟩
  have hsp : 0 < 2 ^ s := Nat.pow_pos (by omega)
  have p1 : 2 ^ bl * 2 ^ s = 18446744073709551616 := by rw [← Nat.pow_add, ← two64]; congr 1; omega
  have p2 : 2 ^ (bl - 1) * 2 ^ s = 9223372036854775808 := by rw [← Nat.pow_add, ← two63]; congr 1; omega
  have p3 : 2 ^ (64 - s) * 2 ^ s = 18446744073709551616 := by rw [← Nat.pow_add, ← two64]; congr 1; omega
  obtain ⟨Y, hYd⟩ : ∃ Y, Y = y * 2 ^ s := ⟨_, rfl⟩
  have Y1 : Y < 18446744073709551616 := by rw [hYd, ← p1]; exact Nat.mul_lt_mul_of_pos_right b4 hsp
  have Y2 : 9223372036854775808 ≤ Y := by rw [hYd, ← p2]; exact Nat.mul_le_mul_right _ b3
  have castP : ((2 ^ s : Nat) : Int) = 2 ^ s := by rw [Int.natCast_pow]; rfl
  have castQ : ((2 ^ (64 - s) : Nat) : Int) = 2 ^ (64 - s) := by rw [Int.natCast_pow]; rfl
  have E1 : IntKind.u64.wrap ((y : Int) * 2 ^ s) = (Y : Int) := by
    rw [← castP, wu_mul, ← hYd, Nat.mod_eq_of_lt Y1]
  obtain ⟨H, hH⟩ : ∃ H, H = hi * 2 ^ s := ⟨_, rfl⟩
  have H1 : H < Y := by rw [hH, hYd]; exact Nat.mul_lt_mul_of_pos_right hy hsp
  have E4 : IntKind.u64.wrap ((hi : Int) * 2 ^ s) = (H : Int) := by
    rw [← castP, wu_mul, ← hH, Nat.mod_eq_of_lt (by omega)]
  obtain ⟨X, hX⟩ : ∃ X, X = lo / 2 ^ (64 - s) := ⟨_, rfl⟩
  have E5 : (lo : Int) / 2 ^ (64 - s) = (X : Int) := by rw [← castQ, hX, Int.natCast_ediv]
  have X1 : X < 2 ^ s := by
    rw [hX, Nat.div_lt_iff_lt_mul (Nat.pow_pos (by omega)), Nat.mul_comm, p3]; exact hlo
  have X2 : X = lo * 2 ^ s / 18446744073709551616 := by
    rw [← p3, Nat.mul_div_mul_right _ _ hsp, hX]
  obtain ⟨L, hL⟩ : ∃ L, L = lo * 2 ^ s % 18446744073709551616 := ⟨_, rfl⟩
  have L1 : L < 18446744073709551616 := by rw [hL]; exact Nat.mod_lt _ (by omega)
  have E7 : IntKind.u64.wrap ((lo : Int) * 2 ^ s) = (L : Int) := by rw [← castP, wu_mul, ← hL]
  have hxl : lo * 2 ^ s = X * 18446744073709551616 + L := by
    have := Nat.div_add_mod (lo * 2 ^ s) 18446744073709551616
    rw [← X2, ← hL, Nat.mul_comm] at this
    exact this.symm
  have hN : (hi * 18446744073709551616 + lo) * 2 ^ s = (H + X) * 18446744073709551616 + L := by
    rw [Nat.add_mul, hxl, hH, Nat.add_mul, Nat.mul_assoc, Nat.mul_comm 18446744073709551616, ← Nat.mul_assoc]
    omega
  have hlt : hi * 18446744073709551616 + lo < y * 18446744073709551616 := by
    have : (hi + 1) * 18446744073709551616 ≤ y * 18446744073709551616 := Nat.mul_le_mul_right _ hy
    omega
  have huY : H + X < Y := by
    have h1 : (hi * 18446744073709551616 + lo) * 2 ^ s < Y * 18446744073709551616 := by
      rw [hYd, Nat.mul_assoc, Nat.mul_comm (2 ^ s), ← Nat.mul_assoc]
      exact Nat.mul_lt_mul_of_pos_right hlt hsp
    rw [hN] at h1
    omega
  have E6 : bits .or .u64 (H : Int) (X : Int) = ((H + X : Nat) : Int) := by
    rw [bits_or_u64_nat H X (by omega) (by omega), nat_join s H X (by rw [hH, Nat.mul_mod_left]) X1]
  have e8 := two_digits 4294967296 ((H + X) * 4294967296 + L / 4294967296) (L % 4294967296) Y (by omega)
  have eA : ((H + X) * 4294967296 + L / 4294967296) * 4294967296 + L % 4294967296 = (hi * 18446744073709551616 + lo) * 2 ^ s := by
    rw [hN]
    have := Nat.div_add_mod L 4294967296
    omega
  rw [eA] at e8
  have e9 := shift_div (hi * 18446744073709551616 + lo) y (2 ^ s) hsp
  rw [← hYd] at e9
  rw [e9.1, e9.2] at e8
  have HLZ : Hid (Calls Try.prog 40 #[.int .u64 y] w fun e w' => e = .returned (.int .i64 s) ∧ w = w') := by
    refine (Try.bits_LeadingZeros64 (y : Int) w (by omega) (by omega)).mono fun e w' ⟨he, hw⟩ => ⟨?_, hw.symm⟩
    rw [he, Int.toNat_natCast, ← hbl]
    exact congrArg Ending.returned (int_eq (by omega))
  refine (div64_pos hi lo y s w hh hy (by omega) Y (Y / 4294967296) (Y % 4294967296) H X (H + X) L (L / 4294967296) (L % 4294967296) E1 (by rw [Int.natCast_ediv]; rfl) (u64_mask Y Y1) (by omega) (by omega) (by omega)
    (by show _ = _; have := Nat.div_add_mod Y 4294967296; omega) huY E4 E5 E6 E7 (by rw [Int.natCast_ediv]; rfl) (u64_mask L L1) (by omega) (by omega) (by omega) HLZ _ _ e8.1 e8.2 ?_).mono fun e w' ⟨he, hw⟩ => ⟨he, 0, hw.symm⟩
  show _ < _
  rw [Nat.div_lt_iff_lt_mul (by omega)]
  omega
end Go.Proofs.Ytmnhjcfhgcineaa
