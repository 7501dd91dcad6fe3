/-
  The walk of LexRates.
-/
import Derived.Test.YtiigpkbgapegoaaDoorLexH
namespace Go.Proofs.YtiigpkbgapegoaaDoor
open Go.RowKit

set_option maxHeartbeats 4000000 in
set_option maxRecDepth 100000 in
theorem rates_walk (x : Int) (w : World) (h0 : 0 ≤ x) (h1 : x ≤ 4294967295) :
    Calls Tryd.prog 3 #[.int .u32 x] w fun e w' => e = .returned (.bool true) ∧ Below w.heap.size w w' := by
  obtain ⟨m, hm⟩ : ∃ m : Nat, x % 100000000 = (m : Int) := ⟨(x % 100000000).toNat, by omega⟩
  have hml : m < 100000000 := by omega
  have HL : ∀ W, Hid (Calls Tryd.prog 4 #[] W fun e w' => e = .returned (.bool true) ∧ Below W.heap.size W w') := fun W => lives_any W
  -- the figures
  have HD1 : ∀ W, Hid (Calls Tryd.prog 5 #[.int .i64 ((m : Int) / 100)] W fun e w' => e = .returned (.string (st (digL (m / 100)))) ∧ W = w') := fun W => digits_any _ (m / 100) W (Nat.le_refl _) (by omega)
  have HD2 : ∀ W, Hid (Calls Tryd.prog 5 #[.int .i64 ((m : Int) / 10 % 10)] W fun e w' => e = .returned (.string (st [figL (m / 10 % 10)])) ∧ W = w') := fun W => by
    have := digits_any _ (m / 10 % 10) W (Nat.le_refl _) (by omega)
    rw [digL_lo (by omega)] at this
    exact this
  have HD3 : ∀ W, Hid (Calls Tryd.prog 5 #[.int .i64 ((m : Int) % 10)] W fun e w' => e = .returned (.string (st [figL (m % 10)])) ∧ W = w') := fun W => by
    have := digits_any _ (m % 10) W (Nat.le_refl _) (by omega)
    rw [digL_lo (by omega)] at this
    exact this
  have HD4 : ∀ W, Hid (Calls Tryd.prog 5 #[.int .i64 ((m : Int) / 10)] W fun e w' => e = .returned (.string (st (digL (m / 10)))) ∧ W = w') := fun W => digits_any _ (m / 10) W (Nat.le_refl _) (by omega)
  -- the two texts
  have hla := digL_len 5 (m / 100) (by omega)
  have hlb := digL_len 6 (m / 10) (by omega)
  have hla2 : (twoL m).length ≤ 20 := by unfold twoL; simp; omega
  have hlb2 : (oneF m).length ≤ 20 := by unfold oneF; simp; omega
  obtain ⟨A, hA⟩ : ∃ A, A = digL (m / 100) := ⟨_, rfl⟩
  obtain ⟨A2, hA2⟩ : ∃ A2, A2 = digL (m / 10) := ⟨_, rfl⟩
  have e2 : twoL m = ((A ++ [46]) ++ [figL (m / 10 % 10)] ++ [figL (m % 10)]) ++ [37] := by rw [hA]; simp [twoL]
  have e1 : oneF m = (A2 ++ [46]) ++ [figL (m % 10)] ++ [37] := by rw [hA2]; simp [oneF]
  have HT2 : ∀ W, Hid (Calls Tryd.prog 6 #[.string (st (twoL m))] W fun e w' => ∃ g cap, e = .returned (.tuple #[.slice (some ⟨g, 0, none⟩) 1 cap, .int .i64 0, .int .i64 0]) ∧ w'.cell? ⟨g, 0, none⟩ = some (.int .i64 2) ∧ w'.cell? ⟨g, 1, none⟩ = some (.string (st (twoL m))) ∧ w'.cell? ⟨g, 2, none⟩ = some (.int .i64 (m : Int)) ∧ g < w'.heap.size ∧ Below W.heap.size W w') := fun W => tokens_one (two_toks hml) hla2 W
  have hB1 : ∀ W, 1000000 < m / 10 → Hid (Calls Tryd.prog 6 #[.string (st (oneF m))] W fun e w' => e = .returned (.tuple #[.slice none 0 0, .int .i64 0, .int .i64 2]) ∧ Below W.heap.size W w') := fun W hh => tokens_bad (p := 0) (x := 2) (by rw [one_toks hml, if_pos hh]) hlb2 W
  have hB2 : ∀ W, ¬ 1000000 < m / 10 → Hid (Calls Tryd.prog 6 #[.string (st (oneF m))] W fun e w' => ∃ g cap, e = .returned (.tuple #[.slice (some ⟨g, 0, none⟩) 1 cap, .int .i64 0, .int .i64 0]) ∧ w'.cell? ⟨g, 2, none⟩ = some (.int .i64 (10 * (m : Int))) ∧ Below W.heap.size W w') := fun W hh => by
    refine (tokens_one (by rw [one_toks hml, if_neg hh]) hlb2 W).mono ?_
    rintro e w' ⟨g, cap, he, _, _, c2, _, hb⟩
    exact ⟨g, cap, he, by rw [c2]; rfl, hb⟩
  rw [e2] at HT2
  rw [e1] at hB1 hB2
  rw [← hA] at HD1 hla
  rw [← hA2] at HD4 hlb
  have q1 := st_add A [46]
  have q2 := st_add (A ++ [46]) [figL (m / 10 % 10)]
  have q3 := st_add (A ++ [46] ++ [figL (m / 10 % 10)]) [figL (m % 10)]
  have q4 := st_add (A ++ [46] ++ [figL (m / 10 % 10)] ++ [figL (m % 10)]) [37]
  have r1 := st_add A2 [46]
  have r2 := st_add (A2 ++ [46]) [figL (m % 10)]
  have r3 := st_add (A2 ++ [46] ++ [figL (m % 10)]) [37]
  have z0 := st_size A
  have z1 := st_size (A ++ [46])
  have z2 := st_size (A ++ [46] ++ [figL (m / 10 % 10)])
  have z3 := st_size (A ++ [46] ++ [figL (m / 10 % 10)] ++ [figL (m % 10)])
  have y0 := st_size A2
  have y1 := st_size (A2 ++ [46])
  have y2 := st_size (A2 ++ [46] ++ [figL (m % 10)])
  have x1 := st_size [figL (m / 10 % 10)]
  have x2 := st_size [figL (m % 10)]
  simp only [List.length_append, List.length_singleton] at z1 z2 z3 y1 y2 x1 x2
  clear e1 e2 hA hA2 hla2 hlb2
  obtain ⟨F1, hF1⟩ : ∃ F, F = st [figL (m / 10 % 10)] := ⟨_, rfl⟩
  obtain ⟨F2, hF2⟩ : ∃ F, F = st [figL (m % 10)] := ⟨_, rfl⟩
  obtain ⟨S0, hS0⟩ : ∃ S, S = st A := ⟨_, rfl⟩
  obtain ⟨S1, hS1⟩ : ∃ S, S = st (A ++ [46]) := ⟨_, rfl⟩
  obtain ⟨S2, hS2⟩ : ∃ S, S = st (A ++ [46] ++ [figL (m / 10 % 10)]) := ⟨_, rfl⟩
  obtain ⟨S3, hS3⟩ : ∃ S, S = st (A ++ [46] ++ [figL (m / 10 % 10)] ++ [figL (m % 10)]) := ⟨_, rfl⟩
  obtain ⟨S4, hS4⟩ : ∃ S, S = st (A ++ [46] ++ [figL (m / 10 % 10)] ++ [figL (m % 10)] ++ [37]) := ⟨_, rfl⟩
  obtain ⟨R0, hR0⟩ : ∃ S, S = st A2 := ⟨_, rfl⟩
  obtain ⟨R1, hR1⟩ : ∃ S, S = st (A2 ++ [46]) := ⟨_, rfl⟩
  obtain ⟨R2, hR2⟩ : ∃ S, S = st (A2 ++ [46] ++ [figL (m % 10)]) := ⟨_, rfl⟩
  obtain ⟨R3, hR3⟩ : ∃ S, S = st (A2 ++ [46] ++ [figL (m % 10)] ++ [37]) := ⟨_, rfl⟩
  rw [← hS4] at q4 HT2
  rw [← hS3] at q4 q3 z3
  rw [← hS2] at q3 q2 z2
  rw [← hS1] at q2 q1 z1
  rw [← hS0] at q1 z0 HD1
  rw [← hR3] at r3 hB1 hB2
  rw [← hR2] at r3 r2 y2
  rw [← hR1] at r2 r1 y1
  rw [← hR0] at r1 y0 HD4
  rw [← hF1] at q2 x1 HD2
  rw [← hF2] at q3 r2 x2 HD3
  clear hF1 hF2 hS0 hS1 hS2 hS3 hS4 hR0 hR1 hR2 hR3
  have p46 : st [46] = ⟨#[46]⟩ := rfl
  have p37 : st [37] = ⟨#[37]⟩ := rfl
  rw [p46] at q1 r1
  rw [p37] at q4 r3
  have b1 : ¬ 9223372036854775807 < S0.size + 1 := by omega
  have b2 : ¬ 9223372036854775807 < S1.size + F1.size := by omega
  have b3 : ¬ 9223372036854775807 < S2.size + F2.size := by omega
  have b4 : ¬ 9223372036854775807 < S3.size + 1 := by omega
  have b5 : ¬ 9223372036854775807 < R0.size + 1 := by omega
  have b6 : ¬ 9223372036854775807 < R1.size + F2.size := by omega
  have b7 : ¬ 9223372036854775807 < R2.size + 1 := by omega
  clear p46 p37 z0 z1 z2 z3 y0 y1 y2 x1 x2 hla hlb
  by_cases hbig : 1000000 < m / 10
  · have HT1 := fun W => hB1 W hbig
    have hbi : (1000000 : Int) < (m : Int) / 10 := by omega
    clear hB1 hB2 hbig
    go_enter Tryd.func3, Tryd.ntmps3
    go_wp2_with (first
      | (go_at_call 4; with_reducible refine (HL _).out.mono ?_; rintro e w1 ⟨rfl, hb1⟩; have HB1 := Lib.hid hb1; clear hb1)
      | (go_at_call 5; with_reducible refine (HD1 _).out.mono ?_; rintro e w' ⟨rfl, rfl⟩)
      | (go_at_call 5; with_reducible refine (HD2 _).out.mono ?_; rintro e w' ⟨rfl, rfl⟩)
      | (go_at_call 5; with_reducible refine (HD3 _).out.mono ?_; rintro e w' ⟨rfl, rfl⟩)
      | (go_at_call 5; with_reducible refine (HD4 _).out.mono ?_; rintro e w' ⟨rfl, rfl⟩)
      | (go_at_call 6; with_reducible refine (HT2 _).out.mono ?_; rintro e w2 ⟨g, cap, rfl, c0, c1, c2, hg, hb2⟩; have HC := Lib.hid (And.intro c0 (And.intro c1 c2)); have HB2 := Lib.hid hb2; have HG := Lib.hid hg; clear c0 c1 c2 hg hb2)
      | (go_at_call 6; with_reducible refine (HT1 _).out.mono ?_; rintro e w3 ⟨rfl, hb3⟩; have d0 := (hb3.cell (p := ⟨g, 0, none⟩) HG.out).trans HC.out.1; have d1 := (hb3.cell (p := ⟨g, 1, none⟩) HG.out).trans HC.out.2.1; have d2 := (hb3.cell (p := ⟨g, 2, none⟩) HG.out).trans HC.out.2.2; have HB3 := Lib.hid hb3; clear hb3)
      | fail)
    go_ret
    have k1 := HB1.out
    have k2 := HB2.out
    have k3 := HB3.out
    exact ⟨rfl, k1.trans ((k2.mono k1.size).trans (k3.mono (Nat.le_trans k1.size k2.size)))⟩
  · have HT1 := fun W => hB2 W hbig
    have hbi : ¬ (1000000 : Int) < (m : Int) / 10 := by omega
    clear hB1 hB2 hbig
    go_enter Tryd.func3, Tryd.ntmps3
    go_wp2_with (first
      | (go_at_call 4; with_reducible refine (HL _).out.mono ?_; rintro e w1 ⟨rfl, hb1⟩; have HB1 := Lib.hid hb1; clear hb1)
      | (go_at_call 5; with_reducible refine (HD1 _).out.mono ?_; rintro e w' ⟨rfl, rfl⟩)
      | (go_at_call 5; with_reducible refine (HD2 _).out.mono ?_; rintro e w' ⟨rfl, rfl⟩)
      | (go_at_call 5; with_reducible refine (HD3 _).out.mono ?_; rintro e w' ⟨rfl, rfl⟩)
      | (go_at_call 5; with_reducible refine (HD4 _).out.mono ?_; rintro e w' ⟨rfl, rfl⟩)
      | (go_at_call 6; with_reducible refine (HT2 _).out.mono ?_; rintro e w2 ⟨g, cap, rfl, c0, c1, c2, hg, hb2⟩; have HC := Lib.hid (And.intro c0 (And.intro c1 c2)); have HB2 := Lib.hid hb2; have HG := Lib.hid hg; clear c0 c1 c2 hg hb2)
      | (go_at_call 6; with_reducible refine (HT1 _).out.mono ?_; rintro e w3 ⟨g2, cap2, rfl, f2, hb3⟩; have d0 := (hb3.cell (p := ⟨g, 0, none⟩) HG.out).trans HC.out.1; have d1 := (hb3.cell (p := ⟨g, 1, none⟩) HG.out).trans HC.out.2.1; have d2 := (hb3.cell (p := ⟨g, 2, none⟩) HG.out).trans HC.out.2.2; have HB3 := Lib.hid hb3; clear hb3)
      | fail)
    go_ret
    have k1 := HB1.out
    have k2 := HB2.out
    have k3 := HB3.out
    exact ⟨rfl, k1.trans ((k2.mono k1.size).trans (k3.mono (Nat.le_trans k1.size k2.size)))⟩
end Go.Proofs.YtiigpkbgapegoaaDoor
