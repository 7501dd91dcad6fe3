/-
  Contract of the document's one.
-/
import Derived.Test.YtjegfoeempojiaaDoorPlnG
namespace Go.Proofs.YtjegfoeempojiaaDoor
open Go.RowKit Go.Maps

theorem line_tier (r : Rl) (h : formL r.1 = some [1, 2]) : lineI r = ((((r.1 ++ [32]) ++ Go.Lib.itoa r.2.2.1) ++ [32]) ++ pctI r.2.2.2) ++ [59, 10] := by unfold lineI partsI; rw [h]; simp [partI]
theorem line_cat (r : Rl) (h : formL r.1 = some [0, 2]) : lineI r = ((((r.1 ++ [32]) ++ r.2.1) ++ [32]) ++ pctI r.2.2.2) ++ [59, 10] := by unfold lineI partsI; rw [h]; simp [partI]
theorem line_num (r : Rl) (h : formL r.1 = some [1]) : lineI r = ((r.1 ++ [32]) ++ Go.Lib.itoa r.2.2.1) ++ [59, 10] := by unfold lineI partsI; rw [h]; simp [partI]
theorem line_tax (r : Rl) (h : formL r.1 = some [2]) : lineI r = ((r.1 ++ [32]) ++ pctI r.2.2.2) ++ [59, 10] := by unfold lineI partsI; rw [h]; simp [partI]
theorem line_res (r : Rl) (h : formL r.1 = some [2, 1]) : lineI r = ((((r.1 ++ [32]) ++ pctI r.2.2.2) ++ [32]) ++ Go.Lib.itoa r.2.2.1) ++ [59, 10] := by unfold lineI partsI; rw [h]; simp [partI]
theorem line_none (r : Rl) (h : formL r.1 = none) : lineI r = r.1 ++ [59, 10] := by unfold lineI partsI; rw [h]; rfl

set_option maxHeartbeats 8000000 in
set_option maxRecDepth 100000 in
theorem rline_any (kk nm : List UInt8) (a b : Nat) (w : World) (ha : a ≤ 9223372036854775807) (hb : b ≤ 9223372036854775807) (h1 : kk.length ≤ 1000000000) (h2 : nm.length ≤ 1000000000) :
    Calls Tryd.prog 15 #[.agg #[.string (st kk), .string (st nm), .int .i64 (a : Int), .int .i64 (b : Int)]] w fun e w' => e = .returned (.string (st (lineI (kk, nm, (a : Int), (b : Int))))) ∧ Below w.heap.size w w' := by
  obtain ⟨A, hA⟩ : ∃ A, A = Go.Lib.itoa (a : Int) := ⟨_, rfl⟩
  obtain ⟨P, hP⟩ : ∃ P, P = pctI (b : Int) := ⟨_, rfl⟩
  have hAl : A.length ≤ 21 := by rw [hA]; exact itoa_len ⟨by omega, by omega⟩
  have hPl : P.length ≤ 65 := by rw [hP]; exact pctI_len ⟨by omega, by omega⟩
  have HD : ∀ W, Hid (Calls Tryd.prog 24 #[.int .i64 (a : Int)] W fun e w' => e = .returned (.string (st A)) ∧ w' = W) := fun W => by
    rw [hA, Go.Lib.itoa_nonneg]
    exact (rdigits_any a a W (Nat.le_refl _) ha).mono (fun e w' ⟨h, h'⟩ => ⟨h, h'.symm⟩)
  have HP : ∀ W, Hid (Calls Tryd.prog 25 #[.int .i64 (b : Int)] W fun e w' => e = .returned (.string (st P)) ∧ w' = W) := fun W => by
    rw [hP]
    exact (rpct_any b W hb).mono (fun e w' ⟨h, h'⟩ => ⟨h, h'.symm⟩)
  have zA := st_size A
  have zP := st_size P
  have zT := st_size nm
  have p32 : st [32] = ⟨#[32]⟩ := rfl
  have p59 : st [59, 10] = ⟨#[59, 10]⟩ := rfl
  have q1 := lit_eq kk [116, 105, 101, 114]
  have q2 := lit_eq kk [99, 97, 116, 101, 103, 111, 114, 121]
  have q3 := lit_eq kk [99, 97, 112]
  have q4 := lit_eq kk [109, 105, 110, 105, 109, 117, 109]
  have q5 := lit_eq kk [116, 97, 120]
  have q6 := lit_eq kk [114, 101, 115, 101, 114, 118, 101]
  have l1 := line_tier (kk, nm, (a : Int), (b : Int))
  have l2 := line_cat (kk, nm, (a : Int), (b : Int))
  have l3 := line_num (kk, nm, (a : Int), (b : Int))
  have l5 := line_tax (kk, nm, (a : Int), (b : Int))
  have l6 := line_res (kk, nm, (a : Int), (b : Int))
  have l7 := line_none (kk, nm, (a : Int), (b : Int))
  simp only [← hA, ← hP] at l1 l2 l3 l5 l6 l7
  have BX : Below w.heap.size w (w.alloc (.cells #[.string (st kk), .string (st nm), .int .i64 (a : Int), .int .i64 (b : Int)] 24)) := (Below.refl _ w).alloc (Nat.le_refl _) _
  have HBX := Lib.hid BX
  clear hA hP BX ha hb
  rcases formL_six kk with ⟨e, h⟩ | ⟨e, h⟩ | ⟨e, h⟩ | ⟨e, h⟩ | ⟨e, h⟩ | ⟨e, h⟩ | ⟨h, g1, g2, g3, g4, g5, g6⟩
  · have HL := Lib.hid (l1 h)
    clear l1 l2 l3 l5 l6 l7
    have hkl : kk.length ≤ 8 := by rw [e]; decide
    have p1 : ((st kk).toList == [116, 105, 101, 114]) = true := by rw [q1, e]; decide
    have p2 : ((st kk).toList == [99, 97, 116, 101, 103, 111, 114, 121]) = false := by rw [q2, e]; decide
    have p3 : ((st kk).toList == [99, 97, 112]) = false := by rw [q3, e]; decide
    have p4 : ((st kk).toList == [109, 105, 110, 105, 109, 117, 109]) = false := by rw [q4, e]; decide
    have p5 : ((st kk).toList == [116, 97, 120]) = false := by rw [q5, e]; decide
    have p6 : ((st kk).toList == [114, 101, 115, 101, 114, 118, 101]) = false := by rw [q6, e]; decide
    clear q1 q2 q3 q4 q5 q6 h e
    have e0 := st_append kk [32]
    have e1 := st_append (kk ++ [32]) A
    have e2 := st_append ((kk ++ [32]) ++ A) [32]
    have e3 := st_append (((kk ++ [32]) ++ A) ++ [32]) P
    have e4 := st_append ((((kk ++ [32]) ++ A) ++ [32]) ++ P) [59, 10]
    have z0 := st_size kk
    have z1 := st_size (kk ++ [32])
    have z2 := st_size ((kk ++ [32]) ++ A)
    have z3 := st_size (((kk ++ [32]) ++ A) ++ [32])
    have z4 := st_size ((((kk ++ [32]) ++ A) ++ [32]) ++ P)
    simp only [List.length_append, List.length_cons, List.length_nil] at z0 z1 z2 z3 z4
    rw [p32] at e0
    rw [p32] at e2
    rw [p59] at e4
    obtain ⟨X5, hX5⟩ : ∃ X, X = st (((((kk ++ [32]) ++ A) ++ [32]) ++ P) ++ [59, 10]) := ⟨_, rfl⟩
    have HX := Lib.hid hX5
    rw [← hX5] at e4
    obtain ⟨X4, hX4⟩ : ∃ X, X = st ((((kk ++ [32]) ++ A) ++ [32]) ++ P) := ⟨_, rfl⟩
    rw [← hX4] at e4 e3 z4
    obtain ⟨X3, hX3⟩ : ∃ X, X = st (((kk ++ [32]) ++ A) ++ [32]) := ⟨_, rfl⟩
    rw [← hX3] at e3 e2 z3
    obtain ⟨X2, hX2⟩ : ∃ X, X = st ((kk ++ [32]) ++ A) := ⟨_, rfl⟩
    rw [← hX2] at e2 e1 z2
    obtain ⟨X1, hX1⟩ : ∃ X, X = st (kk ++ [32]) := ⟨_, rfl⟩
    rw [← hX1] at e1 e0 z1
    obtain ⟨SA, hSA⟩ : ∃ S, S = st A := ⟨_, rfl⟩
    simp only [← hSA] at e1 zA HD
    obtain ⟨SP, hSP⟩ : ∃ S, S = st P := ⟨_, rfl⟩
    simp only [← hSP] at e3 zP HP
    have b0 : ¬ 9223372036854775807 < (st kk).size + 1 := by omega
    have b1 : ¬ 9223372036854775807 < X1.size + SA.size := by omega
    have b2 : ¬ 9223372036854775807 < X2.size + 1 := by omega
    have b3 : ¬ 9223372036854775807 < X3.size + SP.size := by omega
    have b4 : ¬ 9223372036854775807 < X4.size + 2 := by omega
    clear zA zP zT hAl hPl hX1 hX2 hX3 hX4 hX5 z0 z1 z2 z3 z4 hSA hSP p32 p59
    go_enter Tryd.func15, Tryd.ntmps15
    go_wp2
    go_quiet (first | (go_at_call 24; exact Calls.quiet_of_same (HD _).out) | (go_at_call 25; exact Calls.quiet_of_same (HP _).out))
    go_wp2
    go_ret
    refine ⟨?_, bel_drewM HBX.out⟩
    rw [HL.out, ← HX.out]
    rfl
  · have HL := Lib.hid (l2 h)
    clear l1 l2 l3 l5 l6 l7
    have hkl : kk.length ≤ 8 := by rw [e]; decide
    have p1 : ((st kk).toList == [116, 105, 101, 114]) = false := by rw [q1, e]; decide
    have p2 : ((st kk).toList == [99, 97, 116, 101, 103, 111, 114, 121]) = true := by rw [q2, e]; decide
    have p3 : ((st kk).toList == [99, 97, 112]) = false := by rw [q3, e]; decide
    have p4 : ((st kk).toList == [109, 105, 110, 105, 109, 117, 109]) = false := by rw [q4, e]; decide
    have p5 : ((st kk).toList == [116, 97, 120]) = false := by rw [q5, e]; decide
    have p6 : ((st kk).toList == [114, 101, 115, 101, 114, 118, 101]) = false := by rw [q6, e]; decide
    clear q1 q2 q3 q4 q5 q6 h e
    have e0 := st_append kk [32]
    have e1 := st_append (kk ++ [32]) nm
    have e2 := st_append ((kk ++ [32]) ++ nm) [32]
    have e3 := st_append (((kk ++ [32]) ++ nm) ++ [32]) P
    have e4 := st_append ((((kk ++ [32]) ++ nm) ++ [32]) ++ P) [59, 10]
    have z0 := st_size kk
    have z1 := st_size (kk ++ [32])
    have z2 := st_size ((kk ++ [32]) ++ nm)
    have z3 := st_size (((kk ++ [32]) ++ nm) ++ [32])
    have z4 := st_size ((((kk ++ [32]) ++ nm) ++ [32]) ++ P)
    simp only [List.length_append, List.length_cons, List.length_nil] at z0 z1 z2 z3 z4
    rw [p32] at e0
    rw [p32] at e2
    rw [p59] at e4
    obtain ⟨X5, hX5⟩ : ∃ X, X = st (((((kk ++ [32]) ++ nm) ++ [32]) ++ P) ++ [59, 10]) := ⟨_, rfl⟩
    have HX := Lib.hid hX5
    rw [← hX5] at e4
    obtain ⟨X4, hX4⟩ : ∃ X, X = st ((((kk ++ [32]) ++ nm) ++ [32]) ++ P) := ⟨_, rfl⟩
    rw [← hX4] at e4 e3 z4
    obtain ⟨X3, hX3⟩ : ∃ X, X = st (((kk ++ [32]) ++ nm) ++ [32]) := ⟨_, rfl⟩
    rw [← hX3] at e3 e2 z3
    obtain ⟨X2, hX2⟩ : ∃ X, X = st ((kk ++ [32]) ++ nm) := ⟨_, rfl⟩
    rw [← hX2] at e2 e1 z2
    obtain ⟨X1, hX1⟩ : ∃ X, X = st (kk ++ [32]) := ⟨_, rfl⟩
    rw [← hX1] at e1 e0 z1
    obtain ⟨SP, hSP⟩ : ∃ S, S = st P := ⟨_, rfl⟩
    simp only [← hSP] at e3 zP HP
    have b0 : ¬ 9223372036854775807 < (st kk).size + 1 := by omega
    have b1 : ¬ 9223372036854775807 < X1.size + (st nm).size := by omega
    have b2 : ¬ 9223372036854775807 < X2.size + 1 := by omega
    have b3 : ¬ 9223372036854775807 < X3.size + SP.size := by omega
    have b4 : ¬ 9223372036854775807 < X4.size + 2 := by omega
    clear zA zP zT hAl hPl hX1 hX2 hX3 hX4 hX5 z0 z1 z2 z3 z4 hSP p32 p59
    go_enter Tryd.func15, Tryd.ntmps15
    go_wp2
    go_quiet (first | (go_at_call 24; exact Calls.quiet_of_same (HD _).out) | (go_at_call 25; exact Calls.quiet_of_same (HP _).out))
    go_wp2
    go_ret
    refine ⟨?_, bel_drewM HBX.out⟩
    rw [HL.out, ← HX.out]
    rfl
  · have HL := Lib.hid (l3 h)
    clear l1 l2 l3 l5 l6 l7
    have hkl : kk.length ≤ 8 := by rw [e]; decide
    have p1 : ((st kk).toList == [116, 105, 101, 114]) = false := by rw [q1, e]; decide
    have p2 : ((st kk).toList == [99, 97, 116, 101, 103, 111, 114, 121]) = false := by rw [q2, e]; decide
    have p3 : ((st kk).toList == [99, 97, 112]) = true := by rw [q3, e]; decide
    have p4 : ((st kk).toList == [109, 105, 110, 105, 109, 117, 109]) = false := by rw [q4, e]; decide
    have p5 : ((st kk).toList == [116, 97, 120]) = false := by rw [q5, e]; decide
    have p6 : ((st kk).toList == [114, 101, 115, 101, 114, 118, 101]) = false := by rw [q6, e]; decide
    clear q1 q2 q3 q4 q5 q6 h e
    have e0 := st_append kk [32]
    have e1 := st_append (kk ++ [32]) A
    have e2 := st_append ((kk ++ [32]) ++ A) [59, 10]
    have z0 := st_size kk
    have z1 := st_size (kk ++ [32])
    have z2 := st_size ((kk ++ [32]) ++ A)
    simp only [List.length_append, List.length_cons, List.length_nil] at z0 z1 z2
    rw [p32] at e0
    rw [p59] at e2
    obtain ⟨X3, hX3⟩ : ∃ X, X = st (((kk ++ [32]) ++ A) ++ [59, 10]) := ⟨_, rfl⟩
    have HX := Lib.hid hX3
    rw [← hX3] at e2
    obtain ⟨X2, hX2⟩ : ∃ X, X = st ((kk ++ [32]) ++ A) := ⟨_, rfl⟩
    rw [← hX2] at e2 e1 z2
    obtain ⟨X1, hX1⟩ : ∃ X, X = st (kk ++ [32]) := ⟨_, rfl⟩
    rw [← hX1] at e1 e0 z1
    obtain ⟨SA, hSA⟩ : ∃ S, S = st A := ⟨_, rfl⟩
    simp only [← hSA] at e1 zA HD
    have b0 : ¬ 9223372036854775807 < (st kk).size + 1 := by omega
    have b1 : ¬ 9223372036854775807 < X1.size + SA.size := by omega
    have b2 : ¬ 9223372036854775807 < X2.size + 2 := by omega
    clear zA zP zT hAl hPl hX1 hX2 hX3 z0 z1 z2 hSA p32 p59
    go_enter Tryd.func15, Tryd.ntmps15
    go_wp2_with (first | (go_at_call 24; with_reducible refine (HD _).out.mono ?_; rintro e w1 ⟨rfl, rfl⟩) | (go_at_call 25; with_reducible refine (HP _).out.mono ?_; rintro e w1 ⟨rfl, rfl⟩) | fail)
    go_ret
    refine ⟨?_, HBX.out⟩
    rw [HL.out, ← HX.out]
    rfl
  · have HL := Lib.hid (l3 h)
    clear l1 l2 l3 l5 l6 l7
    have hkl : kk.length ≤ 8 := by rw [e]; decide
    have p1 : ((st kk).toList == [116, 105, 101, 114]) = false := by rw [q1, e]; decide
    have p2 : ((st kk).toList == [99, 97, 116, 101, 103, 111, 114, 121]) = false := by rw [q2, e]; decide
    have p3 : ((st kk).toList == [99, 97, 112]) = false := by rw [q3, e]; decide
    have p4 : ((st kk).toList == [109, 105, 110, 105, 109, 117, 109]) = true := by rw [q4, e]; decide
    have p5 : ((st kk).toList == [116, 97, 120]) = false := by rw [q5, e]; decide
    have p6 : ((st kk).toList == [114, 101, 115, 101, 114, 118, 101]) = false := by rw [q6, e]; decide
    clear q1 q2 q3 q4 q5 q6 h e
    have e0 := st_append kk [32]
    have e1 := st_append (kk ++ [32]) A
    have e2 := st_append ((kk ++ [32]) ++ A) [59, 10]
    have z0 := st_size kk
    have z1 := st_size (kk ++ [32])
    have z2 := st_size ((kk ++ [32]) ++ A)
    simp only [List.length_append, List.length_cons, List.length_nil] at z0 z1 z2
    rw [p32] at e0
    rw [p59] at e2
    obtain ⟨X3, hX3⟩ : ∃ X, X = st (((kk ++ [32]) ++ A) ++ [59, 10]) := ⟨_, rfl⟩
    have HX := Lib.hid hX3
    rw [← hX3] at e2
    obtain ⟨X2, hX2⟩ : ∃ X, X = st ((kk ++ [32]) ++ A) := ⟨_, rfl⟩
    rw [← hX2] at e2 e1 z2
    obtain ⟨X1, hX1⟩ : ∃ X, X = st (kk ++ [32]) := ⟨_, rfl⟩
    rw [← hX1] at e1 e0 z1
    obtain ⟨SA, hSA⟩ : ∃ S, S = st A := ⟨_, rfl⟩
    simp only [← hSA] at e1 zA HD
    have b0 : ¬ 9223372036854775807 < (st kk).size + 1 := by omega
    have b1 : ¬ 9223372036854775807 < X1.size + SA.size := by omega
    have b2 : ¬ 9223372036854775807 < X2.size + 2 := by omega
    clear zA zP zT hAl hPl hX1 hX2 hX3 z0 z1 z2 hSA p32 p59
    go_enter Tryd.func15, Tryd.ntmps15
    go_wp2_with (first | (go_at_call 24; with_reducible refine (HD _).out.mono ?_; rintro e w1 ⟨rfl, rfl⟩) | (go_at_call 25; with_reducible refine (HP _).out.mono ?_; rintro e w1 ⟨rfl, rfl⟩) | fail)
    go_ret
    refine ⟨?_, HBX.out⟩
    rw [HL.out, ← HX.out]
    rfl
  · have HL := Lib.hid (l5 h)
    clear l1 l2 l3 l5 l6 l7
    have hkl : kk.length ≤ 8 := by rw [e]; decide
    have p1 : ((st kk).toList == [116, 105, 101, 114]) = false := by rw [q1, e]; decide
    have p2 : ((st kk).toList == [99, 97, 116, 101, 103, 111, 114, 121]) = false := by rw [q2, e]; decide
    have p3 : ((st kk).toList == [99, 97, 112]) = false := by rw [q3, e]; decide
    have p4 : ((st kk).toList == [109, 105, 110, 105, 109, 117, 109]) = false := by rw [q4, e]; decide
    have p5 : ((st kk).toList == [116, 97, 120]) = true := by rw [q5, e]; decide
    have p6 : ((st kk).toList == [114, 101, 115, 101, 114, 118, 101]) = false := by rw [q6, e]; decide
    clear q1 q2 q3 q4 q5 q6 h e
    have e0 := st_append kk [32]
    have e1 := st_append (kk ++ [32]) P
    have e2 := st_append ((kk ++ [32]) ++ P) [59, 10]
    have z0 := st_size kk
    have z1 := st_size (kk ++ [32])
    have z2 := st_size ((kk ++ [32]) ++ P)
    simp only [List.length_append, List.length_cons, List.length_nil] at z0 z1 z2
    rw [p32] at e0
    rw [p59] at e2
    obtain ⟨X3, hX3⟩ : ∃ X, X = st (((kk ++ [32]) ++ P) ++ [59, 10]) := ⟨_, rfl⟩
    have HX := Lib.hid hX3
    rw [← hX3] at e2
    obtain ⟨X2, hX2⟩ : ∃ X, X = st ((kk ++ [32]) ++ P) := ⟨_, rfl⟩
    rw [← hX2] at e2 e1 z2
    obtain ⟨X1, hX1⟩ : ∃ X, X = st (kk ++ [32]) := ⟨_, rfl⟩
    rw [← hX1] at e1 e0 z1
    obtain ⟨SP, hSP⟩ : ∃ S, S = st P := ⟨_, rfl⟩
    simp only [← hSP] at e1 zP HP
    have b0 : ¬ 9223372036854775807 < (st kk).size + 1 := by omega
    have b1 : ¬ 9223372036854775807 < X1.size + SP.size := by omega
    have b2 : ¬ 9223372036854775807 < X2.size + 2 := by omega
    clear zA zP zT hAl hPl hX1 hX2 hX3 z0 z1 z2 hSP p32 p59
    go_enter Tryd.func15, Tryd.ntmps15
    go_wp2_with (first | (go_at_call 24; with_reducible refine (HD _).out.mono ?_; rintro e w1 ⟨rfl, rfl⟩) | (go_at_call 25; with_reducible refine (HP _).out.mono ?_; rintro e w1 ⟨rfl, rfl⟩) | fail)
    go_ret
    refine ⟨?_, HBX.out⟩
    rw [HL.out, ← HX.out]
    rfl
  · have HL := Lib.hid (l6 h)
    clear l1 l2 l3 l5 l6 l7
    have hkl : kk.length ≤ 8 := by rw [e]; decide
    have p1 : ((st kk).toList == [116, 105, 101, 114]) = false := by rw [q1, e]; decide
    have p2 : ((st kk).toList == [99, 97, 116, 101, 103, 111, 114, 121]) = false := by rw [q2, e]; decide
    have p3 : ((st kk).toList == [99, 97, 112]) = false := by rw [q3, e]; decide
    have p4 : ((st kk).toList == [109, 105, 110, 105, 109, 117, 109]) = false := by rw [q4, e]; decide
    have p5 : ((st kk).toList == [116, 97, 120]) = false := by rw [q5, e]; decide
    have p6 : ((st kk).toList == [114, 101, 115, 101, 114, 118, 101]) = true := by rw [q6, e]; decide
    clear q1 q2 q3 q4 q5 q6 h e
    have e0 := st_append kk [32]
    have e1 := st_append (kk ++ [32]) P
    have e2 := st_append ((kk ++ [32]) ++ P) [32]
    have e3 := st_append (((kk ++ [32]) ++ P) ++ [32]) A
    have e4 := st_append ((((kk ++ [32]) ++ P) ++ [32]) ++ A) [59, 10]
    have z0 := st_size kk
    have z1 := st_size (kk ++ [32])
    have z2 := st_size ((kk ++ [32]) ++ P)
    have z3 := st_size (((kk ++ [32]) ++ P) ++ [32])
    have z4 := st_size ((((kk ++ [32]) ++ P) ++ [32]) ++ A)
    simp only [List.length_append, List.length_cons, List.length_nil] at z0 z1 z2 z3 z4
    rw [p32] at e0
    rw [p32] at e2
    rw [p59] at e4
    obtain ⟨X5, hX5⟩ : ∃ X, X = st (((((kk ++ [32]) ++ P) ++ [32]) ++ A) ++ [59, 10]) := ⟨_, rfl⟩
    have HX := Lib.hid hX5
    rw [← hX5] at e4
    obtain ⟨X4, hX4⟩ : ∃ X, X = st ((((kk ++ [32]) ++ P) ++ [32]) ++ A) := ⟨_, rfl⟩
    rw [← hX4] at e4 e3 z4
    obtain ⟨X3, hX3⟩ : ∃ X, X = st (((kk ++ [32]) ++ P) ++ [32]) := ⟨_, rfl⟩
    rw [← hX3] at e3 e2 z3
    obtain ⟨X2, hX2⟩ : ∃ X, X = st ((kk ++ [32]) ++ P) := ⟨_, rfl⟩
    rw [← hX2] at e2 e1 z2
    obtain ⟨X1, hX1⟩ : ∃ X, X = st (kk ++ [32]) := ⟨_, rfl⟩
    rw [← hX1] at e1 e0 z1
    obtain ⟨SP, hSP⟩ : ∃ S, S = st P := ⟨_, rfl⟩
    simp only [← hSP] at e1 zP HP
    obtain ⟨SA, hSA⟩ : ∃ S, S = st A := ⟨_, rfl⟩
    simp only [← hSA] at e3 zA HD
    have b0 : ¬ 9223372036854775807 < (st kk).size + 1 := by omega
    have b1 : ¬ 9223372036854775807 < X1.size + SP.size := by omega
    have b2 : ¬ 9223372036854775807 < X2.size + 1 := by omega
    have b3 : ¬ 9223372036854775807 < X3.size + SA.size := by omega
    have b4 : ¬ 9223372036854775807 < X4.size + 2 := by omega
    clear zA zP zT hAl hPl hX1 hX2 hX3 hX4 hX5 z0 z1 z2 z3 z4 hSP hSA p32 p59
    go_enter Tryd.func15, Tryd.ntmps15
    go_wp2
    go_quiet (first | (go_at_call 24; exact Calls.quiet_of_same (HD _).out) | (go_at_call 25; exact Calls.quiet_of_same (HP _).out))
    go_wp2
    go_ret
    refine ⟨?_, bel_drewM HBX.out⟩
    rw [HL.out, ← HX.out]
    rfl
  · have HL := Lib.hid (l7 h)
    clear l1 l2 l3 l5 l6 l7
    have p1 : ((st kk).toList == [116, 105, 101, 114]) = false := by rw [q1]; exact decide_eq_false g1
    have p2 : ((st kk).toList == [99, 97, 116, 101, 103, 111, 114, 121]) = false := by rw [q2]; exact decide_eq_false g2
    have p3 : ((st kk).toList == [99, 97, 112]) = false := by rw [q3]; exact decide_eq_false g3
    have p4 : ((st kk).toList == [109, 105, 110, 105, 109, 117, 109]) = false := by rw [q4]; exact decide_eq_false g4
    have p5 : ((st kk).toList == [116, 97, 120]) = false := by rw [q5]; exact decide_eq_false g5
    have p6 : ((st kk).toList == [114, 101, 115, 101, 114, 118, 101]) = false := by rw [q6]; exact decide_eq_false g6
    clear q1 q2 q3 q4 q5 q6 h g1 g2 g3 g4 g5 g6
    have e0 := st_append kk [59, 10]
    have z0 := st_size kk
    rw [p59] at e0
    obtain ⟨X1, hX1⟩ : ∃ X, X = st (kk ++ [59, 10]) := ⟨_, rfl⟩
    have HX := Lib.hid hX1
    rw [← hX1] at e0
    have b0 : ¬ 9223372036854775807 < (st kk).size + 2 := by omega
    clear zA zP zT hAl hPl hX1 z0 p32 p59
    go_enter Tryd.func15, Tryd.ntmps15
    go_wp2_with (first | (go_at_call 24; with_reducible refine (HD _).out.mono ?_; rintro e w1 ⟨rfl, rfl⟩) | (go_at_call 25; with_reducible refine (HP _).out.mono ?_; rintro e w1 ⟨rfl, rfl⟩) | fail)
    go_ret
    refine ⟨?_, HBX.out⟩
    rw [HL.out, ← HX.out]
    rfl
end Go.Proofs.YtjegfoeempojiaaDoor
