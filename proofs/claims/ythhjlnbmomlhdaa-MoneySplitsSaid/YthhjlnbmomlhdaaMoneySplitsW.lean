/-
  The walk of souklaw01.MoneySplits.
-/
import Derived.Test.YthhjlnbmomlhdaaMsB
namespace Go.Proofs.Ythhjlnbmomlhdaa
open Go.RowKit

set_option maxHeartbeats 3200000 in
theorem splits_many (T : Int) (a : Option Addr) (c n : Nat) (w : World) (hn : 40 < n) (hm : n ≤ 9223372036854775807) :
    Calls Try.prog 5 #[.int .i64 T, .slice a n c] w fun e w' => e = .returned (.bool true) ∧ Below w.heap.size w w' := by
  have HL := Lib.hid (lives_any w)
  go_enter Try.func5, Try.ntmps5
  go_wp2_with fail
  refine HL.out.mono ?_
  rintro e w1 ⟨rfl, hb⟩
  have HB := Lib.hid hb
  have HL2 := Lib.hid (lives_any w1)
  clear hb HL
  go_wp2_with fail
  refine HL2.out.mono ?_
  rintro e w2 ⟨rfl, hb⟩
  have HB2 := Lib.hid (HB.out.trans (hb.mono HB.out.size))
  clear hb HL2
  go_wp2
  go_ret
  exact ⟨rfl, HB2.out⟩

theorem split_wrong (T : Int) (a : Option Addr) (c : Nat) (ws : List Int) (w : World) (hr : RowI .i64 w a ws) (hz : ∀ z ∈ ws, Amt z) (hl : ws.length ≤ maxLen) (he : splitErr T ws ≠ 0) :
    Calls Try.prog 15 #[.int .i64 T, .slice a ws.length c] w (SplitErr T ws w) := by
  cases hA : anyNeg ws with
  | true => exact rsplit_neg T a c ws w hr hl hA
  | false => exact rsplit_bad T a c ws w hr hz hl hA he

set_option maxHeartbeats 3200000 in
theorem splits_wrong (T : Int) (a : Option Addr) (c : Nat) (ws : List Int) (w : World) (hr : RowI .i64 w a ws) (hz : ∀ z ∈ ws, Amt z) (hn : ws.length ≤ 40) (he : splitErr T ws ≠ 0) :
    Calls Try.prog 5 #[.int .i64 T, .slice a ws.length c] w fun e w' => e = .returned (.bool true) ∧ Below w.heap.size w w' := by
  have HL := Lib.hid (lives_any w)
  have hl : ws.length ≤ maxLen := by unfold maxLen; omega
  have H1 : ∀ W, Below w.heap.size w W → Hid (Calls Try.prog 14 #[.int .i64 T, .slice a ws.length c] W (SplitErr T ws W)) := fun W hb => split_err T a c ws W (hr.keep hb) hz hl he
  have H2 : ∀ W, Below w.heap.size w W → Hid (Calls Try.prog 15 #[.int .i64 T, .slice a ws.length c] W (SplitErr T ws W)) := fun W hb => split_wrong T a c ws W (hr.keep hb) hz hl he
  have H3 : ∀ W, Hid (Calls Try.prog 16 #[.slice none 0 0, .slice none 0 0] W fun e w' => e = .returned (.bool true) ∧ ∃ m, w' = W.drewN m) := fun W => equal_any none none 0 0 [] [] W (fun h => by simp at h) (fun h => by simp at h) (by simp)
  have H1 := Lib.hid H1
  have H2 := Lib.hid H2
  obtain ⟨E, hE⟩ : ∃ E, E = splitErr T ws := ⟨_, rfl⟩
  have HE := Lib.hid hE
  obtain ⟨n, hnn⟩ : ∃ n, n = ws.length := ⟨_, rfl⟩
  rw [← hnn] at H1 H2 hn ⊢
  rw [← hE] at he
  have tE : (E == 0) = false := by rw [beq_eq_false_iff_ne]; exact he
  have tE2 : (E != 0) = true := by rw [bne_iff_ne]; exact he
  clear hE hr hz hl hnn
  go_enter Try.func5, Try.ntmps5
  go_wp2_with fail
  refine HL.out.mono ?_
  rintro e w1 ⟨rfl, hb⟩
  have HB := Lib.hid hb
  clear hb HL
  go_wp2_with fail
  refine (H1.out _ HB.out).out.mono ?_
  rintro e w2 ⟨rfl, _, rfl⟩
  rw [← HE.out]
  go_wp2_with fail
  refine (H2.out _ HB.out).out.mono ?_
  rintro e w2 ⟨rfl, _, rfl⟩
  rw [← HE.out]
  clear H1 H2
  go_wp2_with fail
  refine (H3 _).out.mono ?_
  rintro e w2 ⟨rfl, m, rfl⟩
  go_wp2
  go_ret
  exact ⟨rfl, below_drewN HB.out m⟩

set_option maxHeartbeats 6400000 in
theorem splits_right (T S : Nat) (a : Option Addr) (c : Nat) (ws : List Int) (w : World) (hr : RowI .i64 w a ws) (hz : ∀ z ∈ ws, Amt z) (hn : ws.length ≤ 40) (hp : 0 < ws.length) (hT : T ≤ 9223372036854775807) (hS : 0 < S) (hS2 : S ≤ 9223372036854775807)
    (hA : anyNeg ws = false) (hsum : sumTo 0 ws = some (S : Int)) (hSN : sumN (wN ws) ws.length = S) (hW : ∀ i, i < ws.length → ws.getD i 0 = (wN ws i : Int)) :
    Calls Try.prog 5 #[.int .i64 T, .slice a ws.length c] w fun e w' => e = .returned (.bool true) ∧ Below w.heap.size w w' := by
  have HL := Lib.hid (lives_any w)
  have hl : ws.length ≤ maxLen := by unfold maxLen; omega
  obtain ⟨b, off, rfl, hc⟩ := hr hp
  have hcw : ∀ W, Below w.heap.size w W → ∀ i, i < ws.length → W.cell? ⟨b, off + i, none⟩ = some (.int .i64 (wN ws i : Nat)) := fun W hb i hi => by
    have h1 := hc i hi
    rw [hb.cell (p := ⟨b, off + i, none⟩) (World.block_lt_of_cell? w _ h1), h1, hW i hi]
  have hbw : ∀ W, Below w.heap.size w W → b < W.heap.size := fun W hb => World.block_lt_of_cell? W _ (hcw W hb 0 hp)
  have HC := Lib.hid hcw
  have hWS : ∀ i, i < ws.length → wN ws i ≤ S := fun i hi => by rw [← hSN]; exact le_sumN hi
  have H1 : ∀ W, Below w.heap.size w W → Hid (Calls Try.prog 14 #[.int .i64 T, .slice (some ⟨b, off, none⟩) ws.length c] W (SplitYes T S (wN ws) ws.length W)) := fun W hb =>
    split_yes T S b off c ws W hp (by omega) hT hS hsum (hcw W hb) (hbw W hb) hA hS2 hSN (hr.keep hb) hz (sortOK_40 hn)
      (fun i hi h => div64_all _ _ _ h (Nat.mod_lt _ (by omega)) (by omega))
  have H2 : ∀ W (s t : Nat → Nat), Below w.heap.size w W → Ordr ws.length (fun i => (rf T S (wN ws) i : Int)) s t → Hid (Calls Try.prog 15 #[.int .i64 T, .slice (some ⟨b, off, none⟩) ws.length c] W (RYes T S (wN ws) t ws.length W)) := fun W s t hb ho => by
    have hs := rSum_any (some ⟨b, off, none⟩) c ws W (hr.keep hb) hz hl
    rw [hsum] at hs
    exact rsplit_yes T S b off c ws.length (wN ws) W hp (by omega) hT hS hS2 hs (hcw W hb) hWS hSN s t ho
  have H4 : ∀ W, Below w.heap.size w W → Hid (Calls Try.prog 7 #[.slice (some ⟨b, off, none⟩) ws.length c] W fun e w' => e = .returned (.tuple #[.int .i64 S, .int .i64 0]) ∧ W = w') := fun W hb => by
    have hs := Add_any (some ⟨b, off, none⟩) c ws W (hr.keep hb) hz hl
    rw [hsum] at hs
    exact hs
  have H1 := Lib.hid H1
  have H2 := Lib.hid H2
  have H4 := Lib.hid H4
  obtain ⟨W, hWW⟩ : ∃ W, W = wN ws := ⟨_, rfl⟩
  obtain ⟨n, hnn⟩ : ∃ n, n = ws.length := ⟨_, rfl⟩
  rw [← hWW] at H1 H2 HC hSN hWS
  rw [← hnn] at H1 H2 H4 HC hSN hn hp hWS ⊢
  have HSN := Lib.hid hSN
  have HWS := Lib.hid hWS
  clear hr hz hl hc hcw hbw hW hA hsum hWW hnn hSN hWS
  go_enter Try.func5, Try.ntmps5
  go_wp2_with fail
  refine HL.out.mono ?_
  rintro e w1 ⟨rfl, hb⟩
  have HB := Lib.hid hb
  clear hb HL
  go_wp2_with fail
  refine (H1.out _ HB.out).out.mono ?_
  rintro e w2 ⟨g, s, t, rfl, hg, ho, hrow, hb⟩
  have HB2 := Lib.hid (HB.out.trans (hb.mono HB.out.size))
  have HO := Lib.hid ho
  have hrow1 : RowI .i64 w2 (some ⟨g, 0, none⟩) (partsI T S W t n) := RowI.of_rowIs (t := 2) (by
    rw [partsI_length]
    exact hrow.congr fun i hi => by rw [partsI_get hi])
  have HRow1 := Lib.hid hrow1
  clear hg ho hrow hb H1 hrow1
  go_wp2_with fail
  refine (H2.out _ _ _ HB2.out HO.out).out.mono ?_
  rintro e w3 ⟨g', c', rfl, hown, hb⟩
  have HB3 := Lib.hid (HB2.out.trans (hb.mono HB2.out.size))
  have HRow3 := Lib.hid (HRow1.out.keep hb)
  have hrow2 : RowI .i64 w3 (some ⟨g', 0, none⟩) (partsI T S W t n) := fun _ => ⟨g', 0, rfl, fun i hi => by
    rw [partsI_length] at hi
    rw [Nat.zero_add, partsI_get hi]
    exact cell_of_own hown (outK_get hi)⟩
  have H3 := equal_any (some ⟨g, 0, none⟩) (some ⟨g', 0, none⟩) n c' (partsI T S W t n) (partsI T S W t n) w3 HRow3.out hrow2 (by rw [partsI_length]; unfold maxLen; omega)
  rw [partsI_length, decide_eq_true rfl] at H3
  have H3 := Lib.hid H3
  clear hown hb hrow2 H2
  go_wp2_with fail
  refine H3.out.mono ?_
  rintro e w4 ⟨rfl, m, rfl⟩
  have HB4 := Lib.hid (below_drewN HB3.out m)
  have HRow4 : Hid (RowI .i64 (w3.drewN m) (some ⟨g, 0, none⟩) (partsI T S W t n)) := HRow3.out
  generalize w3.drewN m = w4 at HB4 HRow4 ⊢
  have H5 := Add_any (some ⟨g, 0, none⟩) n (partsI T S W t n) w4 HRow4.out (partsI_amt hS HSN.out hT) (by rw [partsI_length]; unfold maxLen; omega)
  rw [partsI_length, partsI_sumTo hS HSN.out HO.out hT, show overE (some (T : Int)).isSome = 0 from rfl, show (some (T : Int)).getD 0 = (T : Int) from rfl] at H5
  have H5 := Lib.hid H5
  clear H3
  go_wp2_with fail
  refine H5.out.mono ?_
  rintro e w5 ⟨rfl, rfl⟩
  go_wp2_with fail
  refine (H4.out _ HB4.out).out.mono ?_
  rintro e w5 ⟨rfl, rfl⟩
  clear H4 H5
  go_wp2
  go_loopg [13, 14, 15, 16, 17, 18, 73] n (fun gk _ _ _ _ _ _ i wr => ∃ k : Nat, k ≤ n ∧ i = .int .i64 k ∧ n - k ≤ gk ∧ Hid (∃ q, wr = w4.drewN q))
  case atStart => exact ⟨0, Nat.zero_le _, rfl, by omega, 0, rfl⟩
  case round =>
    obtain ⟨k, hk, rfl, hgk, HQ⟩ := hrel
    obtain ⟨q, hq⟩ := HQ.out
    have HBr : Hid (Below w.heap.size w wr) := by rw [hq]; exact below_drewN HB4.out q
    have HRr : Hid (RowI .i64 wr (some ⟨g, 0, none⟩) (partsI T S W t n)) := by rw [hq]; exact HRow4.out
    have HQ2 : Hid (∀ m, ∃ q, wr.drewN m = w4.drewN q) := fun m => ⟨q + m, by rw [hq, World.drewN_drewN]⟩
    clear hq HQ
    by_cases hlt : k < n
    · have c1 : wr.cell? ⟨g, k, none⟩ = some (.int .i64 (partK T S W t (leftN T S W n) k : Nat)) := by
        obtain ⟨b1, o1, e1, hc1⟩ := HRr.out (by rw [partsI_length]; exact hp)
        simp only [Option.some.injEq, Addr.mk.injEq, and_true] at e1
        obtain ⟨rfl, rfl⟩ := e1
        have := hc1 k (by rw [partsI_length]; exact hlt)
        rw [partsI_get hlt, Nat.zero_add] at this
        exact this
      have c2 := HC.out wr HBr.out k hlt
      have hWk := HWS.out k hlt
      have hbt := part_between (T := T) hS HSN.out HO.out (i := k)
      have M0 := mulDiv_any (T : Int) (W k : Int) S 0 wr (by unfold Amt; omega) (by unfold Amt; omega) hS hS2 (by omega)
      rw [low_is hWk hT] at M0
      have M1 := fun W' => mulDiv_any (T : Int) (W k : Int) S 1 W' (by unfold Amt; omega) (by unfold Amt; omega) hS hS2 (by omega)
      rw [high_is hWk hT] at M1
      obtain ⟨Z, hZ⟩ : ∃ Z, Z = W k := ⟨_, rfl⟩
      obtain ⟨P, hP⟩ : ∃ P, P = partK T S W t (leftN T S W n) k := ⟨_, rfl⟩
      obtain ⟨Lo, hLo⟩ : ∃ Lo, Lo = qf T S W k := ⟨_, rfl⟩
      obtain ⟨Hi, hHi⟩ : ∃ Hi, Hi = (qf T S W k + if rf T S W k = 0 then 0 else 1) := ⟨_, rfl⟩
      rw [← hHi] at M1 hbt
      rw [← hLo] at M0 hbt
      rw [← hP] at c1 hbt
      rw [← hZ] at M0 M1 c2
      obtain ⟨x0, hx0⟩ : ∃ x, x = overE (mdB (T : Int) (Z : Int) S 0) := ⟨_, rfl⟩
      obtain ⟨x1, hx1⟩ : ∃ x, x = overE (mdB (T : Int) (Z : Int) S 1) := ⟨_, rfl⟩
      rw [← hx0] at M0
      rw [← hx1] at M1
      obtain ⟨hb1, hb2⟩ := hbt
      have hkz : (0 : Int) ≤ (k : Int) := by omega
      have hkn : (k : Int) < (n : Int) := by omega
      have M0 := Lib.hid M0
      have M1 := Lib.hid M1
      clear hZ hP hLo hHi hx0 hx1 hWk
      go_wp2_with fail
      refine M0.out.mono ?_
      rintro e w6 ⟨rfl, m6, rfl⟩
      have c3 : (wr.drewN m6).cell? ⟨b, off + k, none⟩ = some (.int .i64 (Z : Nat)) := c2
      clear M0
      go_wp2_with fail
      refine (M1.out _).mono ?_
      rintro e w7 ⟨rfl, m7, rfl⟩
      have hlo : ¬ ((P : Int) < (Lo : Int)) := by omega
      have hhi : ¬ ((Hi : Int) < (P : Int)) := by omega
      have HQ3 := Lib.hid (HQ2.out (m6 + m7))
      clear M1 HQ2
      go_wp2
      go_roundg (n - (k + 1))
      case measure => omega
      case rel => exact ⟨k + 1, by omega, by go_num, by omega, HQ3.out⟩
    · have e : k = n := by omega
      subst e
      clear hgk
      go_wp2
      go_ret
      exact ⟨rfl, HBr.out⟩

theorem splits_walk (T : Int) (a : Option Addr) (c : Nat) (ws : List Int) (w : World) (hr : RowI .i64 w a ws) (hz : ∀ z ∈ ws, Amt z) (hl : ws.length ≤ maxLen) (hT : Amt T) :
    Calls Try.prog 5 #[.int .i64 T, .slice a ws.length c] w fun e w' => e = .returned (.bool true) ∧ Below w.heap.size w w' := by
  by_cases hn : 40 < ws.length
  · exact splits_many T a c ws.length w hn (by unfold maxLen at hl; omega)
  by_cases he : splitErr T ws ≠ 0
  · exact splits_wrong T a c ws w hr hz (by omega) he
  have he0 : splitErr T ws = 0 := Classical.byContradiction fun h => he h
  unfold splitErr at he0
  by_cases hbad : T < 0 ∨ anyNeg ws = true
  · rw [if_pos hbad] at he0; cases he0
  rw [if_neg hbad] at he0
  have hT0 : 0 ≤ T := by
    rcases Int.lt_or_le T 0 with h | h
    · exact absurd (.inl h) hbad
    · exact h
  have hA : anyNeg ws = false := by
    cases h : anyNeg ws with
    | true => exact absurd (.inr h) hbad
    | false => rfl
  cases hs : sumTo 0 ws with
  | none => rw [hs] at he0; cases he0
  | some s =>
    rw [hs] at he0
    simp only at he0
    by_cases hs0 : s = 0
    · rw [if_pos hs0] at he0; cases he0
    have hnn : ∀ j, j < ws.length → 0 ≤ ws.getD j 0 := fun j hj => by
      rcases Int.lt_or_le (ws.getD j 0) 0 with h0 | h0
      · have := anyNeg_of hj h0; rw [hA] at this; cases this
      · exact h0
    have e1 := sumTo_sum ws 0 s hs
    have e2 := sum_wN ws hnn
    have e3 := sumTo_amt ws 0 s (by unfold Amt; omega) hs
    unfold Amt at e3 hT
    obtain ⟨S, hS⟩ : ∃ S, S = sumN (wN ws) ws.length := ⟨_, rfl⟩
    have hsS : s = (S : Int) := by rw [e1, e2, hS]; omega
    obtain ⟨T', hT'⟩ : ∃ T' : Nat, T = (T' : Int) := ⟨T.toNat, by omega⟩
    subst hT'
    have hp : 0 < ws.length := by
      rcases Nat.eq_zero_or_pos ws.length with h0 | h0
      · rw [h0] at hS; simp [sumN] at hS; omega
      · exact h0
    exact splits_right T' S a c ws w hr hz (by omega) hp (by omega) (by omega) (by omega) hA (by rw [hs, hsS]) hS.symm (fun i hi => by unfold wN; have := hnn i hi; omega)
end Go.Proofs.Ythhjlnbmomlhdaa
