/-
  Contract of money.Split where nothing is wrong.
-/
import Derived.Test.YtmnhjcfhgcineaaSplitB
namespace Go.Proofs.Ytmnhjcfhgcineaa
open Go.RowKit

theorem infoI64 : (Try.prog.info? 2).map (fun i => (i.zero, i.size, i.bytes)) = some (some (.int .i64 0), 1, 8) := by kernel_rfl
theorem infoU64 : (Try.prog.info? 51).map (fun i => (i.zero, i.size, i.bytes)) = some (some (.int .u64 0), 1, 8) := by kernel_rfl

/-- the two rows while the parts are reckoned: those below k -/
structure Parts (T S : Nat) (W : Nat → Nat) (n : Nat) (w wr : World) (k : Nat) : Prop where
  below : Below w.heap.size w wr
  size : wr.heap.size = w.heap.size + 2
  row1 : wr.rowIs w.heap.size 2 n (fun i => .int .i64 (if i < k then qf T S W i else 0 : Nat))
  row2 : wr.rowIs (w.heap.size + 1) 51 n (fun i => .int .u64 (if i < k then rf T S W i else 0 : Nat))

theorem Parts.drewN {T S : Nat} {W : Nat → Nat} {n k : Nat} {w wr : World} (h : Parts T S W n w wr k) (m : Nat) : Parts T S W n w (wr.drewN m) k :=
  ⟨⟨h.below.os, h.below.tape, h.below.output, h.below.size, h.below.block⟩, h.size, h.row1, h.row2⟩

theorem Parts.step {T S : Nat} {W : Nat → Nat} {n k : Nat} {w wr : World} (h : Parts T S W n w wr k) :
    Parts T S W n w ((wr.setCell ⟨w.heap.size, k, none⟩ (.int .i64 (qf T S W k : Nat))).setCell ⟨w.heap.size + 1, k, none⟩ (.int .u64 (rf T S W k : Nat))) (k + 1) := by
  refine ⟨(h.below.setCell (Nat.le_refl _) _).setCell (by simp) _, by simpa [World.setCell] using h.size, ((h.row1.set k _).setOther (by simp) _).congr fun i hi => ?_, ((h.row2.setOther (by simp) _).set k _).congr fun i hi => ?_⟩
  · by_cases e : i = k
    · subst e; simp
    · rw [if_neg e]
      by_cases e2 : i < k
      · rw [if_pos e2, if_pos (by omega)]
      · rw [if_neg e2, if_neg (by omega)]
  · by_cases e : i = k
    · subst e; simp
    · rw [if_neg e]
      by_cases e2 : i < k
      · rw [if_pos e2, if_pos (by omega)]
      · rw [if_neg e2, if_neg (by omega)]

theorem Parts.start (T S : Nat) (W : Nat → Nat) (n : Nat) (w : World) :
    Parts T S W n w ((w.alloc (.cells (madeCells #[.int .i64 0] n) 2)).alloc (.cells (madeCells #[.int .u64 0] n) 51)) 0 := by
  refine ⟨((Below.refl _ _).alloc (Nat.le_refl _) _).alloc (by simp) _, by simp, ((World.rowIs_made w _ n _).alloc _).congr fun i _ => ?_, ?_⟩
  · rw [if_neg (by omega)]; rfl
  · have := World.rowIs_made (w.alloc (.cells (madeCells #[.int .i64 0] n) 2)) (.int .u64 0) n 51
    have e : (w.alloc (.cells (madeCells #[.int .i64 0] n) 2)).heap.size = w.heap.size + 1 := by simp
    rw [e] at this
    exact this.congr fun i _ => by rw [if_neg (by omega)]; rfl

/-- the rows while what is left is given: j have got one more -/
structure Parts2 (T S : Nat) (W d t : Nat → Nat) (n g : Nat) (w wr : World) (j : Nat) : Prop where
  below : Below w.heap.size w wr
  row1 : wr.rowIs w.heap.size 2 n (fun i => .int .i64 (partK T S W t j i : Nat))
  row3 : wr.rowIs g 3 n (fun i => .int .i64 (d i : Nat))
  ne : w.heap.size < g

theorem Parts2.start {T S : Nat} {W d t : Nat → Nat} {n g : Nat} {w wr w' : World} (h : Parts T S W n w wr n) (h4 : Below wr.heap.size wr w') (h1 : w'.rowIs g 3 n (fun i => .int .i64 (d i : Nat))) (hg : wr.heap.size ≤ g) :
    Parts2 T S W d t n g w w' 0 := by
  have hsz := h.size
  refine ⟨h.below.trans (h4.mono (by omega)), (h.row1.of_block (h4.block _ (by omega))).congr fun i hi => ?_, h1, by omega⟩
  unfold partK
  rw [if_pos hi, if_neg (by omega)]
  rfl

theorem Parts2.step {T S : Nat} {W d t : Nat → Nat} {n g j : Nat} {key : Nat → Int} {w wr : World} (h : Parts2 T S W d t n g w wr j) (ho : Ordr n key d t) :
    Parts2 T S W d t n g w (wr.setCell ⟨w.heap.size, d j, none⟩ (.int .i64 ((qf T S W (d j) : Nat) + 1))) (j + 1) := by
  have hne := h.ne
  refine ⟨h.below.setCell (Nat.le_refl _) _, (h.row1.set (d j) _).congr fun i hi => ?_, h.row3.setOther (by simp; omega) _, h.ne⟩
  unfold partK
  by_cases e : i = d j
  · subst e
    rw [if_pos rfl, ho.ts, if_pos (by omega)]
    rfl
  · rw [if_neg e]
    have : t i ≠ j := fun e' => e (by rw [← e', ho.st])
    by_cases e2 : t i < j
    · rw [if_pos e2, if_pos (by omega)]
    · rw [if_neg e2, if_neg (by omega)]

theorem Parts2.cell {T S : Nat} {W d t : Nat → Nat} {n g j : Nat} {key : Nat → Int} {w wr : World} (h : Parts2 T S W d t n g w wr j) (ho : Ordr n key d t) (hj : j < n) :
    wr.cell? ⟨w.heap.size, d j, none⟩ = some (.int .i64 ((qf T S W (d j) : Nat) : Int)) := by
  have := h.row1.cell (ho.lt j hj)
  rw [this]
  unfold partK
  rw [ho.ts, if_neg (by omega)]
  rfl

set_option maxHeartbeats 1600000 in
theorem split_yes (T S b off c : Nat) (ws : List Int) (w : World) (hp : 0 < ws.length) (hn : ws.length ≤ 1000000) (hT : T ≤ 9223372036854775807) (hS : 0 < S) (hs : sumTo 0 ws = some (S : Int))
    (hr : ∀ i, i < ws.length → w.cell? ⟨b, off + i, none⟩ = some (.int .i64 (wN ws i : Nat))) (hbw : b < w.heap.size) (hA : anyNeg ws = false) (hS2 : S ≤ 9223372036854775807) (hSum : sumN (wN ws) ws.length = S)
    (hrow : RowI .i64 w (some ⟨b, off, none⟩) ws) (hz : ∀ z ∈ ws, Amt z) (hSort : SortOK ws.length)
    (hD : ∀ i, i < ws.length → T * wN ws i / 18446744073709551616 < S → DivOK (T * wN ws i / 18446744073709551616) (T * wN ws i % 18446744073709551616) S) :
    Calls Try.prog 17 #[.int .i64 T, .slice (some ⟨b, off, none⟩) ws.length c] w (SplitYes T S (wN ws) ws.length w) := by
  have hl : ws.length ≤ maxLen := by unfold maxLen; omega
  have HC := Lib.hid (containsFunc_any (some ⟨b, off, none⟩) c ws w hrow hl)
  rw [hA] at HC
  have HA := Lib.hid (Add_any (some ⟨b, off, none⟩) c ws w hrow hz hl)
  rw [hs, show overE (some (S : Int)).isSome = 0 from rfl, show (some (S : Int)).getD 0 = (S : Int) from rfl] at HA
  have HR := Lib.hid hr
  have HSort := Lib.hid hSort
  have HD := Lib.hid hD
  have HSum := Lib.hid hSum
  clear hA hs hr hSort hD hrow hz hl hSum
  obtain ⟨W, hW⟩ : ∃ W, W = wN ws := ⟨_, rfl⟩
  rw [← hW] at HR HSum HD ⊢
  clear hW
  obtain ⟨n, hn'⟩ : ∃ n, n = ws.length := ⟨_, rfl⟩
  rw [← hn'] at HR HSort HD HSum HC HA hp hn ⊢
  clear hn'
  have hmk := run_make_row' (P := Try.prog) 22 2 (.int .i64 0) 8 Try.underlying22 infoI64 rfl .i64 .i64 n (by omega) (by omega)
  have hmk2 := run_make_row' (P := Try.prog) 50 51 (.int .u64 0) 8 Try.underlying50 infoU64 rfl .i64 .i64 n (by omega) (by omega)
  have t1 : ((S : Int) == 0) = false := by rw [beq_eq_false_iff_ne]; omega
  go_enter Try.func17, Try.ntmps17
  go_wp2_with fail
  refine HC.out.mono ?_
  rintro e w' ⟨rfl, rfl⟩
  clear HC
  go_wp2_with fail
  refine HA.out.mono ?_
  rintro e w' ⟨rfl, rfl⟩
  clear HA
  go_wp2
  clear hmk hmk2 t1
  have HP : Hid (Parts T S W n w _ 0) := Parts.start T S W n w
  obtain ⟨w1, hw1⟩ : ∃ w1, w1 = (w.alloc (.cells (madeCells #[.int .i64 0] n) 2)).alloc (.cells (madeCells #[.int .u64 0] n) 51) := ⟨_, rfl⟩
  rw [← hw1] at HP ⊢
  clear hw1
  go_loopg [10, 43] n (fun gk l i wr => ∃ k L : Nat, k ≤ n ∧ i = .int .i64 k ∧ l = .int .i64 L ∧ n - k ≤ gk ∧ Hid (L + sumN (qf T S W) k = T) ∧ Hid (Parts T S W n w wr k))
  case atStart => exact ⟨0, T, Nat.zero_le _, rfl, rfl, by omega, rfl, HP⟩
  case round =>
    clear HP
    obtain ⟨k, L, hk, rfl, rfl, hgk, HL, HP⟩ := hrel
    by_cases hlt : k < n
    · have hcell : wr.cell? ⟨b, off + k, none⟩ = some (.int .i64 (W k : Nat)) := (HP.out.below.cell (by simpa using hbw)).trans (HR.out k hlt)
      have hWS : W k ≤ S := by rw [← HSum.out]; exact le_sumN hlt
      have hqT : qf T S W k ≤ T := qf_le hWS
      have hrS : rf T S W k < S := rf_lt hS k
      have hLq : L = T - sumN (qf T S W) (k + 1) + qf T S W k := by
        have h1 := q_sum_le (T := T) hS HSum.out (k := k + 1) (by omega)
        have h2 := HL.out
        rw [sumN] at h1 ⊢; omega
      have hLT : L ≤ T := by have := HL.out; omega
      have HDV := Lib.hid (divide_any T (W k) S wr (by omega) (by omega) hS (HD.out k hlt))
      have e1 : divV (T * W k / S) (T * W k / S) = ((qf T S W k : Nat) : Int) := if_pos (show qf T S W k ≤ _ by omega)
      have e2 : divV (T * W k / S) (T * W k % S) = ((rf T S W k : Nat) : Int) := if_pos (show qf T S W k ≤ _ by omega)
      have e3 : divE (T * W k / S) = 0 := if_pos (show qf T S W k ≤ _ by omega)
      unfold DividePost at HDV
      rw [e1, e2, e3] at HDV
      clear e1 e2 e3
      have HLQ := Lib.hid hLq
      clear hLq
      have hqL : qf T S W k ≤ L := by have := HLQ.out; omega
      have z1 : IntKind.u64.wrap (T : Int) = (T : Int) := by rw [IntKind.wrap_u64]; omega
      have z2 : IntKind.u64.wrap (W k : Int) = (W k : Int) := by rw [IntKind.wrap_u64]; omega
      have z3 : IntKind.u64.wrap (S : Int) = (S : Int) := by rw [IntKind.wrap_u64]; omega
      have f1 := HP.out.row1.frozen k
      have f2 := HP.out.row2.frozen k
      have c1 := HP.out.row1.cell hlt
      have c2 := HP.out.row2.cell hlt
      rw [if_neg (by omega)] at c1 c2
      obtain ⟨Q, hQ⟩ : ∃ Q, Q = qf T S W k := ⟨_, rfl⟩
      obtain ⟨R, hR⟩ : ∃ R, R = rf T S W k := ⟨_, rfl⟩
      rw [← hQ] at HDV hqL hqT HLQ
      rw [← hR] at HDV hrS
      have HQ := Lib.hid hQ
      have HRR := Lib.hid hR
      clear hQ hR
      go_wp2_with fail
      refine HDV.out.mono ?_
      rintro e w' ⟨rfl, m, rfl⟩
      clear HDV
      go_wp2
      go_roundg (n - (k + 1))
      case measure => omega
      case rel =>
        have hst := (HP.out.step).drewN m
        rw [← HQ.out, ← HRR.out] at hst
        exact ⟨k + 1, L - Q, by omega, by go_num, int_eq (by omega), by omega, by have := HL.out; show _ = _; rw [sumN, ← HQ.out]; omega, hst⟩
    · obtain rfl : k = n := by omega
      have HLL : Hid (L = leftN T S W k) := by show _ = _; unfold leftN; have := HL.out; omega
      have hLk : L ≤ k := by rw [HLL.out]; exact left_le hS HSum.out
      have hkey : ∀ i, i < k → wr.cell? ⟨w.heap.size + 1, i, none⟩ = some (.int .u64 ((rf T S W i : Nat) : Int)) := fun i hi => by
        have := HP.out.row2.cell hi
        rw [if_pos hi] at this; exact this
      have HM := Lib.hid (mostFirst_any (w.heap.size + 1) k k (fun i => ((rf T S W i : Nat) : Int)) wr HSort.out hn hkey (by rw [HP.out.size]; omega))
      clear hkey
      go_wp2_with fail
      refine HM.out.mono ?_
      rintro e w' ⟨g, d, rfl, hg, h1, h2, h3, h4⟩
      obtain ⟨t, ho⟩ := Ordr.of_shuf h2 h3
      have HO := Lib.hid ho
      have HQ2 : Hid (Parts2 T S W d t k g w w' 0) := Parts2.start HP.out h4 h1 hg
      clear HM ho h1 h2 h3 h4 hg HP
      go_wp2
      go_loopg [17, 78] L (fun gk _ i wr => ∃ j : Nat, j ≤ L ∧ i = .int .i64 j ∧ L - j ≤ gk ∧ Hid (Parts2 T S W d t k g w wr j))
      case atStart => exact ⟨0, Nat.zero_le _, rfl, by omega, HQ2⟩
      case round =>
        clear HQ2
        obtain ⟨j, hj, rfl, hgj, HQ2⟩ := hrel
        by_cases hjl : j < L
        · have hpl := HO.out.lt j (by omega)
          have hql := qf_left (T := T) hS HSum.out hpl
          rw [← HLL.out] at hql
          have c1 : wr.cell? ⟨g, j, none⟩ = some (.int .i64 ((d j : Nat) : Int)) := HQ2.out.row3.cell (by omega)
          have c2 := HQ2.out.cell HO.out (j := j) (by omega)
          have f2 := HQ2.out.row1.frozen (d j)
          have HST := Lib.hid (HQ2.out.step HO.out)
          obtain ⟨P, hP⟩ : ∃ P, P = d j := ⟨_, rfl⟩
          rw [← hP] at c1 c2 f2 hpl hql HST
          clear hP
          obtain ⟨Q, hQ⟩ : ∃ Q, Q = qf T S W P := ⟨_, rfl⟩
          rw [← hQ] at c2 hql HST
          clear hQ HQ2
          go_wp2
          go_roundg (L - (j + 1))
          case measure => omega
          case rel => exact ⟨j + 1, by omega, by go_num, by omega, HST⟩
        · obtain rfl : j = L := by omega
          go_wp2
          go_ret2
          have hrow := HQ2.out.row1
          rw [HLL.out] at hrow
          exact ⟨w.heap.size, d, t, rfl, Nat.le_refl _, HO.out, hrow, HQ2.out.below⟩
end Go.Proofs.Ytmnhjcfhgcineaa
