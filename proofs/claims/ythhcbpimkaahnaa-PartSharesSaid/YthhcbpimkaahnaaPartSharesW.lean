/-
  The walk of souklaw12.PartShares.
-/
import Derived.Test.YthhcbpimkaahnaaPtH
namespace Go.Proofs.Ythhcbpimkaahnaa
open Go.RowKit Go.Deep

/-- no more is held than is there -/
theorem held_between {N : Nat} {h : Int} (h0 : 0 ≤ h) (h1 : h ≤ 10000) (hN : N ≤ 9223372036854775807) : 0 ≤ mdV (N : Int) h 10000 0 ∧ mdV (N : Int) h 10000 0 ≤ (N : Int) := by
  have e := low_is (T := N) (S := 10000) (W := fun _ => h.toNat) (i := 0) (by show h.toNat ≤ 10000; omega) hN
  have e2 : ((h.toNat : Nat) : Int) = h := by omega
  simp only [e2] at e
  have hq : qf N 10000 (fun _ => h.toNat) 0 ≤ N := qf_le (by show h.toNat ≤ 10000; omega)
  rw [e]
  omega

set_option maxHeartbeats 1600000 in
theorem shares_many (A f t h q : Int) (a : Option Addr) (n c : Nat) (w : World) (hn : 20 < n) :
    Calls Try.prog 3 #[.int .i64 A, .agg #[.int .i64 f, .int .i64 t, .int .i64 h, .int .i64 q], .slice a n c] w fun e w' => e = .returned (.bool true) ∧ Below w.heap.size w w' := by
  have HB0 : Hid (Below w.heap.size w (w.alloc (.cells #[.int .i64 f, .int .i64 t, .int .i64 h, .int .i64 q] 23))) := (Below.refl _ w).alloc (Nat.le_refl _) _
  have HL := Lib.hid (lives12_any)
  have hgt : (20 : Int) < (n : Int) := by omega
  clear hn
  go_enter Try.func3, Try.ntmps3
  go_wp2_with fail
  refine (HL.out _).mono ?_
  rintro e w1 ⟨rfl, hb⟩
  have HB := Lib.hid (bel_onG HB0.out HB0.out.size hb)
  clear hb
  go_wp2_with fail
  refine (HL.out _).mono ?_
  rintro e w2 ⟨rfl, hb⟩
  have HB2 := Lib.hid (bel_onG HB.out HB.out.size hb)
  clear hb HL
  go_wp2
  go_ret
  exact ⟨rfl, HB2.out⟩

set_option maxHeartbeats 3200000 in
set_option maxRecDepth 100000 in
theorem shares_wrong (A f t h q : Int) (a : Option Addr) (c : Nat) (xs : List Sh) (w : World) (hA : Amt A) (hf : Amt f) (ht : Amt t) (hr : RowG 2 cSh w a xs) (hc : xs.length ≤ c) (hn : xs.length ≤ 20) (hE : ofE A f t h xs ≠ 0) :
    Calls Try.prog 3 #[.int .i64 A, .agg #[.int .i64 f, .int .i64 t, .int .i64 h, .int .i64 q], .slice a xs.length c] w fun e w' => e = .returned (.bool true) ∧ Below w.heap.size w w' := by
  have HB0 : Hid (Below w.heap.size w (w.alloc (.cells #[.int .i64 f, .int .i64 t, .int .i64 h, .int .i64 q] 23))) := (Below.refl _ w).alloc (Nat.le_refl _) _
  have HBX := Lib.hid (Blk.new w 23 #[.int .i64 f, .int .i64 t, .int .i64 h, .int .i64 q])
  have HL := Lib.hid (lives12_any)
  obtain ⟨s, tt, ho⟩ := Ordr.exists xs.length (fun i => (rf (A - f - t).toNat (ptS xs) (ptW xs) i : Int))
  have H1 : ∀ W, Below w.heap.size w W → Calls Try.prog 6 #[.int .i64 A, .agg #[.int .i64 f, .int .i64 t, .int .i64 h, .int .i64 q], .slice a xs.length c] W (OfBad (ofE A f t h xs) W) := fun W hb => of_bad A f t h q a c xs W hA hf ht (hr.keep hb) hc hE
  have H2 : ∀ W, Below w.heap.size w W → Calls Try.prog 7 #[.int .i64 A, .agg #[.int .i64 f, .int .i64 t, .int .i64 h, .int .i64 q], .slice a xs.length c] W (OfBad (ofE A f t h xs) W) := fun W hb => by
    refine Calls.mono (rparts_any A f t h q a c xs s tt W hA (hr.keep hb) (fun _ => ho)) ?_
    rintro e w' (⟨_, he⟩ | ⟨h0, _⟩)
    · exact he
    · exact absurd h0 hE
  have H1 := Lib.hid H1
  have H2 := Lib.hid H2
  obtain ⟨n, hnn⟩ : ∃ n, n = xs.length := ⟨_, rfl⟩
  obtain ⟨E, hEE⟩ : ∃ E, E = ofE A f t h xs := ⟨_, rfl⟩
  rw [← hnn, ← hEE] at H1 H2
  rw [← hEE] at hE
  rw [← hnn] at hn ⊢
  have hgt : ¬ (20 : Int) < (n : Int) := by omega
  have t1 : (E != 0) = true := by rw [bne_iff_ne]; exact hE
  clear hr hc hnn hEE hn hE hA hf ht ho
  go_enter Try.func3, Try.ntmps3
  go_wp2_with fail
  refine (HL.out _).mono ?_
  rintro e w1 ⟨rfl, hb⟩
  have HB := Lib.hid (bel_onG HB0.out HB0.out.size hb)
  have HBX1 := Lib.hid (HBX.out.since hb)
  have k0 : w1.cell? ⟨w.heap.size, 0, none⟩ = some (.int .i64 f) := HBX1.out.cell 0
  have k1 : w1.cell? ⟨w.heap.size, 1, none⟩ = some (.int .i64 t) := HBX1.out.cell 1
  have k2 : w1.cell? ⟨w.heap.size, 2, none⟩ = some (.int .i64 h) := HBX1.out.cell 2
  have k3 : w1.cell? ⟨w.heap.size, 3, none⟩ = some (.int .i64 q) := HBX1.out.cell 3
  clear hb HL
  go_wp2_with fail
  refine (H1.out _ HB.out).mono ?_
  rintro e w2 ⟨rfl, hb⟩
  have HB2 := Lib.hid (bel_onG HB.out HB.out.size hb)
  have HBX2 := Lib.hid (HBX1.out.since hb)
  have j0 : w2.cell? ⟨w.heap.size, 0, none⟩ = some (.int .i64 f) := HBX2.out.cell 0
  have j1 : w2.cell? ⟨w.heap.size, 1, none⟩ = some (.int .i64 t) := HBX2.out.cell 1
  have j2 : w2.cell? ⟨w.heap.size, 2, none⟩ = some (.int .i64 h) := HBX2.out.cell 2
  have j3 : w2.cell? ⟨w.heap.size, 3, none⟩ = some (.int .i64 q) := HBX2.out.cell 3
  clear hb k0 k1 k2 k3
  go_wp2_with fail
  refine (H2.out _ HB2.out).mono ?_
  rintro e w3 ⟨rfl, hb⟩
  have HB3 := Lib.hid (bel_onG HB2.out HB2.out.size hb)
  have HBX3 := Lib.hid (HBX2.out.since hb)
  have i0 : w3.cell? ⟨w.heap.size, 0, none⟩ = some (.int .i64 f) := HBX3.out.cell 0
  have i1 : w3.cell? ⟨w.heap.size, 1, none⟩ = some (.int .i64 t) := HBX3.out.cell 1
  clear hb j0 j1 j2 j3 H1 H2
  have t2 : (E != E) = false := by simp
  go_wp2
  refine wp_loop_rounds 1 ?_
  rw [rounds_succ]
  go_wp2
  go_ret
  exact ⟨rfl, HB3.out⟩

set_option maxHeartbeats 6400000 in
set_option maxRecDepth 100000 in
theorem shares_right (A f t h q : Int) (a : Option Addr) (c : Nat) (xs : List Sh) (w : World) (hA : Amt A) (hf : Amt f) (ht : Amt t) (hr : RowG 2 cSh w a xs) (hc : xs.length ≤ c) (hE : ofE A f t h xs = 0) :
    Calls Try.prog 3 #[.int .i64 A, .agg #[.int .i64 f, .int .i64 t, .int .i64 h, .int .i64 q], .slice a xs.length c] w fun e w' => e = .returned (.bool true) ∧ Below w.heap.size w w' := by
  have hcb : cstB A f t h = true := by
    cases e : cstB A f t h with
    | true => rfl
    | false => unfold ofE at hE; rw [e] at hE; cases hE
  obtain ⟨hcA, hcf, hct, hch0, hch1, hcft⟩ := cst_get hcb
  have hrg : rgF xs = 0 := by unfold ofE at hE; rw [hcb] at hE; exact hE
  have hlen : ¬ (xs.length = 0 ∨ 8 < xs.length) := fun hx => by rw [rgF_bad hx] at hrg; cases hrg
  have hrt : rgTo xs xs.length = 0 := by rw [← rgF_few hlen]; exact hrg
  have HG := Lib.hid (GoodW.of (xs := xs) (by omega) (by omega) hrt)
  have HB0 : Hid (Below w.heap.size w (w.alloc (.cells #[.int .i64 f, .int .i64 t, .int .i64 h, .int .i64 q] 23))) := (Below.refl _ w).alloc (Nat.le_refl _) _
  have HBX := Lib.hid (Blk.new w 23 #[.int .i64 f, .int .i64 t, .int .i64 h, .int .i64 q])
  have HL := Lib.hid (lives12_any)
  obtain ⟨T, hT⟩ : ∃ T, T = (A - f - t).toNat := ⟨_, rfl⟩
  have H1 : ∀ W, Below w.heap.size w W → Calls Try.prog 6 #[.int .i64 A, .agg #[.int .i64 f, .int .i64 t, .int .i64 h, .int .i64 q], .slice a xs.length c] W (OfYes T h xs W) := fun W hb => by
    rw [hT]
    exact of_yes A f t h q a c xs W hA hf ht (hr.keep hb) hc hE
  have H2 : ∀ W (s tt : Nat → Nat), Below w.heap.size w W → Ordr xs.length (fun i => (rf T (ptS xs) (ptW xs) i : Int)) s tt → Calls Try.prog 7 #[.int .i64 A, .agg #[.int .i64 f, .int .i64 t, .int .i64 h, .int .i64 q], .slice a xs.length c] W
      fun e w' => (∃ ar cr, e = .returned (.tuple #[.slice ar xs.length cr, .int .i64 0]) ∧ RowG 3 cPt w' ar (prtL xs (partK T (ptS xs) (ptW xs) tt (leftN T (ptS xs) (ptW xs) xs.length)) h)) ∧ Below W.heap.size W w' := fun W s tt hb ho => by
    refine Calls.mono (rparts_any A f t h q a c xs s tt W hA (hr.keep hb) (fun _ => by rw [← hT]; exact ho)) ?_
    rintro e w' (⟨h0, _⟩ | ⟨h0, ar, cr, he, hrow, hb⟩)
    · exact absurd hE h0
    · rw [← hT] at hrow
      exact ⟨⟨ar, cr, he, hrow⟩, hb⟩
  have H1 := Lib.hid H1
  have H2 := Lib.hid H2
  obtain ⟨n, hnn⟩ : ∃ n, n = xs.length := ⟨_, rfl⟩
  have HN := Lib.hid hnn
  have HT := Lib.hid hT
  have hn0 : 0 < n := by omega
  have hn8 : n ≤ 8 := by omega
  rw [← hnn] at H2
  rw [← hnn]
  have hgt : ¬ (20 : Int) < (n : Int) := by omega
  unfold OfYes at H1
  rw [← hnn] at H1
  clear hr hc hnn hE hA hf ht hcb hrg hlen hrt hT
  go_enter Try.func3, Try.ntmps3
  go_wp2_with fail
  refine (HL.out _).mono ?_
  rintro e w1 ⟨rfl, hb⟩
  have HB := Lib.hid (bel_onG HB0.out HB0.out.size hb)
  have HBX1 := Lib.hid (HBX.out.since hb)
  have k0 : w1.cell? ⟨w.heap.size, 0, none⟩ = some (.int .i64 f) := HBX1.out.cell 0
  have k1 : w1.cell? ⟨w.heap.size, 1, none⟩ = some (.int .i64 t) := HBX1.out.cell 1
  have k2 : w1.cell? ⟨w.heap.size, 2, none⟩ = some (.int .i64 h) := HBX1.out.cell 2
  have k3 : w1.cell? ⟨w.heap.size, 3, none⟩ = some (.int .i64 q) := HBX1.out.cell 3
  clear hb HL
  go_wp2_with fail
  refine (H1.out _ HB.out).mono ?_
  rintro e w2 ⟨g, s, tt, rfl, hO, hrow, hb⟩
  have HB2 := Lib.hid (bel_onG HB.out HB.out.size hb)
  have HBX2 := Lib.hid (HBX1.out.since hb)
  have HR2 := Lib.hid hrow
  have HO := Lib.hid hO
  have j0 : w2.cell? ⟨w.heap.size, 0, none⟩ = some (.int .i64 f) := HBX2.out.cell 0
  have j1 : w2.cell? ⟨w.heap.size, 1, none⟩ = some (.int .i64 t) := HBX2.out.cell 1
  have j2 : w2.cell? ⟨w.heap.size, 2, none⟩ = some (.int .i64 h) := HBX2.out.cell 2
  have j3 : w2.cell? ⟨w.heap.size, 3, none⟩ = some (.int .i64 q) := HBX2.out.cell 3
  clear hb k0 k1 k2 k3 hrow hO
  go_wp2_with fail
  refine (H2.out _ _ _ HB2.out HO.out).mono ?_
  rintro e w3 ⟨⟨ar, cr, rfl, hrow⟩, hb⟩
  have HB3 := Lib.hid (bel_onG HB2.out HB2.out.size hb)
  have HBX3 := Lib.hid (HBX2.out.since hb)
  have HR3 := Lib.hid (HR2.out.keep hb)
  have HRR := Lib.hid hrow
  have i0 : w3.cell? ⟨w.heap.size, 0, none⟩ = some (.int .i64 f) := HBX3.out.cell 0
  have i1 : w3.cell? ⟨w.heap.size, 1, none⟩ = some (.int .i64 t) := HBX3.out.cell 1
  clear hb j0 j1 j2 j3 H1 H2 hrow HR2
  obtain ⟨P, hP⟩ : ∃ P, P = partK T (ptS xs) (ptW xs) tt (leftN T (ptS xs) (ptW xs) n) := ⟨_, rfl⟩
  have hps : sumN P n = T := by rw [hP]; exact parts_sum HG.out.pos (by rw [HN.out]; rfl) HO.out
  have hTA : f + t + (T : Int) = A := by rw [HT.out]; omega
  have hPk : ∀ k, k < n → sumN P (k + 1) ≤ T := fun k hk => by rw [← hps]; exact sumN_mono hk
  rw [← hP] at HR3 HRR
  have HPS := Lib.hid hps
  have HTA := Lib.hid hTA
  have HPK := Lib.hid hPk
  have hf2 : f ≤ 1125899906842624 := by omega
  have ht2 : t ≤ 1125899906842624 := by omega
  clear hP hps hTA hPk hcft
  go_wp2
  go_loopg [11, 12, 13, 61] n (fun gk v11 _ _ i wr => ∃ k Z : Nat, k ≤ n ∧ i = .int .i64 k ∧ v11 = .int .i64 (f + t + (Z : Int)) ∧ n - k ≤ gk ∧ Z ≤ 1125899906842624 ∧ Hid (Z = sumN P k) ∧ Hid (Below w3.heap.size w3 wr))
  case atStart => exact ⟨0, 0, Nat.zero_le _, rfl, by simp, by omega, by omega, rfl, Below.refl _ _⟩
  case round =>
    obtain ⟨k, Z, hk, rfl, rfl, hgk, hZ, HZ, HBr⟩ := hrel
    by_cases hlt : k < n
    · obtain ⟨x, hx⟩ : ∃ x, xs[k]? = some x := ⟨_, List.getElem?_eq_getElem (by rw [← HN.out]; exact hlt)⟩
      obtain ⟨p, m⟩ := x
      obtain ⟨N, hNN⟩ : ∃ N, N = P k := ⟨_, rfl⟩
      obtain ⟨M, hM⟩ : ∃ M, M = mdV (N : Int) h 10000 0 := ⟨_, rfl⟩
      have hLk : (prtL xs P h)[k]? = some (p, (N : Int), M) := by rw [hM, hNN]; exact prtL_get _ h hx
      obtain ⟨b2, off2, rfl⟩ := HRR.out.form (by rw [prtL_length, ← HN.out]; exact hn0)
      obtain ⟨f0, f1, f2⟩ := cells3 (HR3.out.keep HBr.out) hLk
      obtain ⟨g0, g1, g2⟩ := cells3 (HRR.out.keep HBr.out) hLk
      rw [Nat.zero_add] at f0 f1 f2
      have hZN : Z + N = sumN P (k + 1) := by rw [HZ.out, hNN]; rfl
      have hle := HPK.out k hlt
      have hTT : (T : Int) ≤ 1125899906842624 := by have := HTA.out; have h1 := HT.out; omega
      have hN1 : N ≤ 1125899906842624 := by omega
      have hZN2 : Z + N ≤ 1125899906842624 := by omega
      obtain ⟨hM0, hM1⟩ := held_between hch0 hch1 (show N ≤ 9223372036854775807 by omega)
      rw [← hM] at hM0 hM1
      have HZN := Lib.hid hZN
      have hkz : (0 : Int) ≤ (k : Int) := by omega
      have hkn : (k : Int) < (n : Int) := by omega
      have l0 := World.block_lt_of_cell? wr _ g0
      have e0 : (wr.alloc (.cells #[.string (st p), .int .i64 (N : Int), .int .i64 M] 35)).cell? ⟨b2, off2 + k * 3, none⟩ = some (.string (st p)) := (World.cell?_alloc_lt _ _ _ l0).trans g0
      have e1 : (wr.alloc (.cells #[.string (st p), .int .i64 (N : Int), .int .i64 M] 35)).cell? ⟨b2, off2 + k * 3 + 1, none⟩ = some (.int .i64 (N : Int)) := (World.cell?_alloc_lt wr _ ⟨b2, off2 + k * 3 + 1, none⟩ l0).trans g1
      have e2 : (wr.alloc (.cells #[.string (st p), .int .i64 (N : Int), .int .i64 M] 35)).cell? ⟨b2, off2 + k * 3 + 2, none⟩ = some (.int .i64 M) := (World.cell?_alloc_lt wr _ ⟨b2, off2 + k * 3 + 2, none⟩ l0).trans g2
      have HBn : Hid (∀ z, Below w3.heap.size w3 ((wr.alloc (.cells #[.string (st p), .int .i64 (N : Int), .int .i64 M] 35)).drewN z)) := fun z => below_drewN (HBr.out.alloc HBr.out.size _) z
      clear hx hNN hM hLk g0 g1 g2 hZN hle hTT l0
      go_wp2_with fail
      go_quiet (fail)
      go_wp2
      go_roundg (n - (k + 1))
      case measure => omega
      case rel => exact ⟨k + 1, Z + N, by omega, by go_num, int_eq (by omega), by omega, hZN2, HZN.out, HBn.out _⟩
    · have hkn : ¬ ((k : Int) < (n : Int)) := by omega
      have hke : k = n := by omega
      have hfin : (f + t + (Z : Int) == A) = true := by
        rw [beq_iff_eq, HZ.out, hke, HPS.out]
        exact HTA.out
      have HBF := Lib.hid (bel_onG HB3.out HB3.out.size HBr.out)
      clear hke
      go_wp2
      go_ret
      exact ⟨rfl, HBF.out⟩
end Go.Proofs.Ythhcbpimkaahnaa
