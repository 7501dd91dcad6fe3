/-
  Contract of part.Of.
-/
import Derived.Test.YthhcbpimkaahnaaPtS
import Derived.Laws.OwnMore
namespace Go.Proofs.Ythhcbpimkaahnaa
open Go.RowKit Go.Deep

/-- what is wrong with an amount, its costs, its shares -/
def ofE (A f t h : Int) (xs : List Sh) : Int := if cstB A f t h then rgF xs else 1

/-- something is wrong -/
def OfBad (E : Int) (w : World) (e : Ending) (w' : World) : Prop := e = .returned (.tuple #[.slice none 0 0, .int .i64 E]) ∧ Below w.heap.size w w'
/-- nothing is: the parts stand in a new row -/
def OfYes (T : Nat) (h : Int) (xs : List Sh) (w : World) (e : Ending) (w' : World) : Prop :=
  ∃ g s t, e = .returned (.tuple #[.slice (some ⟨g, 0, none⟩) xs.length xs.length, .int .i64 0]) ∧
    Ordr xs.length (fun i => (rf T (ptS xs) (ptW xs) i : Int)) s t ∧
    RowG 3 cPt w' (some ⟨g, 0, none⟩) (prtL xs (partK T (ptS xs) (ptW xs) t (leftN T (ptS xs) (ptW xs) xs.length)) h) ∧ Below w.heap.size w w'

set_option maxHeartbeats 1600000 in
theorem of_bad (A f t h k : Int) (a : Option Addr) (c : Nat) (xs : List Sh) (w : World) (hA : Amt A) (hf : Amt f) (ht : Amt t) (hr : RowG 2 cSh w a xs) (hc : xs.length ≤ c) (hE : ofE A f t h xs ≠ 0) :
    Calls Try.prog 6 #[.int .i64 A, .agg #[.int .i64 f, .int .i64 t, .int .i64 h, .int .i64 k], .slice a xs.length c] w (OfBad (ofE A f t h xs) w) := by
  have hb1 : Below w.heap.size w (w.alloc (.cells #[.int .i64 f, .int .i64 t, .int .i64 h, .int .i64 k] 23)) := (Below.refl _ w).alloc (Nat.le_refl _) _
  have HB := Lib.hid hb1
  have HW := Lib.hid (fun W => without_any A f t h k W hA hf ht)
  have HRT : ∀ W, Below w.heap.size w W → Calls Try.prog 8 #[.slice a xs.length c] W fun e w' => e = .returned (.int .i64 (rgF xs)) ∧ Below W.heap.size W w' := fun W hb => right_any a c xs W (hr.keep hb) hc
  have HRT := Lib.hid HRT
  obtain ⟨n, hn⟩ : ∃ n, n = xs.length := ⟨_, rfl⟩
  obtain ⟨E, hEE⟩ : ∃ E, E = ofE A f t h xs := ⟨_, rfl⟩
  rw [← hEE] at hE ⊢
  have HE := Lib.hid hEE
  rw [← hn] at HRT ⊢
  clear hn hEE hr hb1 hA hf ht hc
  cases hcb : cstB A f t h with
  | false =>
    have e1 : wiV A f t h = 0 := by unfold wiV; rw [hcb]; rfl
    have e2 : wiE A f t h = 1 := by unfold wiE; rw [hcb]; rfl
    have HE1 : Hid (E = 1) := by show _ = _; rw [HE.out]; unfold ofE; rw [hcb]; rfl
    have HW2 : ∀ W, Calls Try.prog 10 #[.int .i64 A, .agg #[.int .i64 f, .int .i64 t, .int .i64 h, .int .i64 k]] W fun e w' => e = .returned (.tuple #[.int .i64 0, .int .i64 1]) ∧ Below W.heap.size W w' := fun W => by
      have := HW.out W
      unfold WiPost at this
      rw [e1, e2] at this
      exact this
    have HW2 := Lib.hid HW2
    clear e1 e2 HW hcb HE hE HRT
    go_enter Try.func6, Try.ntmps6
    go_wp2_with (first | (go_at_call 10; (with_reducible refine (HW2.out _).mono ?_); rintro e w2 ⟨rfl, hb2⟩; have HB2 := Lib.hid hb2; clear hb2) | fail)
    go_ret2
    exact ⟨by rw [HE1.out]; first | done | rfl, bel_onG HB.out HB.out.size HB2.out⟩
  | true =>
    have e2 : wiE A f t h = 0 := by unfold wiE; rw [hcb]; rfl
    obtain ⟨V, hV⟩ : ∃ V, V = wiV A f t h := ⟨_, rfl⟩
    have HE1 : Hid (rgF xs = E) := by show _ = _; rw [HE.out]; unfold ofE; rw [hcb]; rfl
    have HW2 : ∀ W, Calls Try.prog 10 #[.int .i64 A, .agg #[.int .i64 f, .int .i64 t, .int .i64 h, .int .i64 k]] W fun e w' => e = .returned (.tuple #[.int .i64 V, .int .i64 0]) ∧ Below W.heap.size W w' := fun W => by
      have := HW.out W
      unfold WiPost at this
      rw [e2, ← hV] at this
      exact this
    have HW2 := Lib.hid HW2
    rw [HE1.out] at HRT
    have t1 : (E != 0) = true := by rw [bne_iff_ne]; exact hE
    clear e2 HW hcb HE hE hV
    go_enter Try.func6, Try.ntmps6
    go_wp2_with fail
    refine (HW2.out _).mono ?_
    rintro e w2 ⟨rfl, hb2⟩
    have HB2 := Lib.hid (bel_onG HB.out HB.out.size hb2)
    clear hb2
    go_wp2_with fail
    refine (HRT.out _ HB2.out).mono ?_
    rintro e w3 ⟨rfl, hb3⟩
    have HB3 := Lib.hid (bel_onG HB2.out HB2.out.size hb3)
    clear hb3
    go_wp2
    go_ret2
    exact ⟨rfl, HB3.out⟩

theorem infoPart : (Try.prog.info? 35).map (fun i => (i.zero, i.size, i.bytes)) = some (some (.agg #[.string ⟨#[]⟩, .int .i64 0, .int .i64 0]), 3, 32) := by kernel_rfl

/-- a new row of parts -/
theorem run_makePart (n : Nat) (h : n ≤ 1000000) (w : World) :
    (Instr.makeSlice 26 (.int .i64 (n : Int)) (.int .i64 (n : Int))).run Try.prog w = .ok (.slice (some ⟨w.heap.size, 0, none⟩) n n) (w.alloc (.cells (madeCells #[.string ⟨#[]⟩, .int .i64 0, .int .i64 0] (n * 3)) 35)) := by
  obtain ⟨i, hi, hzz⟩ := Option.map_eq_some_iff.1 infoPart
  simp only [Prod.mk.injEq] at hzz
  obtain ⟨hz, hs, hb⟩ := hzz
  have hr := run_make (P := Try.prog) w 26 35 i _ Try.underlying26 hi hz .i64 .i64 n n (by omega) (Int.le_refl _) (by rw [hb]; omega) (by omega)
  simp only [Int.toNat_natCast, hs] at hr
  exact hr

theorem cell_three {w : World} {b o g i j l : Nat} {va vb vc v : Value} (h : b ≠ g) (hc : w.cell? ⟨b, o, none⟩ = some v) : (((w.setCell ⟨g, i, none⟩ va).setCell ⟨g, j, none⟩ vb).setCell ⟨g, l, none⟩ vc).cell? ⟨b, o, none⟩ = some v := by
  have h1 : (((w.setCell ⟨g, i, none⟩ va).setCell ⟨g, j, none⟩ vb).setCell ⟨g, l, none⟩ vc).heap[b]? = w.heap[b]? := by
    rw [Below.heap_setCell _ _ _ _ h, Below.heap_setCell _ _ _ _ h, Below.heap_setCell _ _ _ _ h]
  have h2 : ∀ w' : World, w'.heap[b]? = w.heap[b]? → w'.cell? ⟨b, o, none⟩ = w.cell? ⟨b, o, none⟩ := fun w' e => by
    simp only [World.cell?, e]
  rw [h2 _ h1]
  exact hc
theorem rowIs_keepB {w w' : World} {b n : Nat} {t : TypeId} {F : Nat → Value} (h : w.rowIs b t n F) (hb : Below w.heap.size w w') : w'.rowIs b t n F := h.of_block (hb.block b h.lt)
theorem OfAt.start (L : List Prt) (n : Nat) (w : World) (z : Array Value) : OfAt L n w.heap.size w (w.alloc (.cells (madeCells z (n * 3)) 35)) 0 :=
  ⟨(Below.refl _ w).alloc (Nat.le_refl _) _, Nat.le_refl _, _, Blk.new w _ _, size_madeCells _ _, fun i x hi => by omega⟩

set_option maxHeartbeats 6400000 in
set_option maxRecDepth 100000 in
theorem of_yes (A f t h q : Int) (a : Option Addr) (c : Nat) (xs : List Sh) (w : World) (hA : Amt A) (hf : Amt f) (ht : Amt t) (hr : RowG 2 cSh w a xs) (hc : xs.length ≤ c) (hE : ofE A f t h xs = 0) :
    Calls Try.prog 6 #[.int .i64 A, .agg #[.int .i64 f, .int .i64 t, .int .i64 h, .int .i64 q], .slice a xs.length c] w (OfYes (A - f - t).toNat h xs w) := by
  have hcb : cstB A f t h = true := by
    cases e : cstB A f t h with
    | true => rfl
    | false => unfold ofE at hE; rw [e] at hE; cases hE
  have hcs := cst_get hcb
  have hrg : rgF xs = 0 := by unfold ofE at hE; rw [hcb] at hE; exact hE
  have hlen : ¬ (xs.length = 0 ∨ 8 < xs.length) := fun hx => by rw [rgF_bad hx] at hrg; cases hrg
  have hrt : rgTo xs xs.length = 0 := by rw [← rgF_few hlen]; exact hrg
  have G := GoodW.of (by omega) (by omega) hrt
  have hb1 : Below w.heap.size w (w.alloc (.cells #[.int .i64 f, .int .i64 t, .int .i64 h, .int .i64 q] 23)) := (Below.refl _ w).alloc (Nat.le_refl _) _
  have hbx1 := Blk.new w 23 #[.int .i64 f, .int .i64 t, .int .i64 h, .int .i64 q]
  have HB := Lib.hid hb1
  have HBX := Lib.hid hbx1
  obtain ⟨T, hT⟩ : ∃ T, T = (A - f - t).toNat := ⟨_, rfl⟩
  have hTV : wiV A f t h = (T : Int) := by unfold wiV; rw [hcb, hT]; simp only [if_true]; omega
  have e2 : wiE A f t h = 0 := by unfold wiE; rw [hcb]; rfl
  have hTm : T ≤ 1125899906842624 := by omega
  have HW2 : ∀ W, Calls Try.prog 10 #[.int .i64 A, .agg #[.int .i64 f, .int .i64 t, .int .i64 h, .int .i64 q]] W fun e w' => e = .returned (.tuple #[.int .i64 T, .int .i64 0]) ∧ Below W.heap.size W w' := fun W => by
    have := without_any A f t h q W hA hf ht
    unfold WiPost at this
    rw [e2, hTV] at this
    exact this
  have HW2 := Lib.hid HW2
  have HRT : ∀ W, Below w.heap.size w W → Calls Try.prog 8 #[.slice a xs.length c] W fun e w' => e = .returned (.int .i64 0) ∧ Below W.heap.size W w' := fun W hb => by
    have := right_any a c xs W (hr.keep hb) hc
    rw [hrg] at this
    exact this
  have HRT := Lib.hid HRT
  have HWT : ∀ W, Below w.heap.size w W → Calls Try.prog 12 #[.slice a xs.length c] W (WtPost xs xs.length W) := fun W hb => weights_any a c xs W (hr.keep hb) (by omega) (by omega)
  have HWT := Lib.hid HWT
  have HSP : ∀ W g, g < W.heap.size → W.rowIs g 2 xs.length (fun i => .int .i64 ((wts xs).getD i 0)) → Calls Try.prog 11 #[.int .i64 T, .slice (some ⟨g, 0, none⟩) xs.length xs.length] W (SplitYes T (ptS xs) (ptW xs) xs.length W) := fun W g hg hrow => by
    have hl := wts_length xs
    have hcell : ∀ i, i < (wts xs).length → W.cell? ⟨g, 0 + i, none⟩ = some (.int .i64 (wN (wts xs) i : Nat)) := fun i hi => by
      rw [hl] at hi
      rw [Nat.zero_add, hrow.cell hi, (G.each i hi).2.2]
      rfl
    have h3 : sumN (wN (wts xs)) (wts xs).length = ptS xs := by rw [hl]; rfl
    have hle := G.le
    have hpos := G.pos
    have := split_yes T (ptS xs) g 0 xs.length (wts xs) W (by omega) (by omega) (by omega) G.pos G.sum hcell hg G.neg (by omega) h3
      (RowI.of_rowIs (t := 2) (by rw [hl]; exact hrow)) G.amt (sortOK_40 (by omega)) (fun i hi h => div64_all _ _ _ h (Nat.mod_lt _ (by omega)) (by omega))
    rw [hl] at this
    exact this
  have HSP := Lib.hid HSP
  obtain ⟨n, hn⟩ : ∃ n, n = xs.length := ⟨_, rfl⟩
  have HN := Lib.hid hn
  have HR := Lib.hid hr
  have HG := Lib.hid G
  have hh0 : 0 ≤ h ∧ h ≤ 10000 := ⟨hcs.2.2.2.1, hcs.2.2.2.2.1⟩
  have hn0 : 0 < n := by omega
  have hn8 : n ≤ 8 := by omega
  have hnc : n ≤ c := by omega
  rw [← hn] at HRT HWT HSP ⊢
  rw [← hT]
  clear hn hr hb1 hbx1 hA hf ht hc hE hcb hcs hrg hlen hrt G hT hTV e2
  go_enter Try.func6, Try.ntmps6
  go_wp2_with fail
  refine (HW2.out _).mono ?_
  rintro e w2 ⟨rfl, hb2⟩
  have HB2 := Lib.hid (bel_onG HB.out HB.out.size hb2)
  have HBX2 := Lib.hid (HBX.out.since hb2)
  clear hb2
  go_wp2_with fail
  refine (HRT.out _ HB2.out).mono ?_
  rintro e w3 ⟨rfl, hb3⟩
  have HB3 := Lib.hid (bel_onG HB2.out HB2.out.size hb3)
  have HBX3 := Lib.hid (HBX2.out.since hb3)
  clear hb3
  go_wp2_with fail
  refine (HWT.out _ HB3.out).mono ?_
  rintro e w4 ⟨gw, rfl, hgw, hrow4, hb4⟩
  have HB4 := Lib.hid (bel_onG HB3.out HB3.out.size hb4)
  have HBX4 := Lib.hid (HBX3.out.since hb4)
  have HSP4 := Lib.hid (HSP.out w4 gw hrow4.lt hrow4)
  clear hb4 hgw hrow4
  go_wp2_with fail
  refine HSP4.out.mono ?_
  rintro e w5 ⟨gn, s, tt, rfl, hgn, hO, hrow5, hb5⟩
  have HB5 := Lib.hid (bel_onG HB4.out HB4.out.size hb5)
  have HBX5 := Lib.hid (HBX4.out.since hb5)
  have HO := Lib.hid hO
  have HR5 := Lib.hid hrow5
  clear hb5 hgn hO hrow5 HSP4 HB2 HB3 HB4 HBX HBX2 HBX3 HBX4 HB HW2 HRT HWT HSP
  have hmk := run_makePart n (by omega)
  obtain ⟨L, hL⟩ : ∃ L, L = prtL xs (partK T (ptS xs) (ptW xs) tt (leftN T (ptS xs) (ptW xs) n)) h := ⟨_, rfl⟩
  have HL := Lib.hid hL
  have HP := Lib.hid (OfAt.start L n w5 #[.string ⟨#[]⟩, .int .i64 0, .int .i64 0])
  obtain ⟨X, hX⟩ : ∃ X, X = w.heap.size := ⟨_, rfl⟩
  have HXE := Lib.hid hX
  rw [← hX] at HBX5 ⊢
  clear hL hX
  go_wp2
  clear hmk
  obtain ⟨w6, hw6⟩ : ∃ w6, w6 = w5.alloc (.cells (madeCells #[.string ⟨#[]⟩, .int .i64 0, .int .i64 0] (n * 3)) 35) := ⟨_, rfl⟩
  obtain ⟨g, hg⟩ : ∃ g, g = w5.heap.size := ⟨_, rfl⟩
  have HGE := Lib.hid hg
  rw [← hw6, ← hg] at HP
  rw [← hw6, ← hg]
  clear hw6 hg
  go_loopg [14, 15, 42] n (fun gk _ _ i wr => ∃ k : Nat, k ≤ n ∧ i = .int .i64 k ∧ n - k ≤ gk ∧ Hid (OfAt L n g w5 wr k))
  case atStart => exact ⟨0, Nat.zero_le _, rfl, by omega, HP⟩
  case round =>
    clear HP
    obtain ⟨k, hk, rfl, hgk, HP⟩ := hrel
    by_cases hlt : k < n
    · obtain ⟨x, hx⟩ : ∃ x, xs[k]? = some x := ⟨_, List.getElem?_eq_getElem (by rw [← HN.out]; exact hlt)⟩
      obtain ⟨p, m⟩ := x
      obtain ⟨b1, off, rfl⟩ := HR.out.form (by rw [← HN.out]; omega)
      have hat := ((HR.out.keep HB5.out).keep HP.out.below).at hx
      have c0 : wr.cell? ⟨b1, off + k * 2, none⟩ = some (.string (st p)) := by simpa using hat 0 _ rfl
      have c1 : wr.cell? ⟨b1, off + k * 2 + 1, none⟩ = some (.int .i64 m) := hat 1 _ rfl
      obtain ⟨N, hNN⟩ : ∃ N, N = partK T (ptS xs) (ptW xs) tt (leftN T (ptS xs) (ptW xs) n) k := ⟨_, rfl⟩
      obtain ⟨M, hM⟩ : ∃ M, M = mdV (N : Int) h 10000 0 := ⟨_, rfl⟩
      have hLk : L[k]? = some (p, (N : Int), M) := by rw [HL.out, hM, hNN]; exact prtL_get _ h hx
      have hST : ∀ W, OfAt L n g w5 W k → OfAt L n g w5 (((W.setCell ⟨g, k * 3, none⟩ (.string (st p))).setCell ⟨g, k * 3 + 1, none⟩ (.int .i64 (N : Int))).setCell ⟨g, k * 3 + 2, none⟩ (.int .i64 M)) (k + 1) := fun W hW => OfAt.step (x := (p, (N : Int), M)) hW hlt hLk
      have HST := Lib.hid hST
      have d0 : wr.cell? ⟨gn, k, none⟩ = some (.int .i64 (N : Int)) := by
        have := (rowIs_keepB HR5.out HP.out.below).cell hlt
        rw [this, hNN]
      have hXr : Blk wr X 23 #[.int .i64 f, .int .i64 t, .int .i64 h, .int .i64 q] := HBX5.out.since HP.out.below
      have hN : N ≤ T := by
        rw [hNN]
        exact part_le HG.out.pos (by rw [HN.out]; rfl) hlt
      have hHH : ∀ W, Calls Try.prog 13 #[.int .i64 (N : Int), .int .i64 h] W fun e w' => e = .returned (.int .i64 (mdV (N : Int) h 10000 0)) ∧ Below W.heap.size W w' := fun W => (held_any (N : Int) h W (by unfold Amt; omega) (by unfold Amt; omega)).mono fun e w' ⟨he, m, hw⟩ => ⟨he, by rw [hw]; exact below_drewN (Below.refl _ W) m⟩
      have HH := Lib.hid hHH
      rw [← hM] at HH
      have hkz : (0 : Int) ≤ (k : Int) := by omega
      have hkn : (k : Int) < (n : Int) := by omega
      have HGn : Hid (gn ≠ g) := by have h1 := HR5.out.lt; have h2 := HGE.out; show _ ≠ _; omega
      have HGX : Hid (X ≠ g) := by have h1 := HBX5.out.lt; have h2 := HGE.out; show _ ≠ _; omega
      have HGY : Hid (wr.heap.size ≠ g) := by
        obtain ⟨cs, q1, q2, q3⟩ := HP.out.blk
        have := q1.lt
        show _ ≠ _; omega
      clear hx hat hNN hLk hST hM hHH
      go_wp2_with fail
      have hbx := Blk.new wr 41 #[.string (st p), .int .i64 m]
      have hbd : Below wr.heap.size wr (wr.alloc (.cells #[.string (st p), .int .i64 m] 41)) := (Below.refl _ wr).alloc (Nat.le_refl _) _
      have hXa := hXr.alloc (.cells #[.string (st p), .int .i64 m] 41)
      have d1 : (wr.alloc (.cells #[.string (st p), .int .i64 m] 41)).cell? ⟨gn, k, none⟩ = some (.int .i64 (N : Int)) := by
        rw [World.cell?_alloc_lt _ _ _ (World.block_lt_of_cell? wr _ d0)]; exact d0
      have HPa := Lib.hid (HP.out.keep hbd)
      obtain ⟨Y, hY⟩ : ∃ Y, Y = wr.heap.size := ⟨_, rfl⟩
      rw [← hY] at hbx HGY ⊢
      generalize wr.alloc (.cells #[.string (st p), .int .i64 m] 41) = wc at hbx hbd hXa d1 HPa ⊢
      have k0 : wc.drew.cell? ⟨Y, 0, none⟩ = some (.string (st p)) := hbx.cell 0
      have k1 : wc.drew.cell? ⟨gn, k, none⟩ = some (.int .i64 (N : Int)) := d1
      have k2 : wc.drew.cell? ⟨X, 2, none⟩ = some (.int .i64 h) := hXa.cell 2
      have HBY : Hid (Blk wc.drew Y 41 #[.string (st p), .int .i64 m]) := hbx
      have HPd : Hid (OfAt L n g w5 wc.drew k) := HPa.out.keep (Below.refl _ wc).drew
      clear c0 c1 d0 d1 hbx hbd hXr hXa hY HPa
      go_region_held3 (fun w' => w'.cell? ⟨Y, 0, none⟩ = some (.string (st p)) ∧ w'.cell? ⟨gn, k, none⟩ = some (.int .i64 (N : Int)) ∧ w'.cell? ⟨X, 2, none⟩ = some (.int .i64 h))
        (first | with_reducible exact ⟨k0, k1, k2⟩ | with_reducible exact ⟨j0, j1, j2⟩ | with_reducible exact ⟨cell_three HGY.out j0, cell_three HGn.out j1, cell_three HGX.out j2⟩ | go_keep)
        (first
          | (go_at_call 13; ((with_reducible refine (HH.out _).mono ?_); rintro e w7 ⟨rfl, hb7⟩; have j0 : w7.cell? ⟨Y, 0, none⟩ = some (.string (st p)) := (hb7.cell (p := ⟨Y, 0, none⟩) (World.block_lt_of_cell? _ _ k0)).trans k0; have j1 : w7.cell? ⟨gn, k, none⟩ = some (.int .i64 (N : Int)) := (hb7.cell (p := ⟨gn, k, none⟩) (World.block_lt_of_cell? _ _ k1)).trans k1; have j2 : w7.cell? ⟨X, 2, none⟩ = some (.int .i64 h) := (hb7.cell (p := ⟨X, 2, none⟩) (World.block_lt_of_cell? _ _ k2)).trans k2; obtain ⟨v0, v1, v2, r0, r1, r2, z0, z1, z2⟩ := (HPd.out.keep hb7).room hlt)))
      have HNX := Lib.hid (HST.out w7 (HPd.out.keep hb7))
      clear k0 k1 k2 j0 j1 j2 r0 r1 r2 z0 z1 z2 hb7 HST HPd HH
      go_wp2
      go_roundg (n - (k + 1))
      case measure => omega
      case rel => exact ⟨k + 1, by omega, by go_num, by omega, HNX.out⟩
    · have hkn : ¬ ((k : Int) < (n : Int)) := by omega
      have e : k = n := by omega
      have HROW : Hid (RowG 3 cPt wr (some ⟨g, 0, none⟩) L) := by subst e; exact HP.out.row (by rw [HL.out, prtL_length, HN.out])
      have HBF := Lib.hid (bel_onG HB5.out HB5.out.size HP.out.below)
      clear e
      go_wp2
      go_ret2
      exact ⟨g, s, tt, by rw [HN.out]; first | done | rfl, by rw [← HN.out]; exact HO.out, by rw [← HN.out, ← HL.out]; exact HROW.out, HBF.out⟩
end Go.Proofs.Ythhcbpimkaahnaa
