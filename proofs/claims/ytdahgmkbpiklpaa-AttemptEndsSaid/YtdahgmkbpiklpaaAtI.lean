/-
  Contract of souklaw17.run.
-/
import Derived.Test.YtdahgmkbpiklpaaAtH
import Derived.Deep.LoopGhost
import Derived.Deep.CutRange
import Derived.BigRegion
namespace Go.Proofs.Ytdahgmkbpiklpaa
open Go.RowKit Go.Deep Go.Lib

theorem run_start {B b : Nat} {v1 v2 : Value} {w : World} {P : Py} {L : List Rc} {Q : List Rp} (h : GateP 46 63 59 B w b L Q v1 v2) :
    RunP B b v1 v2 w ((w.alloc (.cells (cPy P).toArray 23)).alloc (.cells #[.string ⟨#[]⟩, .string ⟨#[]⟩, .string ⟨#[]⟩, .int .i64 0, .string ⟨#[]⟩, .int .i64 0, .int .i64 0, .int .i64 0] 23)) w.heap.size (w.heap.size + 1) P L Q v1 v2 := by
  have hb : Below w.heap.size w (w.alloc (.cells (cPy P).toArray 23)) := (Below.refl _ w).alloc (Nat.le_refl _) _
  have hb2 := hb.alloc hb.size (.cells #[.string ⟨#[]⟩, .string ⟨#[]⟩, .string ⟨#[]⟩, .int .i64 0, .string ⟨#[]⟩, .int .i64 0, .int .i64 0, .int .i64 0] 23)
  exact ⟨h.keep hb2, Stp.of_below hb2, fun k hk => .inl hk, (Blk.new w _ _).alloc _, blk_two _ _ _ _, by omega, ⟨Nat.le_refl _, by omega⟩, fun hm => by have := (h.lt _ hm).1; omega, fun hm => by have := (h.lt _ hm).1; omega⟩

/-- what run answers, and leaves -/
def RunE (B b : Nat) (v1 v2 : Value) (S : Rn) (w : World) (e : Ending) (w' : World) : Prop := e = .returned (.agg (cPy S.p).toArray) ∧ Turned 46 63 59 B b v1 v2 S.L S.Q w w'

set_option maxHeartbeats 12800000 in
set_option maxRecDepth 100000 in
theorem run_any (B b : Nat) (L0 : List Rc) (Q0 : List Rp) (v1 v2 : Value) (k q c : List UInt8) (m : Int) (s : List UInt8) (n t a : Int) (fr : Int) (ad : Option Addr) (cp : Nat) (xs : List Nat) (w : World)
    (hg : GateP 46 63 59 B w b L0 Q0 v1 v2) (hr : RowG 1 cU8 w ad xs) (hx : ∀ x ∈ xs, x ≤ 255) (ho : 0 < xs.length → ∀ p, ad = some p → p.block ∉ fpG b v1 v2)
    (hn : xs.length ≤ 1000) (hbd : Bd 10000 ⟨k, q, c, m, s, n, t, a⟩) (hL : L0.length ≤ 1000) (hQ : Q0.length ≤ 1000) (hf : 0 ≤ fr ∧ fr ≤ 1000) (S : Rn) (hS : S = runR (fun i => xs.getD i 0) fr ⟨⟨k, q, c, m, s, n, t, a⟩, L0, Q0⟩ xs.length) :
    Calls Try.prog 14 #[.pointer (some ⟨b, 0, none⟩), .agg #[.string (st k), .string (st q), .string (st c), .int .i64 m, .string (st s), .int .i64 n, .int .i64 t, .int .i64 a], .int .i64 fr, .slice ad xs.length cp] w (RunE B b v1 v2 S w) := by
  have HFEW := Lib.hid (run_few (f := fun i => xs.getD i 0) (fr := fr) (s := ⟨⟨k, q, c, m, s, n, t, a⟩, L0, Q0⟩) hbd)
  have HR := Lib.hid hr
  have HX := Lib.hid hx
  have HOF := Lib.hid ho
  have HS0 := Lib.hid (run_start (P := ⟨k, q, c, m, s, n, t, a⟩) hg)
  obtain ⟨F, hF⟩ : ∃ F : Nat → Rn, F = runR (fun i => xs.getD i 0) fr ⟨⟨k, q, c, m, s, n, t, a⟩, L0, Q0⟩ := ⟨_, rfl⟩
  have HF0 : Hid (F 0 = ⟨⟨k, q, c, m, s, n, t, a⟩, L0, Q0⟩) := by show _ = _; rw [hF]; rfl
  have HFS : Hid (∀ i, F (i + 1) = roundR (fr + (i : Int)) (xs.getD i 0) (F i)) := by intro i; rw [hF]; rfl
  rw [← hF] at HFEW hS
  obtain ⟨ln, hln⟩ : ∃ ln, ln = xs.length := ⟨_, rfl⟩
  have HN := Lib.hid hln
  have HSE := Lib.hid hS
  rw [← hln] at hn HSE ⊢
  have HL0 := Lib.hid hL
  have HQ0 := Lib.hid hQ
  clear hr hx ho hg hF hln hS hL hQ hbd
  obtain ⟨hf0, hf1⟩ := hf
  unfold RunE
  go_enter Try.func14, Try.ntmps14
  go_wp2
  obtain ⟨rb, hrb⟩ : ∃ rb, rb = w.heap.size + 1 := ⟨_, rfl⟩
  rw [← hrb] at HS0 ⊢
  obtain ⟨pb, hpb⟩ : ∃ pb, pb = w.heap.size := ⟨_, rfl⟩
  have HPB := Lib.hid hpb
  obtain ⟨w0, hw0⟩ : ∃ w0, w0 = (w.alloc (.cells (cPy ⟨k, q, c, m, s, n, t, a⟩).toArray 23)).alloc (.cells #[.string ⟨#[]⟩, .string ⟨#[]⟩, .string ⟨#[]⟩, .int .i64 0, .string ⟨#[]⟩, .int .i64 0, .int .i64 0, .int .i64 0] 23) := ⟨_, rfl⟩
  rw [← hw0, ← hpb] at HS0
  try rw [← hpb]
  change Code.wp _ _ _ _ ((w.alloc (.cells (cPy ⟨k, q, c, m, s, n, t, a⟩).toArray 23)).alloc (.cells #[.string ⟨#[]⟩, .string ⟨#[]⟩, .string ⟨#[]⟩, .int .i64 0, .string ⟨#[]⟩, .int .i64 0, .int .i64 0, .int .i64 0] 23))
  rw [← hw0]
  clear hrb hpb hw0
  go_loopg [9, 10, 11, 12, 13, 14, 15, 16, 18, 21, 29, 43, 53, 66, 67, 68, 72] ln (fun gk _ _ _ _ _ _ _ _ _ i _ _ _ _ _ _ _ wr => ∃ (j : Nat) (P : Py) (L : List Rc) (Q : List Rp) (u1 u2 : Value), j ≤ ln ∧ i = .int .i64 j ∧ ln - j ≤ gk ∧ Hid (F j = ⟨P, L, Q⟩) ∧ Hid (RunP B b v1 v2 w wr pb rb P L Q u1 u2))
  case atStart => exact ⟨0, _, L0, Q0, v1, v2, Nat.zero_le _, rfl, by omega, HF0.out, HS0.out⟩
  case round =>
    clear HS0 HF0
    obtain ⟨j, ⟨k1, q1, c1, m1, s1, n1, t1, a1⟩, L, Q, u1, u2, hj, rfl, hgk, HFJ, HRN⟩ := hrel
    by_cases hlt : j < ln
    · obtain ⟨hbd, hLl, hQl⟩ := HFEW.out j
      rw [HFJ.out] at hbd hLl hQl
      simp only at hbd hLl hQl
      have HBD := Lib.hid hbd
      have hLl2 : L.length < 1000000 := by have := HL0.out; omega
      have hQl2 : Q.length ≤ 1000000 := by have := HQ0.out; omega
      obtain ⟨x, hx⟩ : ∃ x, xs[j]? = some x := ⟨_, List.getElem?_eq_getElem (by rw [← HN.out]; exact hlt)⟩
      have hx255 : x ≤ 255 := HX.out x (List.mem_of_getElem? hx)
      have HXD : Hid (xs.getD j 0 = x) := by show _ = _; rw [List.getD_eq_getElem?_getD, hx]; rfl
      have hrow := HR.out.stp HRN.out.stp (fun p hp => HOF.out (by rw [← HN.out]; omega) p hp)
      obtain ⟨b1, off, rfl⟩ := hrow.form (by rw [← HN.out]; omega)
      have c0 : wr.cell? ⟨b1, off + j, none⟩ = some (.int .u8 (x : Int)) := by simpa using (hrow.at hx) 0 _ rfl
      obtain ⟨i, hi⟩ : ∃ i, i = x / 8 % 4 := ⟨_, rfl⟩
      have HI := Lib.hid hi
      have e1 : ((x : Int) / 8) % 4 = (i : Int) := by omega
      have hi3 : i ≤ 3 := by omega
      obtain ⟨now, hnow⟩ : ∃ now : Int, now = fr + (j : Int) := ⟨_, rfl⟩
      have i1 : IntKind.i64.wrap (fr + (j : Int)) = now := by rw [hnow, IntWalk.i64_in _ (by omega)]
      have HNW := Lib.hid hnow
      have HSN : Hid (Sm now) := by show Sm now; unfold Sm; omega
      have HLT := Lib.hid (late_any B b L Q u1 u2 i wr HRN.out.gate hQl2)
      obtain ⟨X, hX⟩ : ∃ X, X = lateX i Q := ⟨_, rfl⟩
      have HXE := Lib.hid hX
      obtain ⟨LB, hLB⟩ : ∃ LB, LB = lateB i Q := ⟨_, rfl⟩
      have HLB := Lib.hid hLB
      rw [← hX, ← hLB] at HLT
      have HLL := Lib.hid hLl2
      have HQL : Hid ((Q.eraseIdx i).length ≤ 1000000) := Nat.le_trans (out_le Q i) hQl2
      obtain ⟨x0, x1, x2⟩ := X
      have HLT : Hid (Calls Try.prog 22 #[.pointer (some ⟨b, 0, none⟩), .int .i64 (i : Int)] wr fun e w' => e = .returned (.tuple #[.agg #[.string (st x0), .string (st x1), .int .i64 x2], .bool LB]) ∧ Turned 46 63 59 B b u1 u2 L (Q.eraseIdx i) wr w') := HLT
      have hjz : (0 : Int) ≤ (j : Int) := by omega
      have hjn : (j : Int) < (ln : Int) := by omega
      clear hbd hLl hQl hx hrow hi hnow hX hLB hLl2 hQl2
      go_wp2_with fail
      refine HLT.out.mono ?_
      rintro e w1 ⟨rfl, ht⟩
      obtain ⟨y1, y2, hrn1⟩ := HRN.out.turn ht
      have HRN2 := Lib.hid (hrn1.keep ((Below.refl _ w1).alloc (Nat.le_refl _) (.cells #[.string (st x0), .string (st x1), .int .i64 x2] 59)))
      have HXB : Hid (Blk (w1.alloc (.cells #[.string (st x0), .string (st x1), .int .i64 x2] 59)) w1.heap.size 59 #[.string (st x0), .string (st x1), .int .i64 x2]) := Blk.new w1 _ _
      clear ht hrn1 HRN HLT c0
      go_upto_region 6 with fail
      obtain ⟨xb, hxb⟩ : ∃ xb, xb = w1.heap.size := ⟨_, rfl⟩
      rw [← hxb] at HXB ⊢
      generalize w1.alloc (.cells #[.string (st x0), .string (st x1), .int .i64 x2] 59) = w2 at HRN2 HXB ⊢
      clear hxb
      obtain ⟨P4, hP4⟩ : ∃ P4, P4 = lateP ⟨k1, q1, c1, m1, s1, n1, t1, a1⟩ Q now x := ⟨_, rfl⟩
      have HP4 := Lib.hid hP4
      have HLP : Hid (P4 = if (LB = true ∧ 128 ≤ x) then hearP ⟨k1, q1, c1, m1, s1, n1, t1, a1⟩ x1 x2 now else ⟨k1, q1, c1, m1, s1, n1, t1, a1⟩) := by
        show _ = _
        rw [hP4]
        unfold lateP
        rw [← HI.out, ← HXE.out, ← HLB.out]
      have HBD4 : Hid (Bd (10000 + 4 * (j : Int) + 1) P4) := by rw [hP4]; exact HBD.out.late _ _ _
      have HT1 : Hid (Sm t1) := by have h := HBD.out; unfold Bd at h; simp only at h; show Sm t1; unfold Sm; omega
      obtain ⟨k4, q4, c4, m4, s4, n4, t4, a4⟩ := P4
      clear hP4 HXE
      go_cut [21, 42] from 21 to 83 (fun i' d' wx => i' = .int .i64 j ∧ d' = .bool (LB && decide (128 ≤ x)) ∧ wx = w2)
      case first =>
        clear HLP HP4 HBD4
        cases LB with
        | false =>
          go_wp2_with fail
          go_meet
          case rel => exact ⟨rfl, rfl, rfl⟩
        | true =>
          by_cases h128 : 128 ≤ x
          · have g128 : (128 : Int) ≤ (x : Int) := by omega
            go_wp2_with fail
            go_meet
            case rel => exact ⟨rfl, by rw [decide_eq_true h128]; first | done | rfl, rfl⟩
          · have g128 : ¬ (128 : Int) ≤ (x : Int) := by omega
            go_wp2_with fail
            go_meet
            case rel => exact ⟨rfl, by rw [decide_eq_false h128]; first | done | rfl, rfl⟩
      case rest =>
        obtain ⟨rfl, rfl, rfl⟩ := hcut
        obtain ⟨DO, hDO⟩ : ∃ DO, DO = (LB && decide (128 ≤ x)) := ⟨_, rfl⟩
        have HDO := Lib.hid hDO
        rw [← hDO]
        clear hDO
        go_upto_if 42 with fail
        go_cut [21] from 21 to 83 (fun i' wx => i' = .int .i64 j ∧ Hid (RunP B b v1 v2 w wx pb rb ⟨k4, q4, c4, m4, s4, n4, t4, a4⟩ L (Q.eraseIdx i) y1 y2))
        case first =>
          cases DO with
          | false =>
            have HE : Hid ((⟨k4, q4, c4, m4, s4, n4, t4, a4⟩ : Py) = ⟨k1, q1, c1, m1, s1, n1, t1, a1⟩) := by
              show _ = _
              rw [HLP.out, if_neg (fun h => by have h2 := HDO.out; rw [h.1, decide_eq_true h.2] at h2; cases h2)]
            go_wp2_with fail
            go_meet
            case rel => exact ⟨rfl, by rw [HE.out]; exact HRN2.out⟩
          | true =>
            have HE : Hid ((⟨k4, q4, c4, m4, s4, n4, t4, a4⟩ : Py) = hearP ⟨k1, q1, c1, m1, s1, n1, t1, a1⟩ x1 x2 now) := by
              show _ = _
              rw [HLP.out, if_pos (by have h2 := HDO.out.symm; rw [Bool.and_eq_true, decide_eq_true_eq] at h2; exact h2)]
            have HH : Hid (∀ W, Calls Try.prog 10 #[.agg #[.string (st k1), .string (st q1), .string (st c1), .int .i64 m1, .string (st s1), .int .i64 n1, .int .i64 t1, .int .i64 a1], .string (st x1), .int .i64 x2, .int .i64 now] W fun e w' => e = .returned (.tuple #[.agg #[.string (st k4), .string (st q4), .string (st c4), .int .i64 m4, .string (st s4), .int .i64 n4, .int .i64 t4, .int .i64 a4], .bool (hearB ⟨k1, q1, c1, m1, s1, n1, t1, a1⟩ x1 x2)]) ∧ Below W.heap.size W w') := fun W => by
              have h := hear_any ⟨k1, q1, c1, m1, s1, n1, t1, a1⟩ x1 x2 now W HSN.out HT1.out
              rw [← HE.out] at h
              exact h
            obtain ⟨d0, d1, d2, d3, d4, d5, d6, d7⟩ := HRN2.out.cells
            obtain ⟨g0, g1, g2⟩ := HXB.out.cells3
            generalize hearB ⟨k1, q1, c1, m1, s1, n1, t1, a1⟩ x1 x2 = HB1 at HH
            go_wp2_with fail
            refine (HH.out _).mono ?_
            rintro e w3 ⟨rfl, hb⟩
            have HRN3 := Lib.hid (HRN2.out.keep hb)
            have HPUT := Lib.hid (HRN3.out.put (k2 := k4) (q2 := q4) (c2 := c4) (m2 := m4) (s2 := s4) (n2 := n4) (t2 := t4) (a2 := a4))
            have f0 := HRN3.out.frozen 0
            have f1 := HRN3.out.frozen 1
            have f2 := HRN3.out.frozen 2
            have f3 := HRN3.out.frozen 3
            have f4 := HRN3.out.frozen 4
            have f5 := HRN3.out.frozen 5
            have f6 := HRN3.out.frozen 6
            have f7 := HRN3.out.frozen 7
            clear hb d0 d1 d2 d3 d4 d5 d6 d7 g0 g1 g2 HH HE
            obtain ⟨d0, d1, d2, d3, d4, d5, d6, d7⟩ := HRN3.out.cells
            go_wp2_with fail
            go_meet
            case rel => exact ⟨rfl, HPUT.out⟩
        case rest =>
          obtain ⟨rfl, HRN3⟩ := hcut
          clear HRN2 HXB HLP HDO HBD HT1
          have HSA : Hid (Sm a4 ∧ Sm t4) := by have h := HBD4.out; unfold Bd at h; simp only at h; show _ ∧ _; unfold Sm; omega
          obtain ⟨d0, d1, d2, d3, d4, d5, d6, d7⟩ := HRN3.out.cells
          have lpb := HRN3.out.pay.lt
          cases hid : idleB ⟨k4, q4, c4, m4, s4, n4, t4, a4⟩ now with
          | true =>
            have HF1 : Hid (F (j + 1) = ⟨⟨k4, q4, c4, m4, s4, n4, t4, a4⟩, L, Q.eraseIdx i⟩) := by
              show _ = _
              rw [HFS.out j, HXD.out, HFJ.out, ← HNW.out, round_idle HP4.out hid, ← HI.out]
            have S1 : Hid (∀ W, Calls Try.prog 8 #[.agg #[.string (st k4), .string (st q4), .string (st c4), .int .i64 m4, .string (st s4), .int .i64 n4, .int .i64 t4, .int .i64 a4], .int .i64 now] W fun e w' => e = .returned (.tuple #[.agg #[.string (st k4), .string (st q4), .string (st c4), .int .i64 m4, .string (st s4), .int .i64 n4, .int .i64 t4, .int .i64 a4], .agg #[.string ⟨#[]⟩, .string ⟨#[]⟩, .string ⟨#[]⟩, .string ⟨#[]⟩, .int .i64 0, .int .i64 0], .bool false]) ∧ Below W.heap.size W w') := fun W => by
              have h := step_any ⟨k4, q4, c4, m4, s4, n4, t4, a4⟩ now W HSN.out HSA.out.1 HSA.out.2
              unfold stepP stepR at h
              rw [hid] at h
              exact h
            clear hid HP4 HBD4 HSA
            go_wp2_with fail
            refine (S1.out _).mono ?_
            rintro e w4 ⟨rfl, hb⟩
            have HRN6 := Lib.hid (((HRN3.out.keep hb).keep ((Below.refl _ w4).alloc (Nat.le_refl _) (.cells #[.string (st k4), .string (st q4), .string (st c4), .int .i64 m4, .string (st s4), .int .i64 n4, .int .i64 t4, .int .i64 a4] 23))).keep ((Below.refl _ _).alloc (Nat.le_refl _) (.cells #[.string ⟨#[]⟩, .string ⟨#[]⟩, .string ⟨#[]⟩, .string ⟨#[]⟩, .int .i64 0, .int .i64 0] 29)))
            have HZB : Hid (Blk ((w4.alloc (.cells #[.string (st k4), .string (st q4), .string (st c4), .int .i64 m4, .string (st s4), .int .i64 n4, .int .i64 t4, .int .i64 a4] 23)).alloc (.cells #[.string ⟨#[]⟩, .string ⟨#[]⟩, .string ⟨#[]⟩, .string ⟨#[]⟩, .int .i64 0, .int .i64 0] 29)) w4.heap.size 23 #[.string (st k4), .string (st q4), .string (st c4), .int .i64 m4, .string (st s4), .int .i64 n4, .int .i64 t4, .int .i64 a4]) := (Blk.new w4 _ _).alloc _
            clear hb d0 d1 d2 d3 d4 d5 d6 d7 lpb S1
            go_upto_region 9 with fail
            obtain ⟨zb, hzb⟩ : ∃ zb, zb = w4.heap.size := ⟨_, rfl⟩
            rw [← hzb] at HZB ⊢
            generalize (w4.alloc (.cells #[.string (st k4), .string (st q4), .string (st c4), .int .i64 m4, .string (st s4), .int .i64 n4, .int .i64 t4, .int .i64 a4] 23)).alloc (.cells #[.string ⟨#[]⟩, .string ⟨#[]⟩, .string ⟨#[]⟩, .string ⟨#[]⟩, .int .i64 0, .int .i64 0] 29) = w5 at HRN6 HZB ⊢
            clear hzb
            have HPUT := Lib.hid (HRN6.out.put (k2 := k4) (q2 := q4) (c2 := c4) (m2 := m4) (s2 := s4) (n2 := n4) (t2 := t4) (a2 := a4))
            have f0 := HRN6.out.frozen 0
            have f1 := HRN6.out.frozen 1
            have f2 := HRN6.out.frozen 2
            have f3 := HRN6.out.frozen 3
            have f4 := HRN6.out.frozen 4
            have f5 := HRN6.out.frozen 5
            have f6 := HRN6.out.frozen 6
            have f7 := HRN6.out.frozen 7
            obtain ⟨d0, d1, d2, d3, d4, d5, d6, d7⟩ := HRN6.out.cells
            obtain ⟨g0, g1, g2, g3, g4, g5, g6, g7⟩ := HZB.out.cells8
            go_wp2
            go_roundg (ln - (j + 1))
            case measure => omega
            case rel => exact ⟨j + 1, ⟨k4, q4, c4, m4, s4, n4, t4, a4⟩, L, Q.eraseIdx i, y1, y2, by omega, by go_num, by omega, HF1.out, HPUT.out⟩
          | false =>
            obtain ⟨P5, hP5⟩ : ∃ P5, P5 = goP ⟨k4, q4, c4, m4, s4, n4, t4, a4⟩ now := ⟨_, rfl⟩
            obtain ⟨R5, hR5⟩ : ∃ R5, R5 = goR ⟨k4, q4, c4, m4, s4, n4, t4, a4⟩ := ⟨_, rfl⟩
            have S0 : ∀ W, Calls Try.prog 8 #[.agg (cPy ⟨k4, q4, c4, m4, s4, n4, t4, a4⟩).toArray, .int .i64 now] W fun e w' => e = .returned (.tuple #[.agg (cPy P5).toArray, .agg (cRq R5).toArray, .bool true]) ∧ Below W.heap.size W w' := fun W => by
              have h := step_any ⟨k4, q4, c4, m4, s4, n4, t4, a4⟩ now W HSN.out HSA.out.1 HSA.out.2
              unfold stepP stepR at h
              rw [hid] at h
              simp only [Bool.false_eq_true, if_false, Bool.not_false] at h
              rw [← hP5, ← hR5] at h
              exact h
            have HBD5 : Hid (Bd (10000 + 4 * (j : Int) + 2) P5) := by rw [hP5]; exact (HBD4.out.go now).less (by omega)
            have HF1 : Hid (F (j + 1) = ⟨heardP P5 now (askA R5 (x % 8) L), askL R5 (x % 8) L, askQ R5 (x % 8) L (Q.eraseIdx i)⟩) := by
              show _ = _
              rw [HFS.out j, HXD.out, HFJ.out, ← HNW.out, round_go HP4.out hid, ← HI.out, ← hP5, ← hR5]
            obtain ⟨k5, q5, c5, m5, s5, n5, t5, a5⟩ := P5
            obtain ⟨r0, r1, r2, r3, r4, r5⟩ := R5
            have S1 : Hid (∀ W, Calls Try.prog 8 #[.agg #[.string (st k4), .string (st q4), .string (st c4), .int .i64 m4, .string (st s4), .int .i64 n4, .int .i64 t4, .int .i64 a4], .int .i64 now] W fun e w' => e = .returned (.tuple #[.agg #[.string (st k5), .string (st q5), .string (st c5), .int .i64 m5, .string (st s5), .int .i64 n5, .int .i64 t5, .int .i64 a5], .agg #[.string (st r0), .string (st r1), .string (st r2), .string (st r3), .int .i64 r4, .int .i64 r5], .bool true]) ∧ Below W.heap.size W w') := S0
            clear hP5 hR5 S0 hid HP4 HBD4 HSA
            go_wp2_with fail
            refine (S1.out _).mono ?_
            rintro e w4 ⟨rfl, hb⟩
            have HRN6 := Lib.hid (((HRN3.out.keep hb).keep ((Below.refl _ w4).alloc (Nat.le_refl _) (.cells #[.string (st k5), .string (st q5), .string (st c5), .int .i64 m5, .string (st s5), .int .i64 n5, .int .i64 t5, .int .i64 a5] 23))).keep ((Below.refl _ _).alloc (Nat.le_refl _) (.cells #[.string (st r0), .string (st r1), .string (st r2), .string (st r3), .int .i64 r4, .int .i64 r5] 29)))
            have HZB : Hid (Blk ((w4.alloc (.cells #[.string (st k5), .string (st q5), .string (st c5), .int .i64 m5, .string (st s5), .int .i64 n5, .int .i64 t5, .int .i64 a5] 23)).alloc (.cells #[.string (st r0), .string (st r1), .string (st r2), .string (st r3), .int .i64 r4, .int .i64 r5] 29)) w4.heap.size 23 #[.string (st k5), .string (st q5), .string (st c5), .int .i64 m5, .string (st s5), .int .i64 n5, .int .i64 t5, .int .i64 a5]) := (Blk.new w4 _ _).alloc _
            have HYB : Hid (Blk ((w4.alloc (.cells #[.string (st k5), .string (st q5), .string (st c5), .int .i64 m5, .string (st s5), .int .i64 n5, .int .i64 t5, .int .i64 a5] 23)).alloc (.cells #[.string (st r0), .string (st r1), .string (st r2), .string (st r3), .int .i64 r4, .int .i64 r5] 29)) (w4.heap.size + 1) 29 #[.string (st r0), .string (st r1), .string (st r2), .string (st r3), .int .i64 r4, .int .i64 r5]) := blk_two _ _ _ _
            clear hb d0 d1 d2 d3 d4 d5 d6 d7 lpb S1 HRN3
            go_upto_region 9 with fail
            obtain ⟨yb, hyb⟩ : ∃ yb, yb = w4.heap.size + 1 := ⟨_, rfl⟩
            rw [← hyb] at HYB ⊢
            obtain ⟨zb, hzb⟩ : ∃ zb, zb = w4.heap.size := ⟨_, rfl⟩
            rw [← hzb] at HZB ⊢
            generalize (w4.alloc (.cells #[.string (st k5), .string (st q5), .string (st c5), .int .i64 m5, .string (st s5), .int .i64 n5, .int .i64 t5, .int .i64 a5] 23)).alloc (.cells #[.string (st r0), .string (st r1), .string (st r2), .string (st r3), .int .i64 r4, .int .i64 r5] 29) = w5 at HRN6 HZB HYB ⊢
            clear hzb hyb
            have HPUT := Lib.hid (HRN6.out.put (k2 := k5) (q2 := q5) (c2 := c5) (m2 := m5) (s2 := s5) (n2 := n5) (t2 := t5) (a2 := a5))
            have HYP := Lib.hid (HYB.out.stp (put_stp w5 pb (.string (st k5)) (.string (st q5)) (.string (st c5)) (.int .i64 m5) (.string (st s5)) (.int .i64 n5) (.int .i64 t5) (.int .i64 a5)) (by rw [List.mem_singleton]; exact HYB.out.ne HRN6.out.pay (by decide)))
            have f0 := HRN6.out.frozen 0
            have f1 := HRN6.out.frozen 1
            have f2 := HRN6.out.frozen 2
            have f3 := HRN6.out.frozen 3
            have f4 := HRN6.out.frozen 4
            have f5 := HRN6.out.frozen 5
            have f6 := HRN6.out.frozen 6
            have f7 := HRN6.out.frozen 7
            obtain ⟨d0, d1, d2, d3, d4, d5, d6, d7⟩ := HRN6.out.cells
            obtain ⟨g0, g1, g2, g3, g4, g5, g6, g7⟩ := HZB.out.cells8
            go_upto_region 10 with fail
            generalize ((((((((w5.setCell ⟨pb, 0, none⟩ (.string (st k5))).setCell ⟨pb, 1, none⟩ (.string (st q5))).setCell ⟨pb, 2, none⟩ (.string (st c5))).setCell ⟨pb, 3, none⟩ (.int .i64 m5)).setCell ⟨pb, 4, none⟩ (.string (st s5))).setCell ⟨pb, 5, none⟩ (.int .i64 n5)).setCell ⟨pb, 6, none⟩ (.int .i64 t5)).setCell ⟨pb, 7, none⟩ (.int .i64 a5)) = w6 at HPUT HYP ⊢
            clear d0 d1 d2 d3 d4 d5 d6 d7 g0 g1 g2 g3 g4 g5 g6 g7 f0 f1 f2 f3 f4 f5 f6 f7 HRN6 HZB HYB
            obtain ⟨g0, g1, g2, g3, g4, g5⟩ := HYP.out.cells6
            have HASK := Lib.hid (ask_any B b L (Q.eraseIdx i) y1 y2 (r0, r1, r2, r3, r4, r5) x w6 HPUT.out.gate HLL.out HQL.out hx255)
            unfold AskG at HASK
            obtain ⟨L1, hL1⟩ : ∃ L1, L1 = askL (r0, r1, r2, r3, r4, r5) (x % 8) L := ⟨_, rfl⟩
            obtain ⟨Q1, hQ1⟩ : ∃ Q1, Q1 = askQ (r0, r1, r2, r3, r4, r5) (x % 8) L (Q.eraseIdx i) := ⟨_, rfl⟩
            obtain ⟨A1, hA1⟩ : ∃ A1, A1 = askA (r0, r1, r2, r3, r4, r5) (x % 8) L := ⟨_, rfl⟩
            obtain ⟨tn, htn⟩ : ∃ tn, tn = A1.length := ⟨_, rfl⟩
            have htl : tn ≤ 2 := by rw [htn, hA1]; exact askA_len _ _ _
            rw [← hL1, ← hQ1, ← hA1] at HASK HF1
            rw [← htn] at HASK
            have HTN := Lib.hid htn
            have HASK : Hid (Calls Try.prog 16 #[.pointer (some ⟨b, 0, none⟩), .agg #[.string (st r0), .string (st r1), .string (st r2), .string (st r3), .int .i64 r4, .int .i64 r5], .int .u8 (x : Int)] w6 fun e w' => ∃ ar acp, e = .returned (.slice ar tn acp) ∧ RowG 3 cRp w' ar A1 ∧ (∀ p, ar = some p → w6.heap.size ≤ p.block) ∧ Turned 46 63 59 B b y1 y2 L1 Q1 w6 w') := HASK
            clear hL1 hQ1 hA1 htn
            go_wp2_with fail
            refine HASK.out.mono ?_
            rintro e w7 ⟨ar, acp, rfl, hr7, hn7, ht⟩
            obtain ⟨z1, z2, hrn7⟩ := HPUT.out.turn ht
            have HRN7 := Lib.hid hrn7
            have HR7 := Lib.hid hr7
            have HNP : Hid (∀ p, ar = some p → p.block ∉ [pb]) := fun p hp hm => by
              rw [List.mem_singleton] at hm
              have h1 := hn7 p hp
              have h2 := HPUT.out.pay.lt
              omega
            clear hr7 hn7 ht hrn7 HASK HPUT HYP g0 g1 g2 g3 g4 g5 e1
            go_wp2
            go_loopg [18, 68, 72] tn (fun gi _ i3 _ wi => ∃ (qi : Nat) (P' : Py), qi ≤ tn ∧ i3 = .int .i64 qi ∧ tn - qi ≤ gi ∧ Hid (P' = heardP ⟨k5, q5, c5, m5, s5, n5, t5, a5⟩ now (A1.take qi)) ∧ Hid (RunP B b v1 v2 w wi pb rb P' L1 Q1 z1 z2) ∧ Hid (RowG 3 cRp wi ar A1))
            case atStart => exact ⟨0, ⟨k5, q5, c5, m5, s5, n5, t5, a5⟩, Nat.zero_le _, rfl, by omega, rfl, HRN7.out, HR7.out⟩
            case round =>
              clear HRN7 HR7
              obtain ⟨qi, ⟨k6, q6, c6, m6, s6, n6, t6, a6⟩, hqi, rfl, hgi, HP6, HRI, HRA⟩ := hrel
              by_cases hql : qi < tn
              · obtain ⟨y, hy⟩ : ∃ y, A1[qi]? = some y := ⟨_, List.getElem?_eq_getElem (by rw [← HTN.out]; exact hql)⟩
                obtain ⟨g8, off8, rfl⟩ := HRA.out.form (by rw [← HTN.out]; omega)
                obtain ⟨g0, g1, g2⟩ := cells3 HRA.out hy
                obtain ⟨P7, hP7⟩ : ∃ P7, P7 = hearP ⟨k6, q6, c6, m6, s6, n6, t6, a6⟩ y.2.1 y.2.2 now := ⟨_, rfl⟩
                have HP7 : Hid (P7 = heardP ⟨k5, q5, c5, m5, s5, n5, t5, a5⟩ now (A1.take (qi + 1))) := by show _ = _; rw [heard_more hy, ← HP6.out, hP7]
                have HT6 : Hid (Sm t6) := by
                  have h := HBD5.out.heard (now := now) (A := A1.take qi)
                  rw [← HP6.out, List.length_take] at h
                  unfold Bd at h
                  simp only at h
                  show Sm t6
                  unfold Sm
                  omega
                obtain ⟨e0, e1, e2⟩ := y
                simp only at g0 g1 g2 hP7
                have H0 := fun W => hear_any ⟨k6, q6, c6, m6, s6, n6, t6, a6⟩ e1 e2 now W HSN.out HT6.out
                rw [← hP7] at H0
                obtain ⟨k7, q7, c7, m7, s7, n7, t7, a7⟩ := P7
                obtain ⟨HB1, hHB1⟩ : ∃ HB1, HB1 = hearB ⟨k6, q6, c6, m6, s6, n6, t6, a6⟩ e1 e2 := ⟨_, rfl⟩
                rw [← hHB1] at H0
                have HH : Hid (∀ W, Calls Try.prog 10 #[.agg #[.string (st k6), .string (st q6), .string (st c6), .int .i64 m6, .string (st s6), .int .i64 n6, .int .i64 t6, .int .i64 a6], .string (st e1), .int .i64 e2, .int .i64 now] W fun e w' => e = .returned (.tuple #[.agg #[.string (st k7), .string (st q7), .string (st c7), .int .i64 m7, .string (st s7), .int .i64 n7, .int .i64 t7, .int .i64 a7], .bool HB1]) ∧ Below W.heap.size W w') := H0
                obtain ⟨d0, d1, d2, d3, d4, d5, d6, d7⟩ := HRI.out.cells
                have lpb := HRI.out.pay.lt
                have hqz : (0 : Int) ≤ (qi : Int) := by omega
                have hqn : (qi : Int) < (tn : Int) := by omega
                clear H0 hHB1 hP7 hy
                go_wp2_with fail
                refine (HH.out _).mono ?_
                rintro e w8 ⟨rfl, hb⟩
                have hba : Below wr.heap.size wr (wr.alloc (.cells #[.string (st e0), .string (st e1), .int .i64 e2] 59)) := (Below.refl _ wr).alloc (Nat.le_refl _) _
                have HRN8 := Lib.hid ((HRI.out.keep hba).keep hb)
                have HPUT8 := Lib.hid (HRN8.out.put (k2 := k7) (q2 := q7) (c2 := c7) (m2 := m7) (s2 := s7) (n2 := n7) (t2 := t7) (a2 := a7))
                have HRA9 := Lib.hid (((HRA.out.keep hba).keep hb).stp (put_stp w8 pb (.string (st k7)) (.string (st q7)) (.string (st c7)) (.int .i64 m7) (.string (st s7)) (.int .i64 n7) (.int .i64 t7) (.int .i64 a7)) HNP.out)
                clear hb hba d0 d1 d2 d3 d4 d5 d6 d7 g0 g1 g2 lpb HH HRI HRA
                have f0 := HRN8.out.frozen 0
                have f1 := HRN8.out.frozen 1
                have f2 := HRN8.out.frozen 2
                have f3 := HRN8.out.frozen 3
                have f4 := HRN8.out.frozen 4
                have f5 := HRN8.out.frozen 5
                have f6 := HRN8.out.frozen 6
                have f7 := HRN8.out.frozen 7
                obtain ⟨d0, d1, d2, d3, d4, d5, d6, d7⟩ := HRN8.out.cells
                go_wp2
                go_roundg (tn - (qi + 1))
                case measure => omega
                case rel => exact ⟨qi + 1, ⟨k7, q7, c7, m7, s7, n7, t7, a7⟩, by omega, by go_num, by omega, HP7.out, HPUT8.out, HRA9.out⟩
              · have HF2 : Hid (F (j + 1) = ⟨⟨k6, q6, c6, m6, s6, n6, t6, a6⟩, L1, Q1⟩) := by
                  show _ = _
                  rw [HF1.out, HP6.out, heard_all (by rw [← HTN.out]; omega)]
                have e : tn = qi := by omega
                clear hgi
                go_wp2
                go_roundg (ln - (j + 1))
                case measure => omega
                case rel => exact ⟨j + 1, ⟨k6, q6, c6, m6, s6, n6, t6, a6⟩, L1, Q1, z1, z2, by omega, by go_num, by omega, HF2.out, HRI.out⟩
    · have e : ln = j := by omega
      subst e
      have HF1 : Hid (S = ⟨⟨k1, q1, c1, m1, s1, n1, t1, a1⟩, L, Q⟩) := by show _ = _; rw [HSE.out, HFJ.out]
      obtain ⟨d0, d1, d2, d3, d4, d5, d6, d7⟩ := HRN.out.cells
      have f0 := HRN.out.res.frozen 0
      have f1 := HRN.out.res.frozen 1
      have f2 := HRN.out.res.frozen 2
      have f3 := HRN.out.res.frozen 3
      have f4 := HRN.out.res.frozen 4
      have f5 := HRN.out.res.frozen 5
      have f6 := HRN.out.res.frozen 6
      have f7 := HRN.out.res.frozen 7
      have HLAST := Lib.hid (HRN.out.last (.string (st k1)) (.string (st q1)) (.string (st c1)) (.int .i64 m1) (.string (st s1)) (.int .i64 n1) (.int .i64 t1) (.int .i64 a1))
      obtain ⟨r0, r1, r2, r3, r4, r5, r6, r7⟩ := Blk.cells8 HRN.out.res
      go_wp2
      refine bodyPost_ret (results_cell_row rfl _ _ _ _ _ (0, 0) _ rfl HLAST.out.1 Try.underlying23 rfl infoPy) rfl ⟨?_, ?_⟩
      · rw [HF1.out]; first | done | rfl
      · rw [HF1.out]; exact HLAST.out.2
end Go.Proofs.Ytdahgmkbpiklpaa
