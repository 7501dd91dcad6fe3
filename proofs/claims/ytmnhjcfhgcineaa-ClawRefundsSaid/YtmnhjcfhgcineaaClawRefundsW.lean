/-
  The walk of souklaw13.ClawRefunds.
-/
import Derived.Test.YtmnhjcfhgcineaaClG
namespace Go.Proofs.Ytmnhjcfhgcineaa
open Go.RowKit Go.Deep

set_option maxHeartbeats 1600000 in
set_option maxRecDepth 100000 in
theorem refunds_many (a aL aU : Option Addr) (n c m cL p cU : Nat) (w : World) (hn : 10 < n ∨ 40 < m) :
    Calls Try.prog 4 #[.slice a n c, .slice aL m cL, .slice aU p cU] w fun e w' => e = .returned (.bool true) ∧ Below w.heap.size w w' := by
  have HL := Lib.hid lives13_any
  by_cases hn1 : 10 < n
  · have hgt : (10 : Int) < (n : Int) := by omega
    clear hn hn1
    go_enter Try.func4, Try.ntmps4
    go_wp2_with fail
    refine (HL.out _).mono ?_
    rintro e w1 ⟨rfl, hb⟩
    have HB := Lib.hid hb
    clear hb
    go_wp2_with fail
    refine (HL.out _).mono ?_
    rintro e w2 ⟨rfl, hb⟩
    have HB2 := Lib.hid (bel_on HB.out HB.out.size hb)
    clear hb HL
    go_wp2
    go_ret
    exact ⟨rfl, HB2.out⟩
  · have hgt : ¬ (10 : Int) < (n : Int) := by omega
    have hgt2 : (40 : Int) < (m : Int) := by omega
    clear hn hn1
    go_enter Try.func4, Try.ntmps4
    go_wp2_with fail
    refine (HL.out _).mono ?_
    rintro e w1 ⟨rfl, hb⟩
    have HB := Lib.hid hb
    clear hb
    go_wp2_with fail
    refine (HL.out _).mono ?_
    rintro e w2 ⟨rfl, hb⟩
    have HB2 := Lib.hid (bel_on HB.out HB.out.size hb)
    clear hb HL
    go_wp2
    go_ret
    exact ⟨rfl, HB2.out⟩

set_option maxHeartbeats 12800000 in
set_option maxRecDepth 100000 in
theorem refunds_few (a aL aU : Option Addr) (c cL cU : Nat) (ws0 ls : List Int) (us : List Bool) (w : World) (hr : RowI .i64 w a ws0) (hz : ∀ z ∈ ws0, Amt z) (hrl : RowI .i64 w aL ls) (hru : RowB w aU us) (hn : ws0.length ≤ 10) (hm : ls.length ≤ 40) :
    Calls Try.prog 4 #[.slice a ws0.length c, .slice aL ls.length cL, .slice aU us.length cU] w fun e w' => e = .returned (.bool true) ∧ Below w.heap.size w w' := by
  have HL := Lib.hid lives13_any
  have HCL : Hid (∀ W, Below w.heap.size w W → Calls Try.prog 7 #[.slice a ws0.length c] W (ClnPost ws0 W)) := fun W hb => clone_any a c ws0 W (hr.keep hb) (by omega)
  have HEQ : Hid (∀ (W : World) (A B : Option Addr) (c1 c2 n : Nat) (ps : List Int), ps.length = n → n ≤ 10 → RowI .i64 W A ps → RowI .i64 W B ps → Calls Try.prog 10 #[.slice A n c1, .slice B n c2] W fun e w' => e = .returned (.bool true) ∧ ∃ m, w' = W.drewN m) := fun W A B c1 c2 n ps hps h10 hA hB => by
    have := equal_any A B c1 c2 ps ps W hA hB (by unfold maxLen; omega)
    rw [decide_eq_true rfl, hps] at this
    exact this
  have HRL := Lib.hid hrl
  have HRU := Lib.hid hru
  unfold ClnPost at HCL
  have HZ := Lib.hid hz
  obtain ⟨n, hnn⟩ : ∃ n, n = ws0.length := ⟨_, rfl⟩
  obtain ⟨m, hmm⟩ : ∃ m, m = ls.length := ⟨_, rfl⟩
  obtain ⟨p, hpp⟩ : ∃ p, p = us.length := ⟨_, rfl⟩
  have HN := Lib.hid hnn
  have HM := Lib.hid hmm
  have HP := Lib.hid hpp
  rw [← hnn] at HCL hn ⊢
  rw [← hmm] at hm ⊢
  rw [← hpp]
  have hgt : ¬ (10 : Int) < (n : Int) := by omega
  have hgt2 : ¬ (40 : Int) < (m : Int) := by omega
  clear hr hz hrl hru hnn hmm hpp
  go_enter Try.func4, Try.ntmps4
  go_wp2_with fail
  refine (HL.out _).mono ?_
  rintro e w1 ⟨rfl, hb⟩
  have HB1 := Lib.hid hb
  clear hb HL
  go_wp2_with fail
  refine (HCL.out _ HB1.out).mono ?_
  rintro e w2 ⟨A1, c1, rfl, hown1, hb⟩
  have HB2 := Lib.hid (bel_on HB1.out HB1.out.size hb)
  have HO1 := Lib.hid (own_base hown1 HB1.out.size)
  have HB3 : Hid (Below w.heap.size w (w2.alloc (.cells #[.slice A1 n c1] 33))) := HB2.out.alloc HB2.out.size _
  clear hb hown1
  go_wp2_with fail
  refine (HCL.out _ HB3.out).mono ?_
  rintro e w5 ⟨A, cA, rfl, hown2, hb⟩
  have HTW : Hid (TwoP w w5 w2.heap.size A cA ws0 ws0 A1 c1) := by
    have h1 := HO1.out
    have h2 := HB2.out
    rw [HN.out] at h1 hown2 hb
    exact TwoP.start h1 h2 hown2 hb
  clear hown2 hb HO1
  obtain ⟨b, hb⟩ : ∃ b, b = w2.heap.size := ⟨_, rfl⟩
  rw [← hb] at HTW ⊢
  clear hb HB3 HB2 HB1
  go_wp2
  go_loopg [9, 10, 11, 12, 13, 14, 15, 16, 17, 18, 44, 49, 55, 70, 71, 72, 110, 111, 112] m (fun gk _ _ _ _ _ _ _ _ _ _ i _ _ _ _ _ _ _ _ wr => ∃ (k : Nat) (ws : List Int) (a1 : Option Addr) (ca : Nat), k ≤ m ∧ i = .int .i64 k ∧ m - k ≤ gk ∧ Hid (ws.length = n) ∧ Hid (∀ z ∈ ws, Amt z) ∧ Hid (TwoP w wr b A cA ws ws a1 ca))
  case atStart => exact ⟨0, ws0, A1, c1, Nat.zero_le _, rfl, by omega, HN.out.symm, HZ.out, HTW⟩
  case round =>
    clear HTW
    obtain ⟨k, ws, a1, ca, hk, rfl, hgk, HLN, HZW, HTW⟩ := hrel
    by_cases hlt : k < m
    · obtain ⟨bl, ol, rfl, hcl⟩ := (HRL.out.keep (w' := wr) HTW.out.below) (by rw [← HM.out]; omega)
      have cl := hcl k (by rw [← HM.out]; exact hlt)
      obtain ⟨z, hz⟩ : ∃ z, z = ls.getD k 0 := ⟨_, rfl⟩
      rw [← hz] at cl
      clear hcl hz
      have hkz : (0 : Int) ≤ (k : Int) := by omega
      have hkn : (k : Int) < (m : Int) := by omega
      by_cases he : tkE ws z = 0
      · have G := GoodT.of he
        have h1 := refund_yes z b a1 ca ws wr HTW.out.sale HZW.out (by have := HLN.out; omega) he
        unfold RfYes at h1
        rw [HLN.out] at h1
        have H1 := Lib.hid h1
        have hp := G.pos
        rw [HLN.out] at hp
        obtain ⟨gA, rfl⟩ := HTW.out.form (by have := HLN.out; omega)
        have hgA := (HTW.out.lt _ rfl).2
        have HG := Lib.hid G
        have HE := Lib.hid he
        clear h1 G he
        go_wp2_with fail
        refine H1.out.mono ?_
        rintro e w6 ⟨g, g2, ps, rfl, hg, hg2, ht, hrow, hsale, hgrow⟩
        have HT6 := Lib.hid (HTW.out.turn (subL_length ws ps) hsale hgrow hg2)
        have HT := Lib.hid ht
        have HX6 := Lib.hid hrow
        have HNG : Hid (g ≠ gA) := by show _ ≠ _; have : gA < wr.heap.size := hgA; omega
        have HA6 := Lib.hid (HT6.out.lt _ rfl).2
        have h2 := rtake_yes z (some ⟨gA, 0, none⟩) cA ws ps w6 (RowI.of_own HT6.out.now) HZW.out (by have := HLN.out; omega) HE.out ht
        unfold RTkYes at h2
        rw [HLN.out] at h2
        have H2 := Lib.hid h2
        clear hg hg2 ht hrow hsale hgrow h2 H1 hgA
        go_wp2_with fail
        refine H2.out.mono ?_
        rintro e w7 ⟨g', c', rfl, hg', hrow', hb⟩
        have HT7 := Lib.hid (HT6.out.keep hb)
        have HX7 := Lib.hid (HX6.out.keep hb)
        have HW7 := Lib.hid hrow'
        have HNG' : Hid (g' ≠ gA) := by show _ ≠ _; have : gA < w6.heap.size := HA6.out; omega
        have HGB : Hid (g' ≠ b) := by show _ ≠ _; have := HT6.out.sale.box.lt; omega
        have HPL : Hid (ps.length = n) := by show _ = _; rw [HT.out.length, HLN.out]
        have H3 := Lib.hid (HEQ.out w7 (some ⟨g, 0, none⟩) (some ⟨g', 0, none⟩) n c' n ps HPL.out hn HX7.out HW7.out)
        clear hg' hrow' hb H2 HT6 HX6 HA6
        go_wp2_with fail
        refine H3.out.mono ?_
        rintro e w8 ⟨rfl, m8, rfl⟩
        have HT8 := Lib.hid (HT7.out.keep (below_drewN (Below.refl _ _) m8))
        have HX8 : Hid (RowI .i64 (w7.drewN m8) (some ⟨g, 0, none⟩) ps) := HX7.out
        have HW8 : Hid (RowI .i64 (w7.drewN m8) (some ⟨g', 0, none⟩) ps) := HW7.out
        generalize w7.drewN m8 = w8 at HT8 HX8 HW8 ⊢
        clear H3 HT7 HX7 HW7 HTW cl
        go_wp2
        go_loopg [15, 16, 72] n (fun gj _ _ i wr => ∃ j : Nat, j ≤ n ∧ i = .int .i64 j ∧ n - j ≤ gj ∧ Hid (TwoP w wr b (some ⟨gA, 0, none⟩) cA (subL ws ps) (mixL (fun i => ws.getD i 0 - ps.getD i 0) ws j) (some ⟨g2, 0, none⟩) n) ∧ Hid (RowI .i64 wr (some ⟨g, 0, none⟩) ps) ∧ Hid (RowI .i64 wr (some ⟨g', 0, none⟩) ps))
        case atStart =>
          refine ⟨0, Nat.zero_le _, rfl, by omega, ?_, HX8, HW8⟩
          rw [mixL_zero]
          exact HT8
        case round =>
          clear HT8 HX8 HW8
          obtain ⟨j, hj, rfl, hgj, HTJ, HXJ, HWJ⟩ := hrel
          by_cases hlj : j < n
          · obtain ⟨b2, o2, e2, hc2⟩ := HWJ.out (by rw [HPL.out]; exact hp)
            injection e2 with e2
            injection e2 with e2 e3
            subst e2
            subst e3
            have c2 := hc2 j (by rw [HPL.out]; exact hlj)
            rw [Nat.zero_add] at c2
            have hjw : j < ws.length := by rw [HLN.out]; exact hlj
            have c3 := HTJ.out.at (i := j) (by rw [subL_length]; exact hjw)
            rw [mixL_get hjw, if_neg (by omega)] at c3
            have f3 := HTJ.out.frozen j
            have hbt := HT.out.part HG.out j hjw
            have hzk := HZW.out _ (getD_mem hjw)
            have HST := HTJ.out.put j (ws.getD j 0 - ps.getD j 0)
            rw [show (mixL (fun i => ws.getD i 0 - ps.getD i 0) ws j).set j (ws.getD j 0 - ps.getD j 0) = mixL (fun i => ws.getD i 0 - ps.getD i 0) ws (j + 1) from mixL_step] at HST
            have HST := Lib.hid HST
            have HXS := Lib.hid (rowI_other' (b := gA) (i := j) (v := .int .i64 (ws.getD j 0 - ps.getD j 0)) HXJ.out (fun x hx => by injection hx with hx; subst hx; exact HNG.out))
            have HWS := Lib.hid (rowI_other' (b := gA) (i := j) (v := .int .i64 (ws.getD j 0 - ps.getD j 0)) HWJ.out (fun x hx => by injection hx with hx; subst hx; exact HNG'.out))
            obtain ⟨F, hF⟩ : ∃ F : Nat → Int, F = (fun i => ws.getD i 0 - ps.getD i 0) := ⟨_, rfl⟩
            rw [← hF] at HST
            obtain ⟨y, hy⟩ : ∃ y, y = ps.getD j 0 := ⟨_, rfl⟩
            obtain ⟨x, hx⟩ : ∃ x, x = ws.getD j 0 := ⟨_, rfl⟩
            rw [← hy] at c2 hbt HST HXS HWS
            rw [← hx] at c3 hbt hzk HST HXS HWS
            have HF := Lib.hid hF
            unfold Amt at hzk
            clear hy hx hF hc2 hjw
            go_wp2
            go_roundg (n - (j + 1))
            case measure => omega
            case rel => exact ⟨j + 1, by omega, by go_num, by omega, by rw [← HF.out]; exact HST, HXS, HWS⟩
          · have hje : j = n := by omega
            have HT9 : Hid (TwoP w wr b (some ⟨gA, 0, none⟩) cA (subL ws ps) (subL ws ps) (some ⟨g2, 0, none⟩) n) := by
              have := HTJ.out
              rw [hje, ← HLN.out, mixL_all] at this
              rw [← HLN.out]
              exact this
            have HX9 := Lib.hid HXJ.out
            have HW9 := Lib.hid HWJ.out
            have c0 := HT9.out.cell
            rw [subL_length, HLN.out] at c0
            have H4 := Lib.hid (HEQ.out wr (some ⟨g2, 0, none⟩) (some ⟨gA, 0, none⟩) n cA n (subL ws ps) (by rw [subL_length]; exact HLN.out) hn HT9.out.sale.row (RowI.of_own HT9.out.now))
            clear HTJ HXJ HWJ hje hgj
            go_wp2_with fail
            refine H4.out.mono ?_
            rintro e w10 ⟨rfl, m10, rfl⟩
            have HT10 := Lib.hid (HT9.out.keep (below_drewN (Below.refl _ _) m10))
            have HX10 : Hid (RowI .i64 (wr.drewN m10) (some ⟨g, 0, none⟩) ps) := HX9.out
            have HW10 : Hid (RowI .i64 (wr.drewN m10) (some ⟨g', 0, none⟩) ps) := HW9.out
            have HSA : Hid (∀ z ∈ subL ws ps, Amt z) := sub_amt HG.out HT.out HZW.out
            have HSL : Hid ((subL ws ps).length = n) := by show _ = _; rw [subL_length, HLN.out]
            generalize wr.drewN m10 = w10 at HT10 HX10 HW10 ⊢
            clear H4 HT9 HX9 HW9 c0
            by_cases hu : k < p
            · obtain ⟨bu, ou, rfl, hcu⟩ := (HRU.out.keep (w' := w10) HT10.out.below) (by rw [← HP.out]; omega)
              have cu := hcu k (by rw [← HP.out]; exact hu)
              have hku : (k : Int) < (p : Int) := by omega
              obtain ⟨ub, hub⟩ : ∃ ub, ub = us.getD k false := ⟨_, rfl⟩
              rw [← hub] at cu
              clear hcu hub hu
              cases ub with
              | false =>
                clear HX10 HW10
                go_wp2
                go_roundg (m - (k + 1))
                case measure => omega
                case rel => exact ⟨k + 1, subL ws ps, some ⟨g2, 0, none⟩, n, by omega, by go_num, by omega, HSL.out, HSA.out, HT10.out⟩
              | true =>
                have h5 := undo_yes b (some ⟨g2, 0, none⟩) (some ⟨g, 0, none⟩) n n (subL ws ps) ps w10 HT10.out.sale HX10.out (by rw [subL_length]; exact HT.out.length) (by rw [HSL.out]; omega) HSA.out (HT.out.amt HG.out)
                  (anyNeg_none fun j hj => by have h := HT.out.length; exact (HT.out.part HG.out j (by omega)).1)
                  (fun i hi => by
                    rw [subL_length] at hi
                    rw [subL_get hi, show ws.getD i 0 - ps.getD i 0 + ps.getD i 0 = ws.getD i 0 by omega]
                    exact HZW.out _ (getD_mem hi))
                unfold UdYes at h5
                rw [add_sub, HSL.out] at h5
                have H5 := Lib.hid h5
                clear h5
                go_wp2_with fail
                refine H5.out.mono ?_
                rintro e w11 ⟨g3, rfl, hg3, hsale, hgrow⟩
                have HT11 := Lib.hid (HT10.out.turn (by rw [subL_length]) hsale hgrow hg3)
                have hgb' : ∀ x, (some (⟨g', 0, none⟩ : Addr)) = some x → some x.block ≠ some b := fun x hx => by
                  injection hx with hx
                  subst hx
                  intro e
                  injection e with e
                  exact HGB.out e
                have HW11 : Hid (RowI .i64 w11 (some ⟨g', 0, none⟩) ps) := rowI_grown HW10.out hgrow hgb'
                clear hg3 hsale hgrow hgb' HX10 HW10 HT10 H5
                go_wp2
                go_loopg [17, 18, 112] n (fun gj _ _ i wr => ∃ j : Nat, j ≤ n ∧ i = .int .i64 j ∧ n - j ≤ gj ∧ Hid (TwoP w wr b (some ⟨gA, 0, none⟩) cA ws (mixL (fun i => (subL ws ps).getD i 0 + ps.getD i 0) (subL ws ps) j) (some ⟨g3, 0, none⟩) n) ∧ Hid (RowI .i64 wr (some ⟨g', 0, none⟩) ps))
                case atStart =>
                  refine ⟨0, Nat.zero_le _, rfl, by omega, ?_, HW11⟩
                  rw [mixL_zero]
                  exact HT11
                case round =>
                  clear HT11 HW11
                  obtain ⟨j, hj, rfl, hgj, HTJ, HWJ⟩ := hrel
                  by_cases hlj : j < n
                  · obtain ⟨b2, o2, e2, hc2⟩ := HWJ.out (by rw [HPL.out]; exact hp)
                    injection e2 with e2
                    injection e2 with e2 e3
                    subst e2
                    subst e3
                    have c2 := hc2 j (by rw [HPL.out]; exact hlj)
                    rw [Nat.zero_add] at c2
                    have hjw : j < ws.length := by rw [HLN.out]; exact hlj
                    have c3 := HTJ.out.at (i := j) hjw
                    rw [mixL_get (by rw [subL_length]; exact hjw), if_neg (by omega)] at c3
                    have f3 := HTJ.out.frozen j
                    have hsg := subL_get (ws := ws) (ps := ps) hjw
                    have hbt := HT.out.part HG.out j hjw
                    have hzk := HZW.out _ (getD_mem hjw)
                    have HST := HTJ.out.put j ((subL ws ps).getD j 0 + ps.getD j 0)
                    rw [show (mixL (fun i => (subL ws ps).getD i 0 + ps.getD i 0) (subL ws ps) j).set j ((subL ws ps).getD j 0 + ps.getD j 0) = mixL (fun i => (subL ws ps).getD i 0 + ps.getD i 0) (subL ws ps) (j + 1) from mixL_step] at HST
                    have HST := Lib.hid HST
                    have HWS := Lib.hid (rowI_other' (b := gA) (i := j) (v := .int .i64 ((subL ws ps).getD j 0 + ps.getD j 0)) HWJ.out (fun x hx => by injection hx with hx; subst hx; exact HNG'.out))
                    obtain ⟨F, hF⟩ : ∃ F : Nat → Int, F = (fun i => (subL ws ps).getD i 0 + ps.getD i 0) := ⟨_, rfl⟩
                    rw [← hF] at HST
                    obtain ⟨x, hx⟩ : ∃ x, x = (subL ws ps).getD j 0 := ⟨_, rfl⟩
                    rw [← hx] at c3 hsg HST HWS
                    obtain ⟨y, hy⟩ : ∃ y, y = ps.getD j 0 := ⟨_, rfl⟩
                    rw [← hy] at c2 hbt hsg HST HWS
                    have HF := Lib.hid hF
                    unfold Amt at hzk
                    have hx1 : 0 ≤ x := by omega
                    have hx2 : x + y ≤ 9223372036854775807 := by omega
                    obtain ⟨hy1, _⟩ := hbt
                    clear hx hy hF hc2 hjw hsg hzk
                    go_wp2
                    go_roundg (n - (j + 1))
                    case measure => omega
                    case rel => exact ⟨j + 1, by omega, by go_num, by omega, by rw [← HF.out]; exact HST, HWS⟩
                  · have hje : j = n := by omega
                    have HT12 : Hid (TwoP w wr b (some ⟨gA, 0, none⟩) cA ws ws (some ⟨g3, 0, none⟩) n) := by
                      have hmx : mixL (fun i => (subL ws ps).getD i 0 + ps.getD i 0) (subL ws ps) n = ws := by
                        rw [← HSL.out, mixL_all]
                        exact add_sub ws ps
                      have := HTJ.out
                      rw [hje, hmx] at this
                      exact this
                    clear HTJ HWJ hje hgj
                    go_wp2
                    go_roundg (m - (k + 1))
                    case measure => omega
                    case rel => exact ⟨k + 1, ws, some ⟨g3, 0, none⟩, n, by omega, by go_num, by omega, HLN.out, HZW.out, HT12.out⟩
            · have hku : ¬ ((k : Int) < (p : Int)) := by omega
              clear HX10 HW10 hu
              go_wp2
              go_roundg (m - (k + 1))
              case measure => omega
              case rel => exact ⟨k + 1, subL ws ps, some ⟨g2, 0, none⟩, n, by omega, by go_num, by omega, HSL.out, HSA.out, HT10.out⟩
      · have h1 := refund_bad z b a1 ca ws wr HTW.out.sale HZW.out (by unfold maxLen; have := HLN.out; omega) he
        have h2 := rtake_bad z A cA ws wr (RowI.of_own HTW.out.now) HZW.out (by unfold maxLen; have := HLN.out; omega) he
        unfold TkBad at h1 h2
        obtain ⟨E, hE⟩ : ∃ E, E = tkE ws z := ⟨_, rfl⟩
        rw [← hE] at h1 h2 he
        rw [HLN.out] at h2
        have H1 := Lib.hid h1
        have H2 := Lib.hid h2
        have H3 := Lib.hid (HEQ.out wr none none 0 0 0 [] rfl (by omega) (fun h => by simp at h) (fun h => by simp at h))
        have t1 : (E != E) = false := by simp
        have t2 : (E == 0) = false := by rw [beq_eq_false_iff_ne]; exact he
        clear h1 h2 hE he
        go_wp2_with fail
        refine H1.out.mono ?_
        rintro e w6 ⟨rfl, rfl⟩
        go_wp2_with fail
        refine H2.out.mono ?_
        rintro e w6 ⟨rfl, rfl⟩
        go_wp2_with fail
        refine H3.out.mono ?_
        rintro e w6 ⟨rfl, m6, rfl⟩
        have HT6 : Hid (TwoP w (wr.drewN m6) b A cA ws ws a1 ca) := HTW.out.keep (below_drewN (Below.refl _ _) m6)
        have c0 := HT6.out.cell
        rw [HLN.out] at c0
        have H4 := HEQ.out (wr.drewN m6) a1 A ca cA n ws HLN.out hn HT6.out.sale.row (RowI.of_own HT6.out.now)
        have H4 := Lib.hid H4
        clear H1 H2 H3
        go_wp2
        refine wp_loop_rounds 1 ?_
        rw [rounds_succ]
        go_wp2_with fail
        refine H4.out.mono ?_
        rintro e w7 ⟨rfl, m7, rfl⟩
        have HT7 : Hid (TwoP w (wr.drewN (m6 + m7)) b A cA ws ws a1 ca) := HTW.out.keep (below_drewN (Below.refl _ _) (m6 + m7))
        clear H4 c0
        go_wp2
        go_roundg (m - (k + 1))
        case measure => omega
        case rel => exact ⟨k + 1, ws, a1, ca, by omega, by go_num, by omega, HLN.out, HZW.out, HT7.out⟩
    · have hkn : ¬ ((k : Int) < (m : Int)) := by omega
      have H1 := Lib.hid (refund_nil 1 wr)
      have H2 := Lib.hid (HCL.out wr HTW.out.below)
      clear hlt hgk
      go_wp2_with fail
      refine H1.out.mono ?_
      rintro e w6 ⟨rfl, rfl⟩
      clear H1
      go_wp2_with fail
      refine H2.out.mono ?_
      rintro e w6 ⟨A9, c9, rfl, hown, hb⟩
      have HT6 := Lib.hid (HTW.out.keep hb)
      have HO6 := Lib.hid hown
      have HB6 := Lib.hid hb
      clear hown hb H2
      go_wp2_with (at_builtin; refine wpList_append_one rfl (.tmp 133) (.tmp 134) 22 rfl wr.heap.size 2 _ 8 Try.underlying22 infoI64 rfl _ _ rfl (.slice A9 n c9) n _ rfl rfl HO6.out HB6.out.size (by unfold maxLen; omega) (by omega) ?_)
      intro v7 w7 hown hb
      have HO7 := Lib.hid hown
      have HT7 := Lib.hid (HTW.out.keep (HB6.out.trans hb))
      obtain ⟨A7, c7, rfl⟩ := own_slice hown
      have c0 := HT7.out.cell
      rw [HLN.out] at c0
      have H3 := Lib.hid (undo_len b n (n + 1) ca a1 A7 c7 w7 c0 (by omega))
      have H4 := Lib.hid (HEQ.out w7 a1 A ca cA n ws HLN.out hn HT7.out.sale.row (RowI.of_own HT7.out.now))
      clear hown hb HO6 HB6
      go_wp2_with fail
      refine H3.out.mono ?_
      rintro e w8 ⟨rfl, rfl⟩
      go_wp2_with fail
      refine H4.out.mono ?_
      rintro e w8 ⟨rfl, m8, rfl⟩
      have H5 := Lib.hid (undo_nil (.slice none 0 0) (w7.drewN m8))
      have HBF := Lib.hid (below_drewN HT7.out.below m8)
      clear H3 H4 c0
      go_wp2_with fail
      refine H5.out.mono ?_
      rintro e w9 ⟨rfl, rfl⟩
      go_wp2
      go_ret
      exact ⟨rfl, HBF.out⟩
end Go.Proofs.Ytmnhjcfhgcineaa
