/-
  Contract of soukref01.MulDiv.
-/
import Derived.Test.YtkflakeocdlinaaGreatDoorWideGMP
import Derived.Test.YtkflakeocdlinaaGreatDoorMP05
namespace Go.Proofs.YtkflakeocdlinaaGreatDoor
open Go.RowKit

def RMDPost (a b : Int) (c : Nat) (m : Int) (w : World) (e : Ending) (w' : World) : Prop := e = .returned (.tuple #[.int .i64 (mdV a b c m), .bool (mdB a b c m)]) ∧ Below w.heap.size w w'

theorem len_eq_zero {bs : List Bool} (hc : Canon bs) : ((bs.length : Int) == 0) = decide (val bs = 0) := by
  rw [Bool.eq_iff_iff]
  simp only [beq_iff_eq, decide_eq_true_eq]
  have := canon_zero hc
  omega

set_option maxHeartbeats 6400000 in
theorem rMulDiv_any (a b : Int) (c : Nat) (m : Int) (w : World) (ha : Amt a) (hb : Amt b) (hc : 0 < c) (hc2 : c ≤ 9223372036854775807) (hm : m = 0 ∨ m = 1 ∨ m = 2) :
    Calls Tryz.prog 60 #[.int .i64 a, .int .i64 b, .int .i64 c, .int .i64 m] w (RMDPost a b c m w) := by
  have hac : Amt (c : Int) := by unfold Amt; omega
  have HA := Lib.hid (fun W => bits_any a W ha)
  have HBb := Lib.hid (fun W => bits_any b W hb)
  have HCc := Lib.hid (fun W => bits_any (c : Int) W hac)
  rw [show ((c : Int)).natAbs = c from rfl] at HCc
  have hbl : (!(decide (a < 0) == decide (b < 0))) = mdBelow a b := rfl
  have HP : Hid (RMDPost a b c m w = fun e w' => e = .returned (.tuple #[.int .i64 (sgnV (mdQ a b c m) (mdBelow a b)), .bool (sgnB (mdQ a b c m) (mdBelow a b))]) ∧ Below w.heap.size w w') := rfl
  rw [HP.out]
  clear HP
  obtain ⟨neg, hneg⟩ : ∃ x, x = mdBelow a b := ⟨_, rfl⟩
  obtain ⟨Nq, hNq⟩ : ∃ x, x = a.natAbs * b.natAbs / c := ⟨_, rfl⟩
  obtain ⟨Nr, hNr⟩ : ∃ x, x = a.natAbs * b.natAbs % c := ⟨_, rfl⟩
  have HQ0 : Hid (mdQ a b c m = Nq + if upB neg m Nq Nr c then 1 else 0) := by show _ = _; unfold mdQ; rw [← hNq, ← hNr, ← hneg]
  rw [← hneg] at hbl
  have eg : mdBelow a b = neg := hneg.symm
  rw [eg]
  obtain ⟨x, hx⟩ : ∃ x, x = a.natAbs := ⟨_, rfl⟩
  obtain ⟨y, hy⟩ : ∃ y, y = b.natAbs := ⟨_, rfl⟩
  rw [← hx] at HA hNq hNr
  rw [← hy] at HBb hNq hNr
  obtain ⟨Mq, hMq⟩ : ∃ q, q = mdQ a b c m := ⟨_, rfl⟩
  rw [← hMq] at HQ0 ⊢
  have HNq := Lib.hid hNq
  have HNr := Lib.hid hNr
  have hNrc : Nr < c := by rw [hNr]; exact Nat.mod_lt _ hc
  clear hneg hx hy eg ha hb hac hMq hNq hNr
  go_enter Tryz.func60, Tryz.ntmps60
  go_wp2_with fail
  refine (HA.out _).mono ?_
  rintro e w1 ⟨va, la, rfl, a1, a2, a3, a4⟩
  have A1 := Lib.hid a1
  have A2 := Lib.hid a2
  have A4 := Lib.hid a4
  clear a1 a2 a4 HA
  go_wp2_with fail
  refine (HBb.out _).mono ?_
  rintro e w2 ⟨vb, lb, rfl, b1, b2, b3, b4⟩
  have HT := Lib.hid (times_any va vb la lb w2 (A1.out.keep b4) b1 (by omega) (by omega))
  rw [A2.out, b2] at HT
  have B4 : Hid (Below w.heap.size w w2) := A4.out.trans (b4.mono A4.out.size)
  clear b1 b2 b4 HBb A1 A2 A4
  go_wp2_with fail
  refine HT.out.mono ?_
  rintro e w3 ⟨A3, c3, l3, rfl, t1, t2, t3, t4, t5, t6⟩
  have T1 := Lib.hid t1
  have T2 := Lib.hid t2
  have T6 : Hid (Below w.heap.size w w3) := B4.out.trans (t6.mono B4.out.size)
  have hl3 : l3.length ≤ 200 := by omega
  clear t1 t2 t3 t4 t5 t6 HT B4 a3 b3
  go_wp2_with fail
  refine (HCc.out _).mono ?_
  rintro e w4 ⟨vc, lc, rfl, c1, c2, c5, c4⟩
  have HD := Lib.hid (rdiv_any _ vc l3 lc w4 (T1.out.keep c4) c1 (by omega) (by omega) (by rw [c2]; exact hc))
  have C4 : Hid (Below w.heap.size w w4) := T6.out.trans (c4.mono T6.out.size)
  have C2 := Lib.hid c2
  clear c1 c2 c4 T1 T6
  go_wp2_with fail
  refine HD.out.mono ?_
  rintro e w5 ⟨vq, vr, lq, lr, rfl, d1, d2, d3, d4, d5, d6, d7, d8, d9, d10, _⟩
  have D1 := Lib.hid d1
  have D2 := Lib.hid d2
  have D3 : Hid (val lq = Nq) := by show _ = _; rw [d3, C2.out, T2.out, HNq.out]
  have D4 : Hid (val lr = Nr) := by show _ = _; rw [d4, C2.out, T2.out, HNr.out]
  have D10 : Hid (Below w.heap.size w w5) := C4.out.trans (d10.mono C4.out.size)
  have hlq : lq.length ≤ 200 := by omega
  have hlr : lr.length ≤ 64 := by omega
  clear d1 d2 d3 d4 d5 d6 d7 d8 d9 d10 HD C4 C2 T2 HNq HNr hl3 c5
  have HPl := Lib.hid (plus_any vr vr lr lr w5 D2.out D2.out (by omega) (by omega))
  rw [D4.out] at HPl
  go_wp2_with fail
  refine HPl.out.mono ?_
  rintro e w6 ⟨vt, lt, rfl, e1, e2, e3, e4⟩
  have E1 := Lib.hid e1
  have E2 := Lib.hid e2
  have D1' := Lib.hid (D1.out.keep e4)
  have E4 : Hid (Below w.heap.size w w6) := D10.out.trans (e4.mono D10.out.size)
  have hlt : lt.length ≤ 65 := by omega
  obtain ⟨Ar, cr, hvr⟩ := D2.out.form
  subst hvr
  have HTr := Lib.hid (trim_same (D2.out.keep e4) (by omega))
  clear e1 e2 e3 e4 HPl D10 D1 D2
  go_wp2_with fail
  refine HTr.out.mono ?_
  rintro e w' ⟨cr2, lr2, rfl, f1, f2, f3, f4, rfl⟩
  have F3 := len_eq_zero f3
  rw [f2, D4.out] at F3
  obtain ⟨whole, hwh⟩ : ∃ x, x = decide (Nr = 0) := ⟨_, rfl⟩
  rw [← hwh] at F3
  have HWH := Lib.hid hwh
  clear f1 f2 f3 f4 HTr hwh
  go_wp2_with fail
  refine (HCc.out _).mono ?_
  rintro e w7 ⟨vc7, lc7, rfl, g1, g2, g3, g4⟩
  have HL7 := Lib.hid (less_any vt vc7 lt lc7 w7 (E1.out.keep g4) g1 (by omega) (by omega))
  rw [E2.out, g2] at HL7
  have E1' := Lib.hid (E1.out.keep g4)
  have D1'' := Lib.hid (D1'.out.keep g4)
  have G4 : Hid (Below w.heap.size w w7) := E4.out.trans (g4.mono E4.out.size)
  obtain ⟨be, hbe⟩ : ∃ x, x = decide (Nr + Nr < c) := ⟨_, rfl⟩
  rw [← hbe] at HL7
  have HBE := Lib.hid hbe
  clear g1 g2 g3 g4 E1 D1' E4 hbe F3
  go_wp2_with fail
  refine HL7.out.mono ?_
  rintro e w' ⟨rfl, rfl⟩
  clear HL7
  go_wp2_with fail
  refine (HCc.out _).mono ?_
  rintro e w8 ⟨vc8, lc8, rfl, g1, g2, g3, g4⟩
  have HL8 := Lib.hid (less_any vc8 vt lc8 lt w8 g1 (E1'.out.keep g4) (by omega) (by omega))
  rw [E2.out, g2] at HL8
  have D1 := Lib.hid (D1''.out.keep g4)
  have HB : Hid (Below w.heap.size w w8) := G4.out.trans (g4.mono G4.out.size)
  obtain ⟨ab, hab⟩ : ∃ x, x = decide (c < Nr + Nr) := ⟨_, rfl⟩
  rw [← hab] at HL8
  have HAB := Lib.hid hab
  clear g1 g2 g3 g4 E1' D1'' G4 hab HCc E2
  go_wp2_with fail
  refine HL8.out.mono ?_
  rintro e w' ⟨rfl, rfl⟩
  clear HL8
  have HVF := Lib.hid (value_any vq lq neg w8 D1.out (by omega))
  rw [D3.out] at HVF
  have hone : WB (w8.alloc (.cells #[.bool true] 4)) (.slice (some ⟨w8.heap.size, 0, none⟩) 1 1) [true] := WB.of_own (base := w8.heap.size) (World.ownsRow_lit w8 #[.bool true] 1 (Nat.le_refl _) (by simp [maxLen]) rfl)
  have HPT := Lib.hid (plus_any vq (.slice (some ⟨w8.heap.size, 0, none⟩) 1 1) lq [true] _ (D1.out.keep ((Below.refl _ _).alloc (Nat.le_refl _) _)) hone (by omega) (by decide))
  rw [D3.out, show val [true] = 1 from rfl] at HPT
  have HAT := Lib.hid (at_any vq lq 0 w8 D1.out (by omega) (by omega))
  rw [canon_odd lq, D3.out, show (((0 : Nat)) : Int) = 0 from rfl] at HAT
  clear hone
  clear hbl hc hc2 hNrc
  cases whole
  · have hr0 : Nr ≠ 0 := of_decide_eq_false HWH.out.symm
    have HR0 := Lib.hid hr0
    clear hr0
    rcases hm with rfl | rfl | rfl
    · cases neg
      · clear HAT
        have HQ : Hid (Mq = Nq) := by
          show _ = _
          rw [HQ0.out, show upB false 0 Nq Nr c = false from by unfold upB; rw [if_neg HR0.out, if_pos rfl]]; rfl
        go_wp2_with fail
        refine HVF.out.mono ?_
        rintro e w' ⟨rfl, rfl⟩
        go_wp2
        go_ret2
        exact ⟨by rw [HQ.out]; exact rfl, HB.out⟩
      · clear HAT
        have HQ : Hid (Mq = Nq + 1) := by
          show _ = _
          rw [HQ0.out, show upB true 0 Nq Nr c = true from by unfold upB; rw [if_neg HR0.out, if_pos rfl]]; rfl
        go_wp2_with fail
        refine HPT.out.mono ?_
        rintro e w9 ⟨v9, bs9, rfl, h1, h2, h3, h4⟩
        have HV9 := Lib.hid (value_any v9 bs9 true w9 h1 (by simp at h3; omega))
        rw [h2] at HV9
        have HB9 : Hid (Below w.heap.size w w9) := (HB.out.alloc HB.out.size _).trans (h4.mono (by simp; exact Nat.le_succ_of_le HB.out.size))
        clear h1 h2 h3 h4 HPT HVF
        go_wp2_with fail
        refine HV9.out.mono ?_
        rintro e w' ⟨rfl, rfl⟩
        go_wp2
        go_ret2
        exact ⟨by rw [HQ.out]; exact rfl, HB9.out⟩
    · cases neg
      · clear HAT
        have HQ : Hid (Mq = Nq + 1) := by
          show _ = _
          rw [HQ0.out, show upB false 1 Nq Nr c = true from by unfold upB; rw [if_neg HR0.out, if_neg (by decide), if_pos rfl]; rfl]; rfl
        go_wp2_with fail
        refine HPT.out.mono ?_
        rintro e w9 ⟨v9, bs9, rfl, h1, h2, h3, h4⟩
        have HV9 := Lib.hid (value_any v9 bs9 false w9 h1 (by simp at h3; omega))
        rw [h2] at HV9
        have HB9 : Hid (Below w.heap.size w w9) := (HB.out.alloc HB.out.size _).trans (h4.mono (by simp; exact Nat.le_succ_of_le HB.out.size))
        clear h1 h2 h3 h4 HPT HVF
        go_wp2_with fail
        refine HV9.out.mono ?_
        rintro e w' ⟨rfl, rfl⟩
        go_wp2
        go_ret2
        exact ⟨by rw [HQ.out]; exact rfl, HB9.out⟩
      · clear HAT
        have HQ : Hid (Mq = Nq) := by
          show _ = _
          rw [HQ0.out, show upB true 1 Nq Nr c = false from by unfold upB; rw [if_neg HR0.out, if_neg (by decide), if_pos rfl]; rfl]; rfl
        go_wp2_with fail
        refine HVF.out.mono ?_
        rintro e w' ⟨rfl, rfl⟩
        go_wp2
        go_ret2
        exact ⟨by rw [HQ.out]; exact rfl, HB.out⟩
    · have HU2 : Hid (upB neg 2 Nq Nr c = (decide (c < 2 * Nr) || (decide (c = 2 * Nr) && decide (Nq % 2 = 1)))) := by
        show _ = _
        unfold upB
        rw [if_neg HR0.out, if_neg (by decide), if_neg (by decide)]
      cases ab
      · have hab : ¬ c < Nr + Nr := of_decide_eq_false HAB.out.symm
        cases be
        · have hbe : ¬ Nr + Nr < c := of_decide_eq_false HBE.out.symm
          have he : c = 2 * Nr := by omega
          have HEE := Lib.hid he
          clear hab hbe he
          cases hodd : decide (Nq % 2 = 1)
          · rw [hodd] at HAT
            have HOD := Lib.hid hodd
            clear hodd
            go_wp2_with fail
            refine HAT.out.mono ?_
            rintro e w' ⟨rfl, rfl⟩
            clear HAT
            have HQ : Hid (Mq = Nq) := by
              show _ = _
              rw [HQ0.out, show upB neg 2 Nq Nr c = false from by rw [HU2.out, HOD.out, Bool.and_false, Bool.or_false]; exact decide_eq_false (by have := HEE.out; omega)]; rfl
            go_wp2_with fail
            refine HVF.out.mono ?_
            rintro e w' ⟨rfl, rfl⟩
            go_wp2
            go_ret2
            exact ⟨by rw [HQ.out]; exact rfl, HB.out⟩
          · rw [hodd] at HAT
            have HOD := Lib.hid hodd
            clear hodd
            go_wp2_with fail
            refine HAT.out.mono ?_
            rintro e w' ⟨rfl, rfl⟩
            clear HAT
            have HQ : Hid (Mq = Nq + 1) := by
              show _ = _
              rw [HQ0.out, show upB neg 2 Nq Nr c = true from by rw [HU2.out, HOD.out, decide_eq_true HEE.out]; simp]; rfl
            go_wp2_with fail
            refine HPT.out.mono ?_
            rintro e w9 ⟨v9, bs9, rfl, h1, h2, h3, h4⟩
            have HV9 := Lib.hid (value_any v9 bs9 neg w9 h1 (by simp at h3; omega))
            rw [h2] at HV9
            have HB9 : Hid (Below w.heap.size w w9) := (HB.out.alloc HB.out.size _).trans (h4.mono (by simp; exact Nat.le_succ_of_le HB.out.size))
            clear h1 h2 h3 h4 HPT HVF
            go_wp2_with fail
            refine HV9.out.mono ?_
            rintro e w' ⟨rfl, rfl⟩
            go_wp2
            go_ret2
            exact ⟨by rw [HQ.out]; exact rfl, HB9.out⟩
        · have hbe : Nr + Nr < c := of_decide_eq_true HBE.out.symm
          clear HAT
          have HQ : Hid (Mq = Nq) := by
            show _ = _
            rw [HQ0.out, show upB neg 2 Nq Nr c = false from by rw [HU2.out, decide_eq_false (by omega : ¬ c < 2 * Nr), decide_eq_false (by omega : ¬ c = 2 * Nr)]; rfl]; rfl
          go_wp2_with fail
          refine HVF.out.mono ?_
          rintro e w' ⟨rfl, rfl⟩
          go_wp2
          go_ret2
          exact ⟨by rw [HQ.out]; exact rfl, HB.out⟩
      · have hab : c < Nr + Nr := of_decide_eq_true HAB.out.symm
        obtain rfl : be = false := by rw [HBE.out]; exact decide_eq_false (by omega)
        clear HAT
        have HQ : Hid (Mq = Nq + 1) := by
          show _ = _
          rw [HQ0.out, show upB neg 2 Nq Nr c = true from by rw [HU2.out, decide_eq_true (by omega : c < 2 * Nr)]; rfl]; rfl
        go_wp2_with fail
        refine HPT.out.mono ?_
        rintro e w9 ⟨v9, bs9, rfl, h1, h2, h3, h4⟩
        have HV9 := Lib.hid (value_any v9 bs9 neg w9 h1 (by simp at h3; omega))
        rw [h2] at HV9
        have HB9 : Hid (Below w.heap.size w w9) := (HB.out.alloc HB.out.size _).trans (h4.mono (by simp; exact Nat.le_succ_of_le HB.out.size))
        clear h1 h2 h3 h4 HPT HVF
        go_wp2_with fail
        refine HV9.out.mono ?_
        rintro e w' ⟨rfl, rfl⟩
        go_wp2
        go_ret2
        exact ⟨by rw [HQ.out]; exact rfl, HB9.out⟩
  · have hr0 : Nr = 0 := of_decide_eq_true HWH.out.symm
    have HR0 := Lib.hid hr0
    clear hr0 HAT
    have HQ : Hid (Mq = Nq) := by
      show _ = _
      rw [HQ0.out, show upB neg m Nq Nr c = false from by unfold upB; rw [if_pos HR0.out]]; rfl
    go_wp2_with fail
    refine HVF.out.mono ?_
    rintro e w' ⟨rfl, rfl⟩
    go_wp2
    go_ret2
    exact ⟨by rw [HQ.out]; exact rfl, HB.out⟩
end Go.Proofs.YtkflakeocdlinaaGreatDoor
