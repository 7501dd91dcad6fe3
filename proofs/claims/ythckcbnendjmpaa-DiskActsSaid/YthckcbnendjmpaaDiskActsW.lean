/-
  The walk of souklaw05.DiskActs.
-/
import Derived.Test.YthckcbnendjmpaaDkActs
import Derived.Test.YthckcbnendjmpaaDkStep
import Derived.Test.YthckcbnendjmpaaEqS
import Derived.Deep.RegionHeld3
namespace Go.Proofs.Ythckcbnendjmpaa
open Go.RowKit Go.Lib

theorem two_new (W w1 w2 : World) (pb rb : Nat) (S : DS) (fp fr : List Nat) (hw : Below W.heap.size W w1) (hp : PD w1 W.heap.size pb S fp) (hr : RD w2 w1.heap.size rb S fr) (hb : Below w1.heap.size w1 w2) : Two W w2 W.heap.size pb rb S S [] :=
  ⟨fp, fr, hp.since hb, hr.mono hw.size, fun k hk hk' => by have := (hp.lt k hk).2; have := (hr.lt k hk').1; omega, hw.trans (hb.mono hw.size), Nat.le_refl _, fun x hx => by cases hx⟩

theorem room_of {n L : Nat} (h : n ≤ L) (hL : L ≤ 2932031007402) : Room n := by unfold Room; omega

set_option maxHeartbeats 8000000 in
set_option maxRecDepth 100000 in
theorem acts_walk (q : Nat) (a : Option Addr) (c : Nat) (l : List Act5) (w : World) (hr : RowA w a l) (ho : ∀ x ∈ l, ActOk w x) (hl : l.length ≤ 2932031007402) :
    Calls Try.prog 3 #[.int .u8 (q : Nat), .slice a l.length c] w fun e w' => e = .returned (.bool true) ∧ Below w.heap.size w w' := by
  obtain ⟨L, hL⟩ : ∃ L, L = l.length := ⟨_, rfl⟩
  have HL := Lib.hid hL
  have HLV := fun W => Lib.hid (lives5_any W)
  have HSM := fun W (hb : Below w.heap.size w W) => Lib.hid (small5_any a c l W (hr.below hb) (fun x hx => ⟨(ho x hx).kd, (ho x hx).at_, (ho x hx).nn, (ho x hx).data, (ho x hx).keep, (ho x hx).row.below hb (fun h0 => (ho x hx).row.lt h0)⟩) (Nat.le_trans hl (by decide)))
  rw [← hL] at hl HSM ⊢
  have HR := Lib.hid hr
  have HO := Lib.hid ho
  obtain ⟨m, hm⟩ : ∃ m, m = q % 9 := ⟨_, rfl⟩
  have e9 : (q : Int) % 9 = (m : Int) := by omega
  have hm8 : m ≤ 8 := by omega
  clear hr ho hL hm
  go_enter Try.func3, Try.ntmps3
  go_wp2_with fail
  refine (HLV _).out.mono ?_
  rintro e w1 ⟨rfl, hb1⟩
  have HB1 := Lib.hid hb1
  clear hb1
  go_wp2_with fail
  refine (HSM w1 HB1.out).out.mono ?_
  rintro e w2 ⟨⟨sb, rfl⟩, hb2⟩
  have HB2 := Lib.hid (HB1.out.trans (hb2.mono HB1.out.size))
  clear hb2 HSM
  cases sb with
  | false =>
    clear e9
    go_wp2_with fail
    refine (HLV _).out.mono ?_
    rintro e w3 ⟨rfl, hb3⟩
    have HB3 := Lib.hid (HB2.out.trans (hb3.mono HB2.out.size))
    clear hb3
    go_wp2
    go_ret
    exact ⟨rfl, HB3.out⟩
  | true =>
    clear HLV
    have HN := Lib.hid (new_yes m w2 (by omega))
    go_wp2_with fail
    clear e9
    refine HN.out.mono ?_
    rintro e w3 ⟨pb, fp, rfl, hp, hb3⟩
    have HP3 := Lib.hid (hp.mono HB2.out.size)
    have HB3 := Lib.hid (HB2.out.trans (hb3.mono HB2.out.size))
    have HRN := Lib.hid (rNew_any m w3 (by omega))
    clear hp hb3 HN
    go_wp2_with fail
    refine HRN.out.mono ?_
    rintro e w4 ⟨rb, fr, rfl, hrd, hb4⟩
    have HT := Lib.hid (two_new w w3 w4 pb rb (newDS m) fp fr HB3.out HP3.out hrd hb4)
    have HS0 : Hid ((newDS m).pe.length ≤ 0 ∧ (newDS m).bl.length = m) := ⟨Nat.le_refl _, by simp [newDS]⟩
    clear hrd hb4 HRN
    go_wp2
    go_loopg [31] L (fun gk i wr => ∃ (j : Nat) (S : DS), j ≤ L ∧ i = .int .i64 j ∧ L - j ≤ gk ∧ Hid (Two w wr w.heap.size pb rb S S []) ∧ Hid (S.pe.length ≤ j ∧ S.bl.length = m))
    case atStart => exact ⟨0, newDS m, Nat.zero_le _, rfl, by omega, HT.out, HS0.out⟩
    case round =>
      obtain ⟨j, S, hj, rfl, hgk, HTW, HSZ⟩ := hrel
      by_cases hlt : j < L
      · obtain ⟨x, hx⟩ : ∃ x, l[j]? = some x := ⟨_, List.getElem?_eq_getElem (by rw [← HL.out]; exact hlt)⟩
        obtain ⟨b0, off, ea, hc⟩ := (HR.out.below HTW.out.below) (by rw [← HL.out]; omega)
        subst ea
        obtain ⟨c0, c1, c2, c3, c4⟩ := cells5 (hc j x hx)
        have hok := HO.out x (List.mem_of_getElem? hx)
        have hroom : Room S.pe.length := room_of (Nat.le_trans HSZ.out.1 hj) hl
        have HRM := Lib.hid hroom
        have HSZ1 := HSZ
        have hrow : RowN (wr.alloc (.cells (cA x) 32)) x.ka x.keep := hok.row.below (HTW.out.below.alloc HTW.out.below.size _) (fun h0 => hok.row.lt h0)
        have hklt : 0 < x.keep.length → ∀ A, x.ka = some A → A.block < w.heap.size := fun h0 => hok.row.lt h0
        have hta := HTW.out.alloc (.cells (cA x) 32)
        have hbx : Blk (wr.alloc (.cells (cA x) 32)) wr.heap.size 32 (cA x) := Blk.new wr _ _
        obtain ⟨kd, at_, nn, data, ka, kc, keep⟩ := x
        obtain ⟨hkd, ⟨ha1, ha2⟩, ⟨hn1, hn2⟩, hdl, hkl, hrw⟩ := hok
        have HRW := Lib.hid hrw
        clear hrw
        simp only at c0 c1 c2 c3 c4 hrow hklt hta hbx hkd ha1 ha2 hn1 hn2 hdl hkl
        have d0 : (wr.alloc (.cells (cA ⟨kd, at_, nn, data, ka, kc, keep⟩) 32)).cell? ⟨wr.heap.size, 0, none⟩ = some (.int .u8 (kd : Nat)) := hbx.cell 0
        have d1 : (wr.alloc (.cells (cA ⟨kd, at_, nn, data, ka, kc, keep⟩) 32)).cell? ⟨wr.heap.size, 1, none⟩ = some (.int .i8 at_) := hbx.cell 1
        have d2 : (wr.alloc (.cells (cA ⟨kd, at_, nn, data, ka, kc, keep⟩) 32)).cell? ⟨wr.heap.size, 2, none⟩ = some (.int .i8 nn) := hbx.cell 2
        have d3 : (wr.alloc (.cells (cA ⟨kd, at_, nn, data, ka, kc, keep⟩) 32)).cell? ⟨wr.heap.size, 3, none⟩ = some (.string (st data)) := hbx.cell 3
        have d4 : (wr.alloc (.cells (cA ⟨kd, at_, nn, data, ka, kc, keep⟩) 32)).cell? ⟨wr.heap.size, 4, none⟩ = some (.slice ka keep.length kc) := hbx.cell 4
        simp only [cA] at hrow hta hbx d0 d1 d2 d3 d4
        have HTA := Lib.hid hta
        have HROW := Lib.hid hrow
        have HKLT := Lib.hid hklt
        have HBX := Lib.hid hbx
        have hjz : (0 : Int) ≤ (j : Int) := by omega
        have hjn : (j : Int) < (L : Int) := by omega
        have h5 : (kd : Int) % 5 = 0 ∨ (kd : Int) % 5 = 1 ∨ (kd : Int) % 5 = 2 ∨ (kd : Int) % 5 = 3 ∨ (kd : Int) % 5 = 4 := by omega
        clear hc hx hroom hrow hklt hta hbx HTW
        rcases h5 with h5 | h5 | h5 | h5 | h5
        case' inl =>
          go_wp2_with fail
          have hw1 : IntKind.i64.wrap at_ = at_ := IntWalk.i64_in _ (by omega)
          have HT0 := Lib.hid HTA.out.drew
          go_region_held3 (fun w' => w'.cell? ⟨wr.heap.size, 1, none⟩ = some (.int .i8 at_) ∧ w'.cell? ⟨wr.heap.size, 3, none⟩ = some (.string (st data)))
            (first | go_keep | exact ka1 | exact kb1 | exact kx1)
            (first
              | (go_at_call 9; ((refine (two_writeP hfb.out at_ data HRM.out).mono ?_); rintro e wx ⟨rfl, hfx⟩; have kx1 := (⟨(hfx.other List.mem_cons_self).cell 1, (hfx.other List.mem_cons_self).cell 3⟩ : wx.cell? ⟨wr.heap.size, 1, none⟩ = some (.int .i8 at_) ∧ wx.cell? ⟨wr.heap.size, 3, none⟩ = some (.string (st data))); have hfin := Lib.hid hfx; clear hfx))
              | (go_at_call 10; ((refine (two_writeR hfa.out at_ data HRM.out).mono ?_); rintro e wx ⟨rfl, hfx⟩; have kx1 := (⟨(hfx.other List.mem_cons_self).cell 1, (hfx.other List.mem_cons_self).cell 3⟩ : wx.cell? ⟨wr.heap.size, 1, none⟩ = some (.int .i8 at_) ∧ wx.cell? ⟨wr.heap.size, 3, none⟩ = some (.string (st data))); have hfin := Lib.hid hfx; clear hfx))
              | (go_at_call 9; ((refine (two_writeP HT0.out at_ data HRM.out).mono ?_); rintro e wa ⟨rfl, hfa0⟩; have ka1 := (⟨(hfa0.other List.mem_cons_self).cell 1, (hfa0.other List.mem_cons_self).cell 3⟩ : wa.cell? ⟨wr.heap.size, 1, none⟩ = some (.int .i8 at_) ∧ wa.cell? ⟨wr.heap.size, 3, none⟩ = some (.string (st data))); have hfa := Lib.hid hfa0; clear hfa0))
              | (go_at_call 10; ((refine (two_writeR HT0.out at_ data HRM.out).mono ?_); rintro e wb ⟨rfl, hfb0⟩; have kb1 := (⟨(hfb0.other List.mem_cons_self).cell 1, (hfb0.other List.mem_cons_self).cell 3⟩ : wb.cell? ⟨wr.heap.size, 1, none⟩ = some (.int .i8 at_) ∧ wb.cell? ⟨wr.heap.size, 3, none⟩ = some (.string (st data))); have hfb := Lib.hid hfb0; clear hfb0)))
          all_goals
            have HFIN : Hid (∃ S2, Hid (Two w wx w.heap.size pb rb S2 S2 []) ∧ Hid (S2.pe.length ≤ j + 1 ∧ S2.bl.length = m)) := ⟨_, hfin.out.bare, Nat.le_trans (S.write_pe at_ data) (by have := HSZ.out.1; omega), by rw [S.write_bl]; exact HSZ.out.2⟩
            clear hfin kx1 HT0
        case' inr.inl =>
          go_wp2_with fail
          refine (two_syncP HTA.out HRM.out).mono ?_
          rintro e wa ⟨rfl, ha⟩
          have HA := Lib.hid ha
          clear ha
          go_wp2_with fail
          refine (two_syncR HA.out HRM.out).mono ?_
          rintro e wx ⟨rfl, ha⟩
          have HFIN : Hid (∃ S2, Hid (Two w wx w.heap.size pb rb S2 S2 []) ∧ Hid (S2.pe.length ≤ j + 1 ∧ S2.bl.length = m)) := ⟨_, ha.bare, Nat.le_trans S.sync_pe (by have := HSZ.out.1; omega), by rw [S.sync_bl]; exact HSZ.out.2⟩
          clear ha
        case' inr.inr.inl =>
          go_wp2_with fail
          refine (two_readP HTA.out at_ HRM.out).mono ?_
          rintro e wx ⟨rfl, ha⟩
          have k1 : wx.cell? ⟨wr.heap.size, 1, none⟩ = some (.int .i8 at_) := (ha.other List.mem_cons_self).cell 1
          have HA := Lib.hid ha
          clear ha
          go_wp2_with fail
          refine (two_readR HA.out at_ HRM.out).mono ?_
          rintro e w' ⟨rfl, rfl⟩
          have HFIN : Hid (∃ S2, Hid (Two w wx w.heap.size pb rb S2 S2 []) ∧ Hid (S2.pe.length ≤ j + 1 ∧ S2.bl.length = m)) := ⟨_, HA.out.bare, by have := HSZ.out.1; show S.pe.length ≤ _; omega, HSZ.out.2⟩
          clear k1
        case' inr.inr.inr.inl =>
          go_wp2_with fail
          refine (two_failP HTA.out nn (by omega)).mono ?_
          rintro e wa ⟨rfl, ha⟩
          have k2 : wa.cell? ⟨wr.heap.size, 2, none⟩ = some (.int .i8 nn) := (ha.other List.mem_cons_self).cell 2
          obtain ⟨ba0, bc0, vp0, hbox0, _⟩ := two_box ha
          have r2 := hbox0.cell 2
          have f2 := hbox0.frozen 2
          have HA := Lib.hid ha
          clear ha hbox0
          have hfin := Lib.hid (two_fuse HA.out nn (max nn (-1)) (by omega) rfl)
          go_wp2
          generalize wa.setCell ⟨rb, 2, none⟩ (.int .i64 (max nn (-1))) = wx at hfin ⊢
          have HFIN : Hid (∃ S2, Hid (Two w wx w.heap.size pb rb S2 S2 []) ∧ Hid (S2.pe.length ≤ j + 1 ∧ S2.bl.length = m)) := ⟨_, hfin.out.bare, by have := HSZ.out.1; show S.pe.length ≤ _; omega, HSZ.out.2⟩
          clear hfin k2 r2 f2
        case' inr.inr.inr.inr =>
          go_wp2_with fail
          refine (two_restartP HTA.out ka kc keep HRM.out hkl HROW.out HKLT.out).mono ?_
          rintro e wa ⟨rfl, ha⟩
          have k4 : wa.cell? ⟨wr.heap.size, 4, none⟩ = some (.slice ka keep.length kc) := (ha.other List.mem_cons_self).cell 4
          have HRW2 := Lib.hid (HRW.out.below ha.below HKLT.out)
          have HA := Lib.hid ha
          clear ha
          go_wp2_with fail
          refine (two_restartR HA.out ka kc keep HRM.out hkl HRW2.out HKLT.out).mono ?_
          rintro e wx ⟨rfl, ha⟩
          have HFIN : Hid (∃ S2, Hid (Two w wx w.heap.size pb rb S2 S2 []) ∧ Hid (S2.pe.length ≤ j + 1 ∧ S2.bl.length = m)) := ⟨_, ha.bare, by show 0 ≤ _; omega, by rw [DS.restart_bl]; exact HSZ.out.2⟩
          clear ha k4
        all_goals
          obtain ⟨S2, HT2, HZ2⟩ := HFIN.out
          clear HFIN d0 d1 d2 d3 d4 c0 c1 c2 c3 c4
          obtain ⟨ba, bc, vp, hbox, hrs, _⟩ := two_box HT2.out
          rw [HZ2.out.2] at hbox
          have e0 : wx.cell? ⟨rb, 0, none⟩ = some (.slice ba m bc) := hbox.cell 0
          have e3 : wx.cell? ⟨rb, 3, none⟩ = some (.bool S2.dead) := hbox.cell 3
          have HBOX := Lib.hid hbox
          have HRS := Lib.hid hrs
          have HDD := Lib.hid (two_dead HT2.out.drew)
          have hln := two_len HT2.out.drew
          rw [HZ2.out.2] at hln
          have HLN := Lib.hid hln
          have hal := two_all HT2.out.drew
          rw [HZ2.out.2] at hal
          have HAL := Lib.hid hal
          generalize S2.dead = dd at e3 HBOX HDD
          clear hbox hrs hln hal
          go_wp2_with fail
          go_region_held3 (fun w' => w'.cell? ⟨rb, 0, none⟩ = some (.slice ba m bc) ∧ w'.cell? ⟨rb, 3, none⟩ = some (.bool dd))
            (first | go_keep | exact ky1 | exact kz1)
            (first
              | (go_at_call 18; ((refine HDD.out.mono ?_); rintro e w' ⟨rfl, rfl⟩))
              | (go_at_call 19; ((refine HLN.out.mono ?_); rintro e w' ⟨rfl, rfl⟩))
              | (go_at_call 21; ((refine HAL.out.mono ?_); rintro e wy ⟨gy, rfl, hry, hby0, hty⟩; have hby : Below wx.heap.size wx wy := ⟨hby0.os, hby0.tape, hby0.output, hby0.size, hby0.block⟩; have hbb := HBOX.out.since hby; have ky1 := (⟨hbb.cell 0, hbb.cell 3⟩ : wy.cell? ⟨rb, 0, none⟩ = some (.slice ba m bc) ∧ wy.cell? ⟨rb, 3, none⟩ = some (.bool dd)); have HRY := Lib.hid hry; have HBY := Lib.hid hby; have HTY := Lib.hid hty; clear hry hby hby0 hty hbb))
              | (go_at_call 20; ((refine (equal_same (some ⟨gy, 0, none⟩) ba m bc m S2.bl wy HRY.out (HRS.out.keep HBY.out) HZ2.out.2.symm (by omega)).mono ?_); rintro e w' ⟨rfl, nq, rfl⟩; have kz1 := ky1)))
          go_wp2
          go_roundg (L - (j + 1))
          case measure => omega
          case rel => exact ⟨j + 1, S2, by omega, by go_num, by omega, HTY.out.drewN nq, HZ2.out⟩
      · have e : j = L := by omega
        subst e
        clear hgk
        go_wp2
        go_ret
        exact ⟨rfl, HTW.out.below⟩
end Go.Proofs.Ythckcbnendjmpaa
