/-
  The walk of souklaw06.JournalOpens.
-/
import Derived.Test.YtbpklikmldpeiaaJnMMO
import Derived.Test.YtbpklikmldpeiaaMO05
import Derived.Test.YtbpklikmldpeiaaOrdGMO
import Derived.IntWalk
namespace Go.Proofs.Ytbpklikmldpeiaa
open Go.RowKit Go.Lib

set_option maxHeartbeats 16000000 in
set_option maxRecDepth 100000 in
theorem opens_walk (a : Option Addr) (c : Nat) (l : List (List UInt8)) (w : World) (hr : RowS w a l) (hs : ∀ x ∈ l, x.length ≤ 281474976710656) (hl : l.length ≤ 9223372036854775807) :
    Calls Try.prog 5 #[.slice a l.length c] w fun e w' => e = .returned (.bool true) ∧ Below w.heap.size w w' := by
  obtain ⟨sb, hsb, HSM⟩ := small6_any a c l w hr hs hl
  obtain ⟨n, hn⟩ : ∃ n, n = l.length := ⟨_, rfl⟩
  rw [← hn] at hl HSM ⊢
  have HN := Lib.hid hn
  have HR := Lib.hid hr
  have HF := Lib.hid hsb
  have HS := fun W hb => Lib.hid (HSM W hb)
  have HLV := fun W => Lib.hid (lives6_any W)
  clear hn hr hs hsb HSM
  go_enter Try.func5, Try.ntmps5
  go_wp2_with fail
  with_reducible refine (HLV w).out.mono ?_
  rintro e w2 ⟨rfl, hb⟩
  have HB2 := Lib.hid hb
  clear hb
  go_wp2_with fail
  with_reducible refine (HS w2 HB2.out).out.mono ?_
  rintro e w3 ⟨rfl, rfl⟩
  cases sb with
  | false =>
    go_wp2_with fail
    with_reducible refine (HLV w2).out.mono ?_
    rintro e w3 ⟨rfl, hb⟩
    have HB3 := Lib.hid (HB2.out.trans (hb.mono HB2.out.size))
    clear hb
    go_wp2
    go_ret
    exact ⟨rfl, HB3.out⟩
  | true =>
  have HFW : Hid (Few l) := HF.out rfl
  have hn30 : n ≤ 30 := by rw [HN.out]; exact HFW.out.2
  have H1 := Lib.hid (new_cl n w2 (by omega))
  clear HLV HS HF
  go_wp2_with fail
  with_reducible refine H1.out.mono ?_
  rintro e w3 ⟨pb, rfl, fp, hp, hb3, hf⟩
  have HA3 : Hid (After [] w w3 (PDr pb (Cl [] n) w3)) := ⟨fp, hp, (Stp.of_below HB2.out).trans (fp' := []) (Stp.of_below hb3) (fun k hk => by cases hk), fun k hk => .inr (Nat.le_trans HB2.out.size (hf k hk))⟩
  have H2 := Lib.hid (rnew_cl n w3 (by omega))
  clear hp hb3 hf H1 HB2
  go_wp2_with fail
  with_reducible refine H2.out.mono ?_
  rintro e w4 ⟨rb, rfl, fp, hp, hb4, hf⟩
  have HA4 : Hid (After [] w w4 (Sep (PDr pb (Cl [] n)) (RDr rb (Cl [] n)) w4)) := HA3.out.fresh (PDr.stays _ _) hb4 hp hf
  obtain ⟨b0, hb0⟩ : ∃ b0, b0 = fitL [] n := ⟨_, rfl⟩
  have HB0 : Hid (b0.length = n) := by show _ = _; rw [hb0, fitL_length]; simp [used, layd]
  have HA5 : Hid (After [] w w4 (Sep (PDr pb ⟨b0, [], -1, false⟩) (RDr rb ⟨b0, [], -1, false⟩) w4)) := by rw [hb0]; exact HA4.out
  clear hp hb4 hf H2 HA3 HA4 hb0
  go_wp2
  go_loopg [5, 6, 35] n (fun gk _ _ i wr => ∃ (j : Nat) (pe : List (Nat × List UInt8)), j ≤ n ∧ i = .int .i64 j ∧ n - j ≤ gk ∧ Hid (pe.length = j) ∧ Hid (After [] w wr (Sep (PDr pb ⟨b0, pe, -1, false⟩) (RDr rb ⟨b0, pe, -1, false⟩) wr)))
  case atStart => exact ⟨0, [], Nat.zero_le _, rfl, by omega, rfl, HA5.out⟩
  case round =>
    clear HA5
    obtain ⟨j, pe, hj, rfl, hgk, HPE, HA⟩ := hrel
    by_cases hlt : j < n
    · obtain ⟨x, hx⟩ : ∃ x, l[j]? = some x := ⟨_, List.getElem?_eq_getElem (by rw [← HN.out]; exact hlt)⟩
      obtain ⟨bb, off, ea, hc⟩ := (HR.out.keep HA.out.bel) (by rw [← HN.out]; omega)
      subst ea
      have cj := hc j x hx
      have hx4 := HFW.out.each x (List.mem_of_getElem? hx)
      have hjz : (0 : Int) ≤ (j : Int) := by omega
      have hjn : (j : Int) < (n : Int) := by omega
      have H1 : Hid (Calls Try.prog 22 #[.string ⟨#[0]⟩, .int .i64 64] wr fun e w' => e = .returned (.string (st z64)) ∧ Below wr.heap.size wr w') := repeat_one 0 64 wr (by omega)
      obtain ⟨X, hX⟩ : ∃ X, X = x ++ z64 := ⟨_, rfl⟩
      obtain ⟨d, hd⟩ : ∃ d, d = X.take 64 := ⟨_, rfl⟩
      have hXl : X.length = x.length + 64 := by rw [hX, List.length_append, z64_length]
      have hdl : d.length = 64 := by rw [hd, List.length_take]; omega
      have e1 : st x ++ st z64 = st X := by rw [st_append, hX]
      have e2 : (st X).extract 0 64 = st d := by rw [st_extract, hd]; rfl
      have e3 : (st x).size ≤ 4000 := by rw [st_size]; exact hx4
      have e4 : (st z64).size = 64 := by rw [st_size]; exact z64_length
      have e5 : 64 ≤ (st X).size := by rw [st_size]; omega
      have e6 : (st X).size ≤ 4064 := by rw [st_size]; omega
      have HDL := Lib.hid hdl
      clear hc hx hX hd hXl hdl hx4
      go_wp2_with fail
      with_reducible refine H1.out.mono ?_
      rintro e w5 ⟨rfl, hb⟩
      have HA5 := Lib.hid (HA.out.since (Stays.sep (PDr.stays _ _) (RDr.stays _ _)) hb)
      have H2 := Lib.hid (HA5.out.call1 (f := 23) (args := #[.pointer (some ⟨pb, 0, none⟩), .int .i64 j, .string (st d)]) (p := Try.prog) fun fp hp => Sep.callL1 (RDr.stays _ _) hp fun f hf => write_part pb b0 pe j d f w5 hf (by rw [HB0.out]; exact hlt) HDL.out (by rw [HPE.out]; omega))
      clear hb H1
      go_wp2_with fail
      with_reducible refine H2.out.mono ?_
      rintro e w6 ⟨rfl, ha⟩
      have H3 := Lib.hid (ha.call1 (f := 24) (args := #[.pointer (some ⟨rb, 0, none⟩), .int .i64 j, .string (st d)]) (p := Try.prog) fun fp hp => Sep.callR1 (PDr.stays _ _) hp fun f hf => rwrite_part rb b0 pe j d f w6 hf (by rw [HB0.out]; exact hlt) HDL.out (by rw [HPE.out]; omega))
      clear ha H2 HA5
      go_wp2_with fail
      with_reducible refine H3.out.mono ?_
      rintro e w7 ⟨rfl, ha⟩
      have HA7 := Lib.hid ha
      clear ha H3
      go_wp2
      go_roundg (n - (j + 1))
      case measure => omega
      case rel => exact ⟨j + 1, pe ++ [(j, d)], by omega, by go_num, by omega, (by show _ = _; rw [List.length_append, HPE.out]; rfl), HA7.out⟩
    · have e : j = n := by omega
      subst e
      have H1 := Lib.hid (HA.out.call1 (f := 25) (args := #[.pointer (some ⟨pb, 0, none⟩)]) (p := Try.prog) fun fp hp => Sep.callL1 (RDr.stays _ _) hp fun f hf => sync_part pb b0 pe f wr hf (by rw [HPE.out]; omega))
      clear hgk hlt HA hj
      go_wp2_with fail
      with_reducible refine H1.out.mono ?_
      rintro e w5 ⟨rfl, ha⟩
      have H2 := Lib.hid (ha.call1 (f := 26) (args := #[.pointer (some ⟨rb, 0, none⟩)]) (p := Try.prog) fun fp hp => Sep.callR1 (PDr.stays _ _) hp fun f hf => rsync_part rb b0 pe f w5 hf (by rw [HPE.out]; omega))
      clear ha H1
      go_wp2_with fail
      with_reducible refine H2.out.mono ?_
      rintro e w6 ⟨rfl, ha⟩
      obtain ⟨bl, hbl⟩ : ∃ bl, bl = settleN b0 pe (fun _ => 64) pe.length := ⟨_, rfl⟩
      have HBL : Hid (bl.length = j) := by show _ = _; rw [hbl, settleN_length, HB0.out]
      rw [← hbl] at ha
      have HA6 := Lib.hid ha
      obtain ⟨f6, hf6⟩ := ha.left.know fun fp hp => (⟨fp, hp⟩ : ∃ f, PDr pb ⟨bl, [], -1, false⟩ w6 f)
      have H3 := all_row pb _ f6 w6 hf6
      simp only [HBL.out] at H3
      have H3 := Lib.hid H3
      clear ha H2 hbl hf6 HB0 HPE
      go_wp2_with fail
      with_reducible refine H3.out.mono ?_
      rintro e w7 ⟨g, n2, rfl, rfl, hrow, hb⟩
      have HA7 := Lib.hid (HA6.out.since (Stays.sep (PDr.stays _ _) (RDr.stays _ _)) hb)
      have H4 := records_some g 0 n2 bl w7 hrow (by rw [HBL.out]; omega) (by rw [HBL.out]; omega) (by omega)
      rw [HBL.out] at H4
      have H4 := Lib.hid H4
      clear HA6 H3 hb hrow
      go_wp2_with fail
      with_reducible refine H4.out.mono ?_
      rintro e w8 ⟨ps, u, v1, hrec, rfl, hb, hown⟩
      obtain ⟨h1, h2⟩ := TxR.of hown
      have HA8 := Lib.hid (HA7.out.fresh (Stays.sep (PDr.stays _ _) (RDr.stays _ _)) hb h1 h2)
      obtain ⟨xa, xc, rfl⟩ := h1.form
      obtain ⟨ba, bc, vp, hbx, hrow, hle, hcap⟩ := HA8.out.left.right.know fun fp hp => hp.box2
      simp only [HBL.out] at hbx hle
      have c0 : w8.cell? ⟨rb, 0, none⟩ = some (.slice ba n2 bc) := hbx.cell 0
      have H5 := rRecords_any ba bc bl w8 hrow (by rw [HBL.out]; omega) (by rw [HBL.out]; exact hle) hcap
      rw [HBL.out] at H5
      have H5 := Lib.hid H5
      have HREC := Lib.hid hrec
      clear HA7 H4 hb hown h1 h2 hrow hle hcap hbx
      go_wp2_with fail
      with_reducible refine H5.out.mono ?_
      rintro e w9 ⟨ps2, u2, v2, hrec2, rfl, hb, hown⟩
      obtain ⟨e1, e2⟩ := hrec2.inj HREC.out
      subst e1 e2
      obtain ⟨h1, h2⟩ := TxR.of hown
      obtain ⟨ya, yc, rfl⟩ := h1.form
      have HA9 := Lib.hid (HA8.out.fresh (Stays.sep (Stays.sep (PDr.stays _ _) (RDr.stays _ _)) (TxR.stays _ _)) hb h1 h2)
      have H6 := Lib.hid (HA9.out.call (f := 10) (args := #[.pointer (some ⟨pb, 0, none⟩)]) (p := Try.prog) fun fp hp => Sep.callL (TxR.stays _ _) hp fun f hf => Sep.callL (TxR.stays _ _) hf fun f hf => Sep.callL (RDr.stays _ _) hf fun f hf => openB_any pb f w9 hf HREC.out)
      clear HA8 H5 hb hown h1 h2 hrec2 c0
      go_wp2_with fail
      with_reducible refine H6.out.mono ?_
      rintro e w10 ⟨⟨jb, v3⟩, rfl, ha⟩
      try simp only at ha
      obtain ⟨ra, rc, hv3⟩ := ha.left.left.left.right.know fun fp hp => hp.form
      subst hv3
      have H7 := Lib.hid (ha.call (f := 11) (args := #[.pointer (some ⟨rb, 0, none⟩)]) (p := Try.prog) fun fp hp => Sep.callL (TxR.stays _ _) hp fun f hf => Sep.callL (TxR.stays _ _) hf fun f hf => Sep.callR (Stays.sep (JCl.stays _ _ _ _) (TxR.stays _ _)) hf fun f hf => rOpenB_any rb f w10 hf HREC.out)
      clear ha H6 HA9
      go_wp2_with fail
      with_reducible refine H7.out.mono ?_
      rintro e w11 ⟨⟨kb, v4⟩, rfl, ha⟩
      try simp only at ha
      have HA11 := Lib.hid ha
      obtain ⟨ka, kc, hv4⟩ := ha.left.left.right.know fun fp hp => (hp.list.elim fun f h => h.form)
      subst hv4
      obtain ⟨z, hz⟩ : ∃ z, z = bl.length - u2 := ⟨_, rfl⟩
      obtain ⟨np, hnp⟩ : ∃ n, n = ps2.length := ⟨_, rfl⟩
      have hu2 := HREC.out.used
      have hule := HREC.out.lead.le
      rw [HBL.out] at hule hz
      have HUZ : Hid (used ps2 + z = n2) := by show _ = _; omega
      have HU := Lib.hid hu2
      have HNP := Lib.hid hnp
      have HOK := Lib.hid HREC.out.allOk
      have hnp30 : np ≤ 30 := by have := HOK.out.few; omega
      have HST : Hid (Stays (Sep (Sep (Sep (Sep (JCl jb pb ps2 z) (TxR (.slice ra np rc) ps2)) (RJr kb rb (Cl ps2 z) (.slice ka np kc) ps2 u2)) (TxR (.slice xa np xc) ps2)) (TxR (.slice ya np yc) ps2))) := (Stays.sep (Stays.sep (Stays.sep (Stays.sep (JCl.stays _ _ _ _) (TxR.stays _ _)) (RJr.stays _ _ _ _ _ _)) (TxR.stays _ _)) (TxR.stays _ _))
      have HA0 : Hid (After [] w w11.drew ((Sep (Sep (Sep (Sep (JCl jb pb ps2 z) (TxR (.slice ra np rc) ps2)) (RJr kb rb (Cl ps2 z) (.slice ka np kc) ps2 u2)) (TxR (.slice xa np xc) ps2)) (TxR (.slice ya np yc) ps2)) w11.drew)) := by
        rw [HBL.out, ← hz, ← hnp] at ha
        exact ha.drew HST.out
      clear HA11 ha H7 hz hu2
      rw [← hnp]
      clear hnp
      go_wp2_with fail
      have HBX : Hid (∀ W, After [] w W ((Sep (Sep (Sep (Sep (JCl jb pb ps2 z) (TxR (.slice ra np rc) ps2)) (RJr kb rb (Cl ps2 z) (.slice ka np kc) ps2 u2)) (TxR (.slice xa np xc) ps2)) (TxR (.slice ya np yc) ps2)) W) → ∃ ba bc, (W.cell? ⟨kb, 1, none⟩ = some (.slice ka np kc) ∧ W.cell? ⟨rb, 0, none⟩ = some (.slice ba n2 bc)) ∧ RowS W ba (Cl ps2 z).bl) := fun W hA => by
        obtain ⟨ba2, bc2, vp2, hbx, hrow, _⟩ := hA.left.left.right.know fun fp hp => (hp.disk.elim fun f h => h.box2)
        have hk := hA.left.left.right.know fun fp hp => hp.box
        rw [Cl.len, HUZ.out] at hbx
        exact ⟨ba2, bc2, ⟨hk.cell 1, hbx.cell 0⟩, hrow⟩
      obtain ⟨bA, bC, hcs, hbr⟩ := HBX.out _ HA0.out
      refine wp_region_E (fun w' => w'.cell? ⟨kb, 1, none⟩ = some (.slice ka np kc) ∧ w'.cell? ⟨rb, 0, none⟩ = some (.slice bA n2 bC)) [] (by kernel_rfl) ?_
      have HS0 := Lib.hid hcs
      have HRB0 := Lib.hid hbr
      clear hcs hbr HBX
      generalize w11.drew = w12 at HA0 HS0 HRB0 ⊢
      have H8 := Lib.hid (equal_same xa ya xc yc np ps2 w12 (HA0.out.left.right.know fun _ hp => hp.row) (HA0.out.right.know fun _ hp => hp.row) HNP.out (by omega))
      refine wpAnyE_take 0 (some 83) ?_ rfl rfl (by kernel_rfl) (by kernel_rfl) (by kernel_rfl) (by kernel_rfl) (fun _ _ _ h => h) (Or.inl ⟨by rfl, ?_⟩) HS0.out ?_
      rotate_left
      focus (intro wS hSw; (try dsimp only at hSw); go_simp; try (with_reducible rfl))
      simp only [Act.put, List.setIfInBounds_toArray, List.set_cons_zero, List.set_cons_succ]
      refine wpAnyE_take 1 (some 84) (.bool false) rfl rfl (by kernel_rfl) (by kernel_rfl) (by kernel_rfl) (by kernel_rfl) (fun _ _ _ h => h) (Or.inl ⟨by rfl, ?_⟩) HS0.out ?_
      focus (intro wS hSw; (try dsimp only at hSw); go_simp; try (with_reducible rfl))
      simp only [Act.put, List.setIfInBounds_toArray, List.set_cons_zero, List.set_cons_succ]
      refine wpAnyE_take 2 (some 85) ?_ rfl rfl (by kernel_rfl) (by kernel_rfl) (by kernel_rfl) (by kernel_rfl) (fun _ _ _ h => h) (Or.inl ⟨by rfl, ?_⟩) HS0.out ?_
      rotate_left
      focus (intro wS hSw; (try dsimp only at hSw); go_simp; try (with_reducible rfl))
      simp only [Act.put, List.setIfInBounds_toArray, List.set_cons_zero, List.set_cons_succ]
      refine wpAnyE_take 3 (some 86) ?_ rfl rfl (by kernel_rfl) (by kernel_rfl) (by kernel_rfl) (by kernel_rfl) (fun _ _ _ h => h) (Or.inl ⟨by rfl, ?_⟩) HS0.out ?_
      rotate_left
      focus (intro wS hSw; (try dsimp only at hSw); go_simp; try (with_reducible rfl))
      simp only [Act.put, List.setIfInBounds_toArray, List.set_cons_zero, List.set_cons_succ]
      refine wpAnyE_take 4 (some 87) (.bool false) rfl rfl (by kernel_rfl) (by kernel_rfl) (by kernel_rfl) (by kernel_rfl) (fun _ _ _ h => h) (Or.inl ⟨by rfl, ?_⟩) HS0.out ?_
      focus (intro wS hSw; (try dsimp only at hSw); go_simp; try (with_reducible rfl))
      simp only [Act.put, List.setIfInBounds_toArray, List.set_cons_zero, List.set_cons_succ]
      refine wpAnyE_take 5 (some 88) (.bool false) rfl rfl (by kernel_rfl) (by kernel_rfl) (by kernel_rfl) (by kernel_rfl) (fun _ _ _ h => h) (Or.inl ⟨by rfl, ?_⟩) HS0.out ?_
      focus (intro wS hSw; (try dsimp only at hSw); go_simp; try (with_reducible rfl))
      simp only [Act.put, List.setIfInBounds_toArray, List.set_cons_zero, List.set_cons_succ]
      refine wpAnyE_take 6 (some 89) ?_ rfl rfl (by kernel_rfl) (by kernel_rfl) (by kernel_rfl) (by kernel_rfl) (fun _ _ _ h => h) (Or.inl ⟨by rfl, ?_⟩) HS0.out ?_
      rotate_left
      focus (intro wS hSw; (try dsimp only at hSw); go_simp; try (with_reducible rfl))
      simp only [Act.put, List.setIfInBounds_toArray, List.set_cons_zero, List.set_cons_succ]
      refine wpAnyE_take 7 (some 90) ?_ rfl rfl (by kernel_rfl) (by kernel_rfl) (by kernel_rfl) (by kernel_rfl) (fun _ _ _ h => h) (Or.inl ⟨by rfl, ?_⟩) HS0.out ?_
      rotate_left
      focus (intro wS hSw; (try dsimp only at hSw); go_simp; try (with_reducible rfl))
      simp only [Act.put, List.setIfInBounds_toArray, List.set_cons_zero, List.set_cons_succ]
      refine wpAnyE_take 8 (some 91) ?_ rfl rfl (by kernel_rfl) (by kernel_rfl) (by kernel_rfl) (by kernel_rfl) (fun _ _ _ h => h) (Or.inl ⟨by rfl, ?_⟩) HS0.out ?_
      rotate_left
      focus (intro wS hSw; (try dsimp only at hSw); go_simp; try (with_reducible rfl))
      simp only [Act.put, List.setIfInBounds_toArray, List.set_cons_zero, List.set_cons_succ]
      refine wpAnyE_oneG 9 (by kernel_rfl) rfl (by rfl) (fun K hK => ?_)
      go_simp
      with_reducible refine H8.out.mono ?_
      rintro e w13 ⟨rfl, q1, rfl⟩
      have HA1 := Lib.hid (HA0.out.drewN HST.out q1)
      have HS1 : Hid ((w12.drewN q1).cell? ⟨kb, 1, none⟩ = some (.slice ka np kc) ∧ (w12.drewN q1).cell? ⟨rb, 0, none⟩ = some (.slice bA n2 bC)) := HS0.out
      have HRB1 : Hid (RowS (w12.drewN q1) bA (Cl ps2 z).bl) := HRB0.out
      generalize w12.drewN q1 = w13 at HA1 HS1 HRB1 ⊢
      clear H8 HA0 HS0 HRB0
      try go_wp2_with fail
      refine hK.out _ _ HS1.out ?_
      clear hK K
      try simp only [Act.put, List.setIfInBounds_toArray, List.set_cons_zero, List.set_cons_succ]
      have H9 := Lib.hid (equal_same ra ka rc kc np ps2 w13 (HA1.out.left.left.left.right.know fun _ hp => hp.row) (HA1.out.left.left.right.know fun fp hp => (hp.list.elim fun f h => h.row)) HNP.out (by omega))
      refine wpAnyE_take 10 (some 93) (.bool false) rfl rfl (by kernel_rfl) (by kernel_rfl) (by kernel_rfl) (by kernel_rfl) (fun _ _ _ h => h) (Or.inl ⟨by rfl, ?_⟩) HS1.out ?_
      focus (intro wS hSw; (try dsimp only at hSw); go_simp; try (with_reducible rfl))
      simp only [Act.put, List.setIfInBounds_toArray, List.set_cons_zero, List.set_cons_succ]
      refine wpAnyE_take 11 (some 94) (.bool false) rfl rfl (by kernel_rfl) (by kernel_rfl) (by kernel_rfl) (by kernel_rfl) (fun _ _ _ h => h) (Or.inl ⟨by rfl, ?_⟩) HS1.out ?_
      focus (intro wS hSw; (try dsimp only at hSw); go_simp; try (with_reducible rfl))
      simp only [Act.put, List.setIfInBounds_toArray, List.set_cons_zero, List.set_cons_succ]
      refine wpAnyE_take 12 (some 95) ?_ rfl rfl (by kernel_rfl) (by kernel_rfl) (by kernel_rfl) (by kernel_rfl) (fun _ _ _ h => h) (Or.inl ⟨by rfl, ?_⟩) HS1.out ?_
      rotate_left
      focus (intro wS hSw; (try dsimp only at hSw); go_simp; try (with_reducible rfl))
      simp only [Act.put, List.setIfInBounds_toArray, List.set_cons_zero, List.set_cons_succ]
      refine wpAnyE_take 13 (some 96) ?_ rfl rfl (by kernel_rfl) (by kernel_rfl) (by kernel_rfl) (by kernel_rfl) (fun _ _ _ h => h) (Or.inl ⟨by rfl, ?_⟩) HS1.out ?_
      rotate_left
      focus (intro wS hSw; (try dsimp only at hSw); go_simp; try (with_reducible rfl))
      simp only [Act.put, List.setIfInBounds_toArray, List.set_cons_zero, List.set_cons_succ]
      refine wpAnyE_take 14 (some 97) ?_ rfl rfl (by kernel_rfl) (by kernel_rfl) (by kernel_rfl) (by kernel_rfl) (fun _ _ _ h => h) (Or.inl ⟨by rfl, ?_⟩) HS1.out ?_
      rotate_left
      focus (intro wS hSw; (try dsimp only at hSw); go_simp; try (with_reducible rfl))
      simp only [Act.put, List.setIfInBounds_toArray, List.set_cons_zero, List.set_cons_succ]
      refine wpAnyE_take 15 (some 98) (.bool false) rfl rfl (by kernel_rfl) (by kernel_rfl) (by kernel_rfl) (by kernel_rfl) (fun _ _ _ h => h) (Or.inl ⟨by rfl, ?_⟩) HS1.out ?_
      focus (intro wS hSw; (try dsimp only at hSw); go_simp; try (with_reducible rfl))
      simp only [Act.put, List.setIfInBounds_toArray, List.set_cons_zero, List.set_cons_succ]
      refine wpAnyE_take 16 (some 99) (.bool false) rfl rfl (by kernel_rfl) (by kernel_rfl) (by kernel_rfl) (by kernel_rfl) (fun _ _ _ h => h) (Or.inl ⟨by rfl, ?_⟩) HS1.out ?_
      focus (intro wS hSw; (try dsimp only at hSw); go_simp; try (with_reducible rfl))
      simp only [Act.put, List.setIfInBounds_toArray, List.set_cons_zero, List.set_cons_succ]
      refine wpAnyE_take 17 (some 100) ?_ rfl rfl (by kernel_rfl) (by kernel_rfl) (by kernel_rfl) (by kernel_rfl) (fun _ _ _ h => h) (Or.inl ⟨by rfl, ?_⟩) HS1.out ?_
      rotate_left
      focus (intro wS hSw; (try dsimp only at hSw); go_simp; try (with_reducible rfl))
      simp only [Act.put, List.setIfInBounds_toArray, List.set_cons_zero, List.set_cons_succ]
      refine wpAnyE_take 18 (some 101) ?_ rfl rfl (by kernel_rfl) (by kernel_rfl) (by kernel_rfl) (by kernel_rfl) (fun _ _ _ h => h) (Or.inl ⟨by rfl, ?_⟩) HS1.out ?_
      rotate_left
      focus (intro wS hSw; (try dsimp only at hSw); go_simp; try (with_reducible rfl))
      simp only [Act.put, List.setIfInBounds_toArray, List.set_cons_zero, List.set_cons_succ]
      refine wpAnyE_take 19 (some 102) ?_ rfl rfl (by kernel_rfl) (by kernel_rfl) (by kernel_rfl) (by kernel_rfl) (fun _ _ _ h => h) (Or.inl ⟨by rfl, ?_⟩) HS1.out ?_
      rotate_left
      focus (intro wS hSw; (try dsimp only at hSw); go_simp; try (with_reducible rfl))
      simp only [Act.put, List.setIfInBounds_toArray, List.set_cons_zero, List.set_cons_succ]
      refine wpAnyE_take 20 (some 103) ?_ rfl rfl (by kernel_rfl) (by kernel_rfl) (by kernel_rfl) (by kernel_rfl) (fun _ _ _ h => h) (Or.inl ⟨by rfl, ?_⟩) HS1.out ?_
      rotate_left
      focus (intro wS hSw; (try dsimp only at hSw); go_simp; try (with_reducible rfl))
      simp only [Act.put, List.setIfInBounds_toArray, List.set_cons_zero, List.set_cons_succ]
      refine wpAnyE_take 21 (some 104) ?_ rfl rfl (by kernel_rfl) (by kernel_rfl) (by kernel_rfl) (by kernel_rfl) (fun _ _ _ h => h) (Or.inl ⟨by rfl, ?_⟩) HS1.out ?_
      rotate_left
      focus (intro wS hSw; (try dsimp only at hSw); go_simp; try (with_reducible rfl))
      simp only [Act.put, List.setIfInBounds_toArray, List.set_cons_zero, List.set_cons_succ]
      refine wpAnyE_take 22 (some 105) ?_ rfl rfl (by kernel_rfl) (by kernel_rfl) (by kernel_rfl) (by kernel_rfl) (fun _ _ _ h => h) (Or.inl ⟨by rfl, ?_⟩) HS1.out ?_
      rotate_left
      focus (intro wS hSw; (try dsimp only at hSw); go_simp; try (with_reducible rfl))
      simp only [Act.put, List.setIfInBounds_toArray, List.set_cons_zero, List.set_cons_succ]
      refine wpAnyE_oneG 23 (by kernel_rfl) rfl (by rfl) (fun K hK => ?_)
      go_simp
      with_reducible refine H9.out.mono ?_
      rintro e w14 ⟨rfl, q2, rfl⟩
      have HA2 := Lib.hid (HA1.out.drewN HST.out q2)
      have HS2 : Hid ((w13.drewN q2).cell? ⟨kb, 1, none⟩ = some (.slice ka np kc) ∧ (w13.drewN q2).cell? ⟨rb, 0, none⟩ = some (.slice bA n2 bC)) := HS1.out
      have HRB2 : Hid (RowS (w13.drewN q2) bA (Cl ps2 z).bl) := HRB1.out
      generalize w13.drewN q2 = w14 at HA2 HS2 HRB2 ⊢
      clear H9 HA1 HS1 HRB1
      try go_wp2_with fail
      refine hK.out _ _ HS2.out ?_
      clear hK K
      try simp only [Act.put, List.setIfInBounds_toArray, List.set_cons_zero, List.set_cons_succ]
      obtain ⟨f14, hf14⟩ := HA2.out.left.left.left.left.right.know fun fp hp => (⟨fp, hp⟩ : ∃ f, PDr pb (Cl ps2 z) w14 f)
      have H10 := all_row pb _ f14 w14 hf14
      rw [Cl.len, HUZ.out] at H10
      have H10 := Lib.hid H10
      clear hf14
      refine wpAnyE_take 24 (some 107) (.bool false) rfl rfl (by kernel_rfl) (by kernel_rfl) (by kernel_rfl) (by kernel_rfl) (fun _ _ _ h => h) (Or.inl ⟨by rfl, ?_⟩) HS2.out ?_
      focus (intro wS hSw; (try dsimp only at hSw); go_simp; try (with_reducible rfl))
      simp only [Act.put, List.setIfInBounds_toArray, List.set_cons_zero, List.set_cons_succ]
      refine wpAnyE_take 25 (some 108) (.bool false) rfl rfl (by kernel_rfl) (by kernel_rfl) (by kernel_rfl) (by kernel_rfl) (fun _ _ _ h => h) (Or.inl ⟨by rfl, ?_⟩) HS2.out ?_
      focus (intro wS hSw; (try dsimp only at hSw); go_simp; try (with_reducible rfl))
      simp only [Act.put, List.setIfInBounds_toArray, List.set_cons_zero, List.set_cons_succ]
      refine wpAnyE_take 26 (some 109) ?_ rfl rfl (by kernel_rfl) (by kernel_rfl) (by kernel_rfl) (by kernel_rfl) (fun _ _ _ h => h) (Or.inl ⟨by rfl, ?_⟩) HS2.out ?_
      rotate_left
      focus (intro wS hSw; (try dsimp only at hSw); go_simp; try (with_reducible rfl))
      simp only [Act.put, List.setIfInBounds_toArray, List.set_cons_zero, List.set_cons_succ]
      refine wpAnyE_take 27 (some 110) ?_ rfl rfl (by kernel_rfl) (by kernel_rfl) (by kernel_rfl) (by kernel_rfl) (fun _ _ _ h => h) (Or.inl ⟨by rfl, ?_⟩) HS2.out ?_
      rotate_left
      focus (intro wS hSw; (try dsimp only at hSw); go_simp; try (with_reducible rfl))
      simp only [Act.put, List.setIfInBounds_toArray, List.set_cons_zero, List.set_cons_succ]
      refine wpAnyE_take 29 (some 112) ?_ rfl rfl (by kernel_rfl) (by kernel_rfl) (by kernel_rfl) (by kernel_rfl) (fun _ _ _ h => h) (Or.inl ⟨by rfl, ?_⟩) HS2.out ?_
      rotate_left
      focus (intro wS hSw; (try dsimp only at hSw); go_simp; try (with_reducible rfl))
      simp only [Act.put, List.setIfInBounds_toArray, List.set_cons_zero, List.set_cons_succ]
      refine wpAnyE_take 30 (some 113) ?_ rfl rfl (by kernel_rfl) (by kernel_rfl) (by kernel_rfl) (by kernel_rfl) (fun _ _ _ h => h) (Or.inl ⟨by rfl, ?_⟩) HS2.out ?_
      rotate_left
      focus (intro wS hSw; (try dsimp only at hSw); go_simp; try (with_reducible rfl))
      simp only [Act.put, List.setIfInBounds_toArray, List.set_cons_zero, List.set_cons_succ]
      refine wpAnyE_take 31 (some 114) ?_ rfl rfl (by kernel_rfl) (by kernel_rfl) (by kernel_rfl) (by kernel_rfl) (fun _ _ _ h => h) (Or.inl ⟨by rfl, ?_⟩) HS2.out ?_
      rotate_left
      focus (intro wS hSw; (try dsimp only at hSw); go_simp; try (with_reducible rfl))
      simp only [Act.put, List.setIfInBounds_toArray, List.set_cons_zero, List.set_cons_succ]
      refine wpAnyE_take 32 (some 115) ?_ rfl rfl (by kernel_rfl) (by kernel_rfl) (by kernel_rfl) (by kernel_rfl) (fun _ _ _ h => h) (Or.inl ⟨by rfl, ?_⟩) HS2.out ?_
      rotate_left
      focus (intro wS hSw; (try dsimp only at hSw); go_simp; try (with_reducible rfl))
      simp only [Act.put, List.setIfInBounds_toArray, List.set_cons_zero, List.set_cons_succ]
      refine wpAnyE_oneG 28 (by kernel_rfl) rfl (by rfl) (fun K hK => ?_)
      go_simp
      with_reducible refine H10.out.mono ?_
      rintro e w15 ⟨g2, n3, rfl, rfl, hrow, hb⟩
      have HA3 := Lib.hid (HA2.out.since HST.out hb)
      have HS3 : Hid (w15.cell? ⟨kb, 1, none⟩ = some (.slice ka np kc) ∧ w15.cell? ⟨rb, 0, none⟩ = some (.slice bA n3 bC)) := ⟨(hb.cell (p := ⟨kb, 1, none⟩) (World.block_lt_of_cell? w14 _ HS2.out.1)).trans HS2.out.1, (hb.cell (p := ⟨rb, 0, none⟩) (World.block_lt_of_cell? w14 _ HS2.out.2)).trans HS2.out.2⟩
      have HRB3 : Hid (RowS w15 bA (Cl ps2 z).bl) := HRB2.out.keep hb
      have HRG := Lib.hid hrow
      clear hb hrow H10 HA2 HS2 HRB2
      try go_wp2_with fail
      refine hK.out _ _ HS3.out ?_
      clear hK K
      try simp only [Act.put, List.setIfInBounds_toArray, List.set_cons_zero, List.set_cons_succ]
      have H11 := Lib.hid (equal_same (some ⟨g2, 0, none⟩) bA n3 bC n3 (Cl ps2 z).bl w15 HRG.out HRB3.out (by rw [Cl.len]; exact HUZ.out.symm) (by omega))
      refine wpAnyE_oneG 33 (by kernel_rfl) rfl (by rfl) (fun K hK => ?_)
      go_simp
      with_reducible refine H11.out.mono ?_
      rintro e w16 ⟨rfl, q3, rfl⟩
      have HA4 := Lib.hid (HA3.out.drewN HST.out q3)
      have HS4 : Hid ((w15.drewN q3).cell? ⟨kb, 1, none⟩ = some (.slice ka np kc) ∧ (w15.drewN q3).cell? ⟨rb, 0, none⟩ = some (.slice bA n3 bC)) := HS3.out
      generalize w15.drewN q3 = w16 at HA4 HS4 ⊢
      clear H11 HA3 HS3 HRB3 HRG
      try go_wp2_with fail
      refine hK.out _ _ HS4.out ?_
      clear hK K
      try simp only [Act.put, List.setIfInBounds_toArray, List.set_cons_zero, List.set_cons_succ]
      refine wpAnyE_take 34 (some 117) (.bool false) rfl rfl (by kernel_rfl) (by kernel_rfl) (by kernel_rfl) (by kernel_rfl) (fun _ _ _ h => h) (Or.inl ⟨by rfl, ?_⟩) HS4.out ?_
      focus (intro wS hSw; (try dsimp only at hSw); go_simp; try (with_reducible rfl))
      simp only [Act.put, List.setIfInBounds_toArray, List.set_cons_zero, List.set_cons_succ]
      refine wpAnyE_take 35 (some 118) (.bool false) rfl rfl (by kernel_rfl) (by kernel_rfl) (by kernel_rfl) (by kernel_rfl) (fun _ _ _ h => h) (Or.inl ⟨by rfl, ?_⟩) HS4.out ?_
      focus (intro wS hSw; (try dsimp only at hSw); go_simp; try (with_reducible rfl))
      simp only [Act.put, List.setIfInBounds_toArray, List.set_cons_zero, List.set_cons_succ]
      refine wpAnyE_done (by kernel_rfl) ?_ _
      have HA5 : Hid (After [] w w16 (Sep (JCl jb pb ps2 z) (TxR (.slice ra np rc) ps2) w16)) := HA4.out.left.left.left
      clear HA4 HS4 HST
      have H12 := Lib.hid (HA5.out.call1 (f := 19) (args := #[.pointer (some ⟨pb, 0, none⟩), .int .i64 0]) (p := Try.prog) fun fp hp => Sep.callL1 (TxR.stays _ _) hp fun f hf => Sep.callR1 (BlkR.stays _ _ _) hf fun f hf => fail0_part pb (Cl ps2 z) f w16 hf)
      go_wp2_with fail
      with_reducible refine H12.out.mono ?_
      rintro e w17 ⟨rfl, ha⟩
      have H13 := Lib.hid (refuse_any (jb := jb) (fu := 0) (L := ps2) (z := z) (TxR.stays _ _) ha HOK.out (by rw [HUZ.out]; omega))
      clear ha H12 HA5
      go_wp2_with fail
      with_reducible refine H13.out.mono ?_
      rintro e w18 ⟨⟨jb2, v5⟩, rfl, ha⟩
      try simp only at ha
      try simp only
      obtain ⟨ga, gc, hv5⟩ := ha.right.know fun fp hp => hp.form
      rw [← HNP.out] at hv5
      subst hv5
      have HA6 := Lib.hid ha
      have H14 := Lib.hid (equal_same ga ra gc rc np ps2 w18 (ha.right.know fun _ hp => hp.row) (ha.left.right.know fun _ hp => hp.row) HNP.out (by omega))
      clear ha H13
      go_wp2_with fail
      with_reducible refine H14.out.mono ?_
      rintro e w19 ⟨rfl, q4, rfl⟩
      have HA7 := Lib.hid (HA6.out.drewN (Stays.sep (Stays.sep (PJr.stays _ _ _ _ _) (TxR.stays _ _)) (TxR.stays _ _)) q4)
      generalize w18.drewN q4 = w19 at HA7 ⊢
      obtain ⟨f19, hf19⟩ := HA7.out.left.left.know fun fp hp => (⟨fp, hp⟩ : ∃ f, PJr jb pb ⟨fitL ps2 z, [], 0, false⟩ ps2.length (used ps2) w19 f)
      have H15 := jnLeft_any jb pb _ _ _ f19 w19 hf19 (by rw [fitL_length]; omega)
      rw [fitL_length, HUZ.out, ← HU.out] at H15
      have H15 := Lib.hid H15
      have hui : (u2 : Int) ≤ (n3 : Int) := by omega
      have hni : (n3 : Int) ≤ 30 := by omega
      have hu0 : (0 : Int) ≤ (u2 : Int) := by omega
      clear H14 HA6 hf19
      go_wp2_with fail
      with_reducible refine H15.out.mono ?_
      rintro e w20 ⟨rfl, q5, rfl⟩
      have HZZ : Hid (Below w.heap.size w (w19.drewN q5)) := (HA7.out.drewN (Stays.sep (Stays.sep (PJr.stays _ _ _ _ _) (TxR.stays _ _)) (TxR.stays _ _)) q5).bel
      generalize w19.drewN q5 = w20 at HZZ ⊢
      clear H15 HA7
      go_wp2
      go_ret
      exact ⟨rfl, HZZ.out⟩
end Go.Proofs.Ytbpklikmldpeiaa
