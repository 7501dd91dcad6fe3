/-
  The walk of souklaw05.DiskSynced.
-/
import Derived.Test.YthckcbnendjmpaaDkOne
import Derived.Test.YthckcbnendjmpaaOrdG
import Derived.Test.YthckcbnendjmpaaRep
namespace Go.Proofs.Ythckcbnendjmpaa
open Go.RowKit Go.Lib

theorem room_20 {n : Nat} (h : n ≤ 20) : Room n := by unfold Room; omega

def base20 : List (List UInt8) := List.replicate 20 z64

theorem rep64 (w : World) : Calls Try.prog 25 #[.string ⟨#[0]⟩, .int .i64 64] w fun e w' => e = .returned (.string (st z64)) ∧ Below w.heap.size w w' := repeat_one 0 64 w (by omega)
theorem wnil (w : World) : Calls Try.prog 9 #[.pointer none, .int .i64 0, .string ⟨#[]⟩] w fun e w' => e = .returned (.int .i64 1) ∧ w = w' := write_nil 0 [] w

set_option maxHeartbeats 40000000 in
set_option maxRecDepth 100000 in
theorem synced_walk (a1 a2 a3 : Option Addr) (c1 c2 c3 : Nat) (fs ss : List (List UInt8)) (keep : List Nat) (w : World) (h1 : RowS w a1 fs) (h2 : RowS w a2 ss) (h3 : RowN w a3 keep)
    (hl1 : ∀ x ∈ fs, x.length ≤ 9223372036854775807) (hl2 : ∀ x ∈ ss, x.length ≤ 9223372036854775807) (hn1 : fs.length ≤ 9223372036854775807) (hn2 : ss.length ≤ 9223372036854775807) (hk : keep.length ≤ 4611686018427387904) :
    Calls Try.prog 4 #[.slice a1 fs.length c1, .slice a2 ss.length c2, .slice a3 keep.length c3] w fun e w' => e = .returned (.bool true) ∧ Below w.heap.size w w' := by
  obtain ⟨n1, hN1⟩ : ∃ n1, n1 = fs.length := ⟨_, rfl⟩
  obtain ⟨n2, hN2⟩ : ∃ n2, n2 = ss.length := ⟨_, rfl⟩
  obtain ⟨nk, hNK⟩ : ∃ nk, nk = keep.length := ⟨_, rfl⟩
  have HN1 := Lib.hid hN1
  have HN2 := Lib.hid hN2
  have HNK := Lib.hid hNK
  have H1 := Lib.hid h1
  have H2 := Lib.hid h2
  have H3 := Lib.hid h3
  have HL1 := Lib.hid hl1
  have HL2 := Lib.hid hl2
  rw [← hN1, ← hN2, ← hNK]
  rw [← hN1] at hn1
  rw [← hN2] at hn2
  rw [← hNK] at hk
  have HLV := fun W => Lib.hid (lives5_any W)
  clear hN1 hN2 hNK h1 h2 h3 hl1 hl2
  go_enter Try.func4, Try.ntmps4
  by_cases hs : n1 ≤ 20 ∧ n2 ≤ 20
  · obtain ⟨hs1, hs2⟩ := hs
    go_wp2_with fail
    refine (HLV _).out.mono ?_
    rintro e w1 ⟨rfl, hb1⟩
    have HB1 := Lib.hid hb1
    have HN := Lib.hid (new_yes 20 w1 (by omega))
    clear hb1 HLV
    go_wp2_with fail
    refine HN.out.mono ?_
    rintro e w2 ⟨pb, fp, rfl, hp, hb2⟩
    have HO : Hid (One w w2 w.heap.size pb ⟨base20, [], -1, false⟩ []) := ⟨fp, hp.mono HB1.out.size, HB1.out.trans (hb2.mono HB1.out.size), Nat.le_refl _, fun x hx => by cases hx⟩
    clear hp hb2 HN
    go_wp2
    go_loopg [36] n1 (fun gk i wr => ∃ j : Nat, j ≤ n1 ∧ i = .int .i64 j ∧ n1 - j ≤ gk ∧ Hid (One w wr w.heap.size pb ⟨base20, pw fs j, -1, false⟩ []))
    case atStart => exact ⟨0, Nat.zero_le _, rfl, by omega, HO.out⟩
    case round =>
      obtain ⟨j, hj, rfl, hgk, HW⟩ := hrel
      by_cases hlt : j < n1
      · obtain ⟨x, hx⟩ : ∃ x, fs[j]? = some x := ⟨_, List.getElem?_eq_getElem (by rw [← HN1.out]; exact hlt)⟩
        obtain ⟨b, off, ea, hc⟩ := (H1.out.keep HW.out.below) (by rw [← HN1.out]; omega)
        subst ea
        have cx := hc j x hx
        have HC := Lib.hid (cut_any x wr (HL1.out x (List.mem_of_getElem? hx)))
        have HX := Lib.hid hx
        clear hc hx
        go_wp2_with fail
        refine HC.out.mono ?_
        rintro e w3 ⟨rfl, hb3⟩
        have h4 := one_write (HW.out.since hb3) (j : Nat) (cutL x) (by show Room (pw fs j).length; rw [pw_length]; exact room_20 (by omega))
        rw [write_fine base20 (pw fs j) j (cutL x) (by simp [base20]; omega) (cutL_length x)] at h4
        have H4 := Lib.hid h4
        clear hb3 h4 HC
        go_wp2_with fail
        refine H4.out.mono ?_
        rintro e w4 ⟨rfl, ho⟩
        have HO4 := Lib.hid ho
        clear ho H4
        go_wp2
        go_roundg (n1 - (j + 1))
        case measure => omega
        case rel =>
          refine ⟨j + 1, by omega, by go_num, by omega, ?_⟩
          rw [pw_succ, List.getD_eq_getElem?_getD, HX.out]
          exact HO4.out
      · have e : j = n1 := by omega
        subst e
        have h5 := one_sync HW.out (by show Room (pw fs j).length; rw [pw_length]; exact room_20 hs1)
        rw [sync_fine] at h5
        have HLB : Hid (∃ bl1, bl1 = settleN base20 (pw fs j) (fun _ => 64) (pw fs j).length) := ⟨_, rfl⟩
        obtain ⟨bl1, hbl1⟩ := HLB.out
        rw [← hbl1] at h5
        have hl20 : bl1.length = 20 := by rw [hbl1, settleN_length]; simp [base20]
        have H5 := Lib.hid h5
        have HL20 := Lib.hid hl20
        clear h5 hbl1 hl20 hgk
        go_wp2_with fail
        refine H5.out.mono ?_
        rintro e w5 ⟨rfl, ho⟩
        have HLEN : Hid (∀ x ∈ bl1, x.length = 64) := by obtain ⟨fp', hp', _⟩ := ho; exact hp'.ok.bl
        have h6 := one_all ho
        simp only at h6
        rw [HL20.out] at h6
        have H6 := Lib.hid h6
        clear ho h6 H5
        go_wp2_with fail
        refine H6.out.mono ?_
        rintro e w6 ⟨g, cur, rfl, ho, hcur⟩
        have HO6 := Lib.hid ho
        have HCUR := Lib.hid hcur
        clear ho hcur H6
        go_wp2
        go_loopg [56] n2 (fun gk i wr => ∃ j2 : Nat, j2 ≤ n2 ∧ i = .int .i64 j2 ∧ n2 - j2 ≤ gk ∧ Hid (One w wr w.heap.size pb ⟨bl1, pw ss j2, -1, false⟩ [(g, .cells cur 9 (0, 0))]))
        case atStart => exact ⟨0, Nat.zero_le _, rfl, by omega, HO6.out⟩
        case round =>
          obtain ⟨j2, hj2, rfl, hgk2, HW2⟩ := hrel
          by_cases hlt2 : j2 < n2
          · obtain ⟨x, hx⟩ : ∃ x, ss[j2]? = some x := ⟨_, List.getElem?_eq_getElem (by rw [← HN2.out]; exact hlt2)⟩
            obtain ⟨b, off, ea, hc⟩ := (H2.out.keep HW2.out.below) (by rw [← HN2.out]; omega)
            subst ea
            have cx := hc j2 x hx
            have HC := Lib.hid (cut_any x wr (HL2.out x (List.mem_of_getElem? hx)))
            have HX := Lib.hid hx
            clear hc hx
            go_wp2_with fail
            refine HC.out.mono ?_
            rintro e w3 ⟨rfl, hb3⟩
            have h4 := one_write (HW2.out.since hb3) (j2 : Nat) (cutL x) (by show Room (pw ss j2).length; rw [pw_length]; exact room_20 (by omega))
            rw [write_fine bl1 (pw ss j2) j2 (cutL x) (by rw [HL20.out]; omega) (cutL_length x)] at h4
            have H4 := Lib.hid h4
            clear hb3 h4 HC
            go_wp2_with fail
            refine H4.out.mono ?_
            rintro e w4 ⟨rfl, ho⟩
            have HO4 := Lib.hid ho
            clear ho H4
            go_wp2
            go_roundg (n2 - (j2 + 1))
            case measure => omega
            case rel =>
              refine ⟨j2 + 1, by omega, by go_num, by omega, ?_⟩
              rw [pw_succ, List.getD_eq_getElem?_getD, HX.out]
              exact HO4.out
          · have e : j2 = n2 := by omega
            subst e
            have h7 := one_restart HW2.out a3 c3 keep (by show Room (pw ss j2).length; rw [pw_length]; exact room_20 hs2) (by rw [← HNK.out]; exact hk) (H3.out.below HW2.out.below (fun h0 => H3.out.lt h0)) (fun h0 => H3.out.lt h0)
            rw [← HNK.out] at h7
            have HLB2 : Hid (∃ bl2, bl2 = settleN bl1 (pw ss j2) (kOf keep) (pw ss j2).length) := ⟨_, rfl⟩
            obtain ⟨bl2, hbl2⟩ := HLB2.out
            have e7 : (DS.mk bl1 (pw ss j2) (-1) false).restart keep = ⟨bl2, [], -1, false⟩ := by rw [hbl2]; rfl
            rw [e7] at h7
            have hl2 : bl2.length = 20 := by rw [hbl2, settleN_length]; exact HL20.out
            have H7 := Lib.hid h7
            have HL22 := Lib.hid hl2
            have HB2 := Lib.hid hbl2
            clear h7 e7 hbl2 hl2 hgk2
            go_wp2_with fail
            refine H7.out.mono ?_
            rintro e w7 ⟨rfl, ho⟩
            have h8 := one_all ho
            simp only at h8
            rw [HL22.out] at h8
            have H8 := Lib.hid h8
            clear ho h8 H7
            go_wp2_with fail
            refine H8.out.mono ?_
            rintro e w8 ⟨g2, cur2, rfl, ho, hcur2⟩
            have HO8 := Lib.hid ho
            have HCUR2 := Lib.hid hcur2
            clear ho hcur2 H8
            go_wp2
            go_loopg [75] 20 (fun gk i wr => ∃ j3 : Nat, j3 ≤ 20 ∧ i = .int .i64 j3 ∧ 20 - j3 ≤ gk ∧ Hid (One w wr w.heap.size pb ⟨bl2, [], -1, false⟩ [(g2, .cells cur2 9 (0, 0)), (g, .cells cur 9 (0, 0))]))
            case atStart => exact ⟨0, Nat.zero_le _, rfl, by omega, HO8.out⟩
            case round =>
              obtain ⟨j3, hj3, rfl, hgk3, HW3⟩ := hrel
              by_cases hlt3 : j3 < 20
              · obtain ⟨x1, hx1⟩ : ∃ x1, bl1[j3]? = some x1 := ⟨_, List.getElem?_eq_getElem (by rw [HL20.out]; exact hlt3)⟩
                have hx2 := settle_pw bl1 ss j2 (kOf keep) j2 (Nat.le_refl _) (by rw [HL20.out]; exact hs2) j3 x1 hx1
                have hbe : settleN bl1 (pw ss j2) (kOf keep) j2 = bl2 := by rw [HB2.out, pw_length]
                rw [hbe] at hx2
                have h64 := HLEN.out x1 (List.mem_of_getElem? hx1)
                have k1 : wr.cell? ⟨g, j3, none⟩ = some (.string (st x1)) := by rw [(HW3.out.other (List.mem_cons_of_mem _ List.mem_cons_self)).cell]; exact HCUR.out j3 x1 hx1
                have k2 := (HW3.out.other List.mem_cons_self).cell j3
                rw [HCUR2.out j3 _ hx2] at k2
                have hjz : (0 : Int) ≤ (j3 : Int) := by omega
                have hjn : (j3 : Int) < 20 := by omega
                have hsx1 : (st x1).size = 64 := by rw [st_size, h64]
                have hg1 := World.block_lt_of_cell? wr _ k1
                have hrk := H3.out.below HW3.out.below (fun h0 => H3.out.lt h0)
                have HW4 : Hid (∀ W2, Below wr.heap.size wr W2 → One w W2 w.heap.size pb ⟨bl2, [], -1, false⟩ [(g2, .cells cur2 9 (0, 0)), (g, .cells cur 9 (0, 0))]) := fun W2 hb => HW3.out.since hb
                clear hx1 hx2 hbe
                have h3c : (∃ y, j3 < nk ∧ keep[j3]? = some y ∧ y ≤ 64) ∨ (∃ y, j3 < nk ∧ keep[j3]? = some y ∧ 64 < y) ∨ ¬ j3 < nk := by
                  by_cases hjk : j3 < nk
                  · obtain ⟨y, hy⟩ : ∃ y, keep[j3]? = some y := ⟨_, List.getElem?_eq_getElem (by rw [← HNK.out]; exact hjk)⟩
                    rcases Nat.lt_or_ge 64 y with h | h
                    · exact .inr (.inl ⟨y, hjk, hy, h⟩)
                    · exact .inl ⟨y, hjk, hy, h⟩
                  · exact .inr (.inr hjk)
                by_cases hj2c : j3 < j2
                case' pos =>
                  rw [if_pos hj2c] at k2
                  obtain ⟨y2, hy2⟩ : ∃ y2, ss[j3]? = some y2 := ⟨_, List.getElem?_eq_getElem (by rw [← HN2.out]; exact hj2c)⟩
                  rw [List.getD_eq_getElem?_getD, hy2] at k2
                  simp only [Option.getD_some] at k2
                  obtain ⟨b, off, ea, hc⟩ := (H2.out.keep HW3.out.below) (by rw [← HN2.out]; omega)
                  subst ea
                  have k3 := hc j3 y2 hy2
                  have hg3 := World.block_lt_of_cell? wr _ k3
                  have hcl := cutL_length y2
                  have HC := fun W => Lib.hid (cut_any y2 W (HL2.out y2 (List.mem_of_getElem? hy2)))
                  generalize cutL y2 = cc at k2 hcl HC
                  have hsc : (st cc).size = 64 := by rw [st_size, hcl]
                  have hji : (j3 : Int) < (j2 : Int) := by omega
                  have hjm : ¬ (j2 : Int) ≤ (j3 : Int) := by omega
                  clear hc hy2
                  rcases h3c with ⟨y, hjk, hy, hy64⟩ | ⟨y, hjk, hy, hy64⟩ | hjk
                  case' inl =>
                    obtain ⟨kb, ko, ea, hkc⟩ := hrk (by rw [← HNK.out]; omega)
                    obtain ⟨h255, ck⟩ := hkc j3 y hy
                    have h255i : (y : Int) ≤ 255 := by omega
                    have hkx : kOf keep j3 = y := by rw [kOf, List.getD_eq_getElem?_getD, hy]; show min y 64 = y; omega
                    rw [hkx] at k2
                    have hmin : min (y : Int) 64 = (y : Int) := by omega
                    have e1 : (st cc).extract 0 y = st (cc.take y) := by rw [st_extract]; rfl
                    have e2 : (st x1).extract y 64 = st (x1.drop y) := by rw [st_extract, List.take_of_length_le (by rw [List.length_drop]; omega)]
                    have e3 := st_append (cc.take y) (x1.drop y)
                    have e4 : (st (cc.take y)).size ≤ 64 := by rw [st_size, List.length_take]; omega
                    have e5 : (st (x1.drop y)).size ≤ 64 := by rw [st_size, List.length_drop]; omega
                    have e6 : ¬ 9223372036854775807 < (st (cc.take y)).size + (st (x1.drop y)).size := by omega
                    have hyi : (y : Int) ≤ 64 := by omega
                    subst ea
                    clear hkc hy hkx hrk h64 hcl
                  case' inr.inl =>
                    obtain ⟨kb, ko, ea, hkc⟩ := hrk (by rw [← HNK.out]; omega)
                    obtain ⟨h255, ck⟩ := hkc j3 y hy
                    have h255i : (y : Int) ≤ 255 := by omega
                    have hkx : kOf keep j3 = 64 := by rw [kOf, List.getD_eq_getElem?_getD, hy]; show min y 64 = 64; omega
                    rw [hkx, List.drop_of_length_le (by omega), List.append_nil] at k2
                    have hmin : min (y : Int) 64 = 64 := by omega
                    have e1 : (st cc).extract 0 64 = st (cc.take 64) := by rw [st_extract]; rfl
                    have e2 : (st x1).extract 64 64 = st [] := by rw [st_extract, List.drop_of_length_le (by omega)]; rfl
                    have e3 : st (cc.take 64) ++ st [] = st (cc.take 64) := by rw [st_append, List.append_nil]
                    have e4 : (st (cc.take 64)).size ≤ 64 := by rw [st_size, List.length_take]; omega
                    have e6 : ¬ 9223372036854775807 < (st (cc.take 64)).size := by omega
                    have e7 : ¬ 9223372036854775807 < (st (cc.take 64)).size + (st []).size := by show ¬ 9223372036854775807 < (st (cc.take 64)).size + 0; omega
                    have hyi : (64 : Int) < (y : Int) := by omega
                    subst ea
                    clear hkc hy hkx hrk h64 hcl
                  case' inr.inr =>
                    have hy : keep[j3]? = none := List.getElem?_eq_none (by rw [← HNK.out]; omega)
                    have hkx : kOf keep j3 = 0 := by rw [kOf, List.getD_eq_getElem?_getD, hy]; rfl
                    rw [hkx, List.take_zero, List.drop_zero, List.nil_append] at k2
                    have e1 : (st cc).extract 0 0 = st [] := by rw [st_extract]; rfl
                    have e2 : (st x1).extract 0 64 = st x1 := by rw [st_extract, List.drop_zero, List.take_of_length_le (by omega)]
                    have e3 : st [] ++ st x1 = st x1 := by rw [st_append, List.nil_append]
                    clear hy hkx hrk h64 hcl
                  all_goals
                    go_wp2_with fail
                    refine wp_region_E (fun w' => w'.cell? ⟨g, j3, none⟩ = some (.string (st x1)) ∧ w'.cell? ⟨b, off + j3, none⟩ = some (.string (st y2))) [] (by kernel_rfl) ?_
                    have HS0 : Hid (wr.drew.cell? ⟨g, j3, none⟩ = some (.string (st x1)) ∧ wr.drew.cell? ⟨b, off + j3, none⟩ = some (.string (st y2))) := ⟨k1, k3⟩
                    refine wpAnyE_take 0 (some 90) ?_ rfl rfl (by kernel_rfl) (by kernel_rfl) (by kernel_rfl) (by kernel_rfl) (fun _ _ _ h => h) (Or.inl ⟨by rfl, ?_⟩) HS0.out ?_
                    rotate_left
                    focus (intro wS hSw; (try dsimp only at hSw); go_simp; try (with_reducible rfl))
                    simp only [Act.put, List.setIfInBounds_toArray, List.set_cons_zero, List.set_cons_succ]
                    refine wpAnyE_take 1 (some 91) ?_ rfl rfl (by kernel_rfl) (by kernel_rfl) (by kernel_rfl) (by kernel_rfl) (fun _ _ _ h => h) (Or.inl ⟨by rfl, ?_⟩) HS0.out ?_
                    rotate_left
                    focus (intro wS hSw; (try dsimp only at hSw); go_simp; try (with_reducible rfl))
                    simp only [Act.put, List.setIfInBounds_toArray, List.set_cons_zero, List.set_cons_succ]
                    refine wpAnyE_take 2 (some 92) ?_ rfl rfl (by kernel_rfl) (by kernel_rfl) (by kernel_rfl) (by kernel_rfl) (fun _ _ _ h => h) (Or.inl ⟨by rfl, ?_⟩) HS0.out ?_
                    rotate_left
                    focus (intro wS hSw; (try dsimp only at hSw); go_simp; try (with_reducible rfl))
                    simp only [Act.put, List.setIfInBounds_toArray, List.set_cons_zero, List.set_cons_succ]
                    refine wpAnyE_take 3 (some 93) (.bool false) rfl rfl (by kernel_rfl) (by kernel_rfl) (by kernel_rfl) (by kernel_rfl) (fun _ _ _ h => h) (Or.inl ⟨by rfl, ?_⟩) HS0.out ?_
                    focus (intro wS hSw; (try dsimp only at hSw); go_simp; try (with_reducible rfl))
                    simp only [Act.put, List.setIfInBounds_toArray, List.set_cons_zero, List.set_cons_succ]
                    refine wpAnyE_take 4 (some 94) ?_ rfl rfl (by kernel_rfl) (by kernel_rfl) (by kernel_rfl) (by kernel_rfl) (fun _ _ _ h => h) (Or.inl ⟨by rfl, ?_⟩) HS0.out ?_
                    rotate_left
                    focus (intro wS hSw; (try dsimp only at hSw); go_simp; try (with_reducible rfl))
                    simp only [Act.put, List.setIfInBounds_toArray, List.set_cons_zero, List.set_cons_succ]
                    refine wpAnyE_take 5 (some 95) undef rfl rfl (by kernel_rfl) (by kernel_rfl) (by kernel_rfl) (by kernel_rfl) (fun _ _ _ h => h) (Or.inr ⟨by rfl, rfl⟩) HS0.out ?_
                    simp only [Act.put, List.setIfInBounds_toArray, List.set_cons_zero, List.set_cons_succ]
                    refine wpAnyE_take 6 (some 96) undef rfl rfl (by kernel_rfl) (by kernel_rfl) (by kernel_rfl) (by kernel_rfl) (fun _ _ _ h => h) (Or.inr ⟨by rfl, rfl⟩) HS0.out ?_
                    simp only [Act.put, List.setIfInBounds_toArray, List.set_cons_zero, List.set_cons_succ]
                    refine wpAnyE_take 7 (some 97) undef rfl rfl (by kernel_rfl) (by kernel_rfl) (by kernel_rfl) (by kernel_rfl) (fun _ _ _ h => h) (Or.inr ⟨by rfl, rfl⟩) HS0.out ?_
                    simp only [Act.put, List.setIfInBounds_toArray, List.set_cons_zero, List.set_cons_succ]
                    refine wpAnyE_take 8 (some 98) undef rfl rfl (by kernel_rfl) (by kernel_rfl) (by kernel_rfl) (by kernel_rfl) (fun _ _ _ h => h) (Or.inr ⟨by rfl, rfl⟩) HS0.out ?_
                    simp only [Act.put, List.setIfInBounds_toArray, List.set_cons_zero, List.set_cons_succ]
                    refine wpAnyE_take 9 (some 99) undef rfl rfl (by kernel_rfl) (by kernel_rfl) (by kernel_rfl) (by kernel_rfl) (fun _ _ _ h => h) (Or.inr ⟨by rfl, rfl⟩) HS0.out ?_
                    simp only [Act.put, List.setIfInBounds_toArray, List.set_cons_zero, List.set_cons_succ]
                    refine wpAnyE_take 10 (some 100) undef rfl rfl (by kernel_rfl) (by kernel_rfl) (by kernel_rfl) (by kernel_rfl) (fun _ _ _ h => h) (Or.inr ⟨by rfl, rfl⟩) HS0.out ?_
                    simp only [Act.put, List.setIfInBounds_toArray, List.set_cons_zero, List.set_cons_succ]
                    refine wpAnyE_take 11 (some 101) ?_ rfl rfl (by kernel_rfl) (by kernel_rfl) (by kernel_rfl) (by kernel_rfl) (fun _ _ _ h => h) (Or.inl ⟨by rfl, ?_⟩) HS0.out ?_
                    rotate_left
                    focus (intro wS hSw; (try dsimp only at hSw); go_simp; try (with_reducible rfl))
                    simp only [Act.put, List.setIfInBounds_toArray, List.set_cons_zero, List.set_cons_succ]
                    refine wpAnyE_take 12 (some 102) ?_ rfl rfl (by kernel_rfl) (by kernel_rfl) (by kernel_rfl) (by kernel_rfl) (fun _ _ _ h => h) (Or.inl ⟨by rfl, ?_⟩) HS0.out ?_
                    rotate_left
                    focus (intro wS hSw; (try dsimp only at hSw); go_simp; try (with_reducible rfl))
                    simp only [Act.put, List.setIfInBounds_toArray, List.set_cons_zero, List.set_cons_succ]
                    refine wpAnyE_take 13 (some 103) ?_ rfl rfl (by kernel_rfl) (by kernel_rfl) (by kernel_rfl) (by kernel_rfl) (fun _ _ _ h => h) (Or.inl ⟨by rfl, ?_⟩) HS0.out ?_
                    rotate_left
                    focus (intro wS hSw; (try dsimp only at hSw); go_simp; try (with_reducible rfl))
                    simp only [Act.put, List.setIfInBounds_toArray, List.set_cons_zero, List.set_cons_succ]
                    refine wpAnyE_take 14 (some 104) ?_ rfl rfl (by kernel_rfl) (by kernel_rfl) (by kernel_rfl) (by kernel_rfl) (fun _ _ _ h => h) (Or.inl ⟨by rfl, ?_⟩) HS0.out ?_
                    rotate_left
                    focus (intro wS hSw; (try dsimp only at hSw); go_simp; try (with_reducible rfl))
                    simp only [Act.put, List.setIfInBounds_toArray, List.set_cons_zero, List.set_cons_succ]
                    refine wpAnyE_take 15 (some 105) ?_ rfl rfl (by kernel_rfl) (by kernel_rfl) (by kernel_rfl) (by kernel_rfl) (fun _ _ _ h => h) (Or.inl ⟨by rfl, ?_⟩) HS0.out ?_
                    rotate_left
                    focus (intro wS hSw; (try dsimp only at hSw); go_simp; try (with_reducible rfl))
                    simp only [Act.put, List.setIfInBounds_toArray, List.set_cons_zero, List.set_cons_succ]
                    refine wpAnyE_take 16 (some 106) (.bool true) rfl rfl (by kernel_rfl) (by kernel_rfl) (by kernel_rfl) (by kernel_rfl) (fun _ _ _ h => h) (Or.inl ⟨by rfl, ?_⟩) HS0.out ?_
                    focus (intro wS hSw; (try dsimp only at hSw); go_simp; try (with_reducible rfl))
                    simp only [Act.put, List.setIfInBounds_toArray, List.set_cons_zero, List.set_cons_succ]
                    refine wpAnyE_take 17 (some 107) ?_ rfl rfl (by kernel_rfl) (by kernel_rfl) (by kernel_rfl) (by kernel_rfl) (fun _ _ _ h => h) (Or.inl ⟨by rfl, ?_⟩) HS0.out ?_
                    rotate_left
                    focus (intro wS hSw; (try dsimp only at hSw); go_simp; try (with_reducible rfl))
                    simp only [Act.put, List.setIfInBounds_toArray, List.set_cons_zero, List.set_cons_succ]
                    refine wpAnyE_take 18 (some 108) ?_ rfl rfl (by kernel_rfl) (by kernel_rfl) (by kernel_rfl) (by kernel_rfl) (fun _ _ _ h => h) (Or.inl ⟨by rfl, ?_⟩) HS0.out ?_
                    rotate_left
                    focus (intro wS hSw; (try dsimp only at hSw); go_simp; try (with_reducible rfl))
                    simp only [Act.put, List.setIfInBounds_toArray, List.set_cons_zero, List.set_cons_succ]
                    refine wpAnyE_take 19 (some 109) ?_ rfl rfl (by kernel_rfl) (by kernel_rfl) (by kernel_rfl) (by kernel_rfl) (fun _ _ _ h => h) (Or.inl ⟨by rfl, ?_⟩) HS0.out ?_
                    rotate_left
                    focus (intro wS hSw; (try dsimp only at hSw); go_simp; try (with_reducible rfl))
                    simp only [Act.put, List.setIfInBounds_toArray, List.set_cons_zero, List.set_cons_succ]
                    refine wpAnyE_take 20 (some 110) ?_ rfl rfl (by kernel_rfl) (by kernel_rfl) (by kernel_rfl) (by kernel_rfl) (fun _ _ _ h => h) (Or.inl ⟨by rfl, ?_⟩) HS0.out ?_
                    rotate_left
                    focus (intro wS hSw; (try dsimp only at hSw); go_simp; try (with_reducible rfl))
                    simp only [Act.put, List.setIfInBounds_toArray, List.set_cons_zero, List.set_cons_succ]
                    refine wpAnyE_take 21 (some 111) ?_ rfl rfl (by kernel_rfl) (by kernel_rfl) (by kernel_rfl) (by kernel_rfl) (fun _ _ _ h => h) (Or.inl ⟨by rfl, ?_⟩) HS0.out ?_
                    rotate_left
                    focus (intro wS hSw; (try dsimp only at hSw); go_simp; try (with_reducible rfl))
                    simp only [Act.put, List.setIfInBounds_toArray, List.set_cons_zero, List.set_cons_succ]
                    refine wpAnyE_take 22 (some 112) ?_ rfl rfl (by kernel_rfl) (by kernel_rfl) (by kernel_rfl) (by kernel_rfl) (fun _ _ _ h => h) (Or.inl ⟨by rfl, ?_⟩) HS0.out ?_
                    rotate_left
                    focus (intro wS hSw; (try dsimp only at hSw); go_simp; try (with_reducible rfl))
                    simp only [Act.put, List.setIfInBounds_toArray, List.set_cons_zero, List.set_cons_succ]
                    refine wpAnyE_take 23 (some 113) ?_ rfl rfl (by kernel_rfl) (by kernel_rfl) (by kernel_rfl) (by kernel_rfl) (fun _ _ _ h => h) (Or.inl ⟨by rfl, ?_⟩) HS0.out ?_
                    rotate_left
                    focus (intro wS hSw; (try dsimp only at hSw); go_simp; try (with_reducible rfl))
                    simp only [Act.put, List.setIfInBounds_toArray, List.set_cons_zero, List.set_cons_succ]
                    refine wpAnyE_take 25 (some 115) ?_ rfl rfl (by kernel_rfl) (by kernel_rfl) (by kernel_rfl) (by kernel_rfl) (fun _ _ _ h => h) (Or.inl ⟨by rfl, ?_⟩) HS0.out ?_
                    rotate_left
                    focus (intro wS hSw; (try dsimp only at hSw); go_simp; try (with_reducible rfl))
                    simp only [Act.put, List.setIfInBounds_toArray, List.set_cons_zero, List.set_cons_succ]
                    refine wpAnyE_take 27 (some 117) ?_ rfl rfl (by kernel_rfl) (by kernel_rfl) (by kernel_rfl) (by kernel_rfl) (fun _ _ _ h => h) (Or.inl ⟨by rfl, ?_⟩) HS0.out ?_
                    rotate_left
                    focus (intro wS hSw; (try dsimp only at hSw); go_simp; try (with_reducible rfl))
                    simp only [Act.put, List.setIfInBounds_toArray, List.set_cons_zero, List.set_cons_succ]
                    refine wpAnyE_take 28 (some 118) ?_ rfl rfl (by kernel_rfl) (by kernel_rfl) (by kernel_rfl) (by kernel_rfl) (fun _ _ _ h => h) (Or.inl ⟨by rfl, ?_⟩) HS0.out ?_
                    rotate_left
                    focus (intro wS hSw; (try dsimp only at hSw); go_simp; try (with_reducible rfl))
                    simp only [Act.put, List.setIfInBounds_toArray, List.set_cons_zero, List.set_cons_succ]
                    refine wpAnyE_take 29 (some 119) ?_ rfl rfl (by kernel_rfl) (by kernel_rfl) (by kernel_rfl) (by kernel_rfl) (fun _ _ _ h => h) (Or.inl ⟨by rfl, ?_⟩) HS0.out ?_
                    rotate_left
                    focus (intro wS hSw; (try dsimp only at hSw); go_simp; try (with_reducible rfl))
                    simp only [Act.put, List.setIfInBounds_toArray, List.set_cons_zero, List.set_cons_succ]
                    refine wpAnyE_take 30 (some 120) ?_ rfl rfl (by kernel_rfl) (by kernel_rfl) (by kernel_rfl) (by kernel_rfl) (fun _ _ _ h => h) (Or.inl ⟨by rfl, ?_⟩) HS0.out ?_
                    rotate_left
                    focus (intro wS hSw; (try dsimp only at hSw); go_simp; try (with_reducible rfl))
                    simp only [Act.put, List.setIfInBounds_toArray, List.set_cons_zero, List.set_cons_succ]
                    refine wpAnyE_take 31 (some 121) ?_ rfl rfl (by kernel_rfl) (by kernel_rfl) (by kernel_rfl) (by kernel_rfl) (fun _ _ _ h => h) (Or.inl ⟨by rfl, ?_⟩) HS0.out ?_
                    rotate_left
                    focus (intro wS hSw; (try dsimp only at hSw); go_simp; try (with_reducible rfl))
                    simp only [Act.put, List.setIfInBounds_toArray, List.set_cons_zero, List.set_cons_succ]
                    refine wpAnyE_take 32 (some 122) ?_ rfl rfl (by kernel_rfl) (by kernel_rfl) (by kernel_rfl) (by kernel_rfl) (fun _ _ _ h => h) (Or.inl ⟨by rfl, ?_⟩) HS0.out ?_
                    rotate_left
                    focus (intro wS hSw; (try dsimp only at hSw); go_simp; try (with_reducible rfl))
                    simp only [Act.put, List.setIfInBounds_toArray, List.set_cons_zero, List.set_cons_succ]
                    refine wpAnyE_oneG 24 (by kernel_rfl) rfl (by rfl) (fun K hK => ?_)
                    go_simp
                    refine (HC _).out.mono ?_
                    rintro e wn ⟨rfl, hbn0⟩
                    have hbn : Below wr.heap.size wr wn := ⟨hbn0.os, hbn0.tape, hbn0.output, hbn0.size, hbn0.block⟩
                    have HS1 : Hid (wn.cell? ⟨g, j3, none⟩ = some (.string (st x1)) ∧ wn.cell? ⟨b, off + j3, none⟩ = some (.string (st y2))) := ⟨(hbn.cell (p := ⟨g, j3, none⟩) hg1).trans k1, (hbn.cell (p := ⟨b, off + j3, none⟩) hg3).trans k3⟩
                    have HO9 := Lib.hid (HW4.out wn hbn)
                    clear hbn hbn0 HW4 HW3 k1 k3 HC
                    try go_wp2_with fail
                    refine hK.out _ _ HS1.out ?_
                    clear hK K
                    try simp only [Act.put, List.setIfInBounds_toArray, List.set_cons_zero, List.set_cons_succ]
                    refine wpAnyE_take 26 (some 116) ?_ rfl rfl (by kernel_rfl) (by kernel_rfl) (by kernel_rfl) (by kernel_rfl) (fun _ _ _ h => h) (Or.inl ⟨by rfl, ?_⟩) HS1.out ?_
                    rotate_left
                    focus (intro wS hSw; (try dsimp only at hSw); go_simp; try (with_reducible rfl))
                    simp only [Act.put, List.setIfInBounds_toArray, List.set_cons_zero, List.set_cons_succ]
                    refine wpAnyE_take 33 (some 123) ?_ rfl rfl (by kernel_rfl) (by kernel_rfl) (by kernel_rfl) (by kernel_rfl) (fun _ _ _ h => h) (Or.inl ⟨by rfl, ?_⟩) HS1.out ?_
                    rotate_left
                    focus (intro wS hSw; (try dsimp only at hSw); go_simp; try (with_reducible rfl))
                    simp only [Act.put, List.setIfInBounds_toArray, List.set_cons_zero, List.set_cons_succ]
                    refine wpAnyE_take 34 (some 124) (.bool false) rfl rfl (by kernel_rfl) (by kernel_rfl) (by kernel_rfl) (by kernel_rfl) (fun _ _ _ h => h) (Or.inl ⟨by rfl, ?_⟩) HS1.out ?_
                    focus (intro wS hSw; (try dsimp only at hSw); go_simp; try (with_reducible rfl))
                    simp only [Act.put, List.setIfInBounds_toArray, List.set_cons_zero, List.set_cons_succ]
                    refine wpAnyE_take 35 (some 125) ?_ rfl rfl (by kernel_rfl) (by kernel_rfl) (by kernel_rfl) (by kernel_rfl) (fun _ _ _ h => h) (Or.inl ⟨by rfl, ?_⟩) HS1.out ?_
                    rotate_left
                    focus (intro wS hSw; (try dsimp only at hSw); go_simp; try (with_reducible rfl))
                    simp only [Act.put, List.setIfInBounds_toArray, List.set_cons_zero, List.set_cons_succ]
                    refine wpAnyE_take 36 (some 126) (.bool false) rfl rfl (by kernel_rfl) (by kernel_rfl) (by kernel_rfl) (by kernel_rfl) (fun _ _ _ h => h) (Or.inl ⟨by rfl, ?_⟩) HS1.out ?_
                    focus (intro wS hSw; (try dsimp only at hSw); go_simp; try (with_reducible rfl))
                    simp only [Act.put, List.setIfInBounds_toArray, List.set_cons_zero, List.set_cons_succ]
                    refine wpAnyE_done (by kernel_rfl) ?_ _
                    go_wp2
                    go_roundg (20 - (j3 + 1))
                    case measure => omega
                    case rel => exact ⟨j3 + 1, by omega, by go_num, by omega, HO9.out⟩
                case' neg =>
                  rw [if_neg hj2c] at k2
                  have hji : ¬ (j3 : Int) < (j2 : Int) := by omega
                  have hjm : (j2 : Int) ≤ (j3 : Int) := by omega
                  rcases h3c with ⟨y, hjk, hy, hy64⟩ | ⟨y, hjk, hy, hy64⟩ | hjk
                  case' inl =>
                    obtain ⟨kb, ko, ea, hkc⟩ := hrk (by rw [← HNK.out]; omega)
                    obtain ⟨h255, ck⟩ := hkc j3 y hy
                    have h255i : (y : Int) ≤ 255 := by omega
                    have hmin : min (y : Int) 64 = (y : Int) := by omega
                    have hyi : (y : Int) ≤ 64 := by omega
                    subst ea
                    clear hkc hy hrk h64
                  case' inr.inl =>
                    obtain ⟨kb, ko, ea, hkc⟩ := hrk (by rw [← HNK.out]; omega)
                    obtain ⟨h255, ck⟩ := hkc j3 y hy
                    have h255i : (y : Int) ≤ 255 := by omega
                    have hmin : min (y : Int) 64 = 64 := by omega
                    have hyi : (64 : Int) < (y : Int) := by omega
                    subst ea
                    clear hkc hy hrk h64
                  case' inr.inr =>
                    clear hrk h64
                  all_goals
                    go_wp2_with fail
                    refine wp_region_E (fun w' => w'.cell? ⟨g, j3, none⟩ = some (.string (st x1))) [] (by kernel_rfl) ?_
                    have HS0 : Hid (wr.drew.cell? ⟨g, j3, none⟩ = some (.string (st x1))) := k1
                    have HO9 := Lib.hid (HW4.out wr.drew ⟨rfl, rfl, rfl, Nat.le_refl _, fun _ _ => rfl⟩)
                    clear HW4 HW3 k1
                    refine wpAnyE_take 0 (some 90) ?_ rfl rfl (by kernel_rfl) (by kernel_rfl) (by kernel_rfl) (by kernel_rfl) (fun _ _ _ h => h) (Or.inl ⟨by rfl, ?_⟩) HS0.out ?_
                    rotate_left
                    focus (intro wS hSw; (try dsimp only at hSw); go_simp; try (with_reducible rfl))
                    simp only [Act.put, List.setIfInBounds_toArray, List.set_cons_zero, List.set_cons_succ]
                    refine wpAnyE_take 1 (some 91) ?_ rfl rfl (by kernel_rfl) (by kernel_rfl) (by kernel_rfl) (by kernel_rfl) (fun _ _ _ h => h) (Or.inl ⟨by rfl, ?_⟩) HS0.out ?_
                    rotate_left
                    focus (intro wS hSw; (try dsimp only at hSw); go_simp; try (with_reducible rfl))
                    simp only [Act.put, List.setIfInBounds_toArray, List.set_cons_zero, List.set_cons_succ]
                    refine wpAnyE_take 2 (some 92) ?_ rfl rfl (by kernel_rfl) (by kernel_rfl) (by kernel_rfl) (by kernel_rfl) (fun _ _ _ h => h) (Or.inl ⟨by rfl, ?_⟩) HS0.out ?_
                    rotate_left
                    focus (intro wS hSw; (try dsimp only at hSw); go_simp; try (with_reducible rfl))
                    simp only [Act.put, List.setIfInBounds_toArray, List.set_cons_zero, List.set_cons_succ]
                    refine wpAnyE_take 3 (some 93) (.bool true) rfl rfl (by kernel_rfl) (by kernel_rfl) (by kernel_rfl) (by kernel_rfl) (fun _ _ _ h => h) (Or.inl ⟨by rfl, ?_⟩) HS0.out ?_
                    focus (intro wS hSw; (try dsimp only at hSw); go_simp; try (with_reducible rfl))
                    simp only [Act.put, List.setIfInBounds_toArray, List.set_cons_zero, List.set_cons_succ]
                    refine wpAnyE_take 4 (some 94) ?_ rfl rfl (by kernel_rfl) (by kernel_rfl) (by kernel_rfl) (by kernel_rfl) (fun _ _ _ h => h) (Or.inl ⟨by rfl, ?_⟩) HS0.out ?_
                    rotate_left
                    focus (intro wS hSw; (try dsimp only at hSw); go_simp; try (with_reducible rfl))
                    simp only [Act.put, List.setIfInBounds_toArray, List.set_cons_zero, List.set_cons_succ]
                    refine wpAnyE_take 5 (some 95) ?_ rfl rfl (by kernel_rfl) (by kernel_rfl) (by kernel_rfl) (by kernel_rfl) (fun _ _ _ h => h) (Or.inl ⟨by rfl, ?_⟩) HS0.out ?_
                    rotate_left
                    focus (intro wS hSw; (try dsimp only at hSw); go_simp; try (with_reducible rfl))
                    simp only [Act.put, List.setIfInBounds_toArray, List.set_cons_zero, List.set_cons_succ]
                    refine wpAnyE_take 6 (some 96) ?_ rfl rfl (by kernel_rfl) (by kernel_rfl) (by kernel_rfl) (by kernel_rfl) (fun _ _ _ h => h) (Or.inl ⟨by rfl, ?_⟩) HS0.out ?_
                    rotate_left
                    focus (intro wS hSw; (try dsimp only at hSw); go_simp; try (with_reducible rfl))
                    simp only [Act.put, List.setIfInBounds_toArray, List.set_cons_zero, List.set_cons_succ]
                    refine wpAnyE_take 7 (some 97) ?_ rfl rfl (by kernel_rfl) (by kernel_rfl) (by kernel_rfl) (by kernel_rfl) (fun _ _ _ h => h) (Or.inl ⟨by rfl, ?_⟩) HS0.out ?_
                    rotate_left
                    focus (intro wS hSw; (try dsimp only at hSw); go_simp; try (with_reducible rfl))
                    simp only [Act.put, List.setIfInBounds_toArray, List.set_cons_zero, List.set_cons_succ]
                    refine wpAnyE_take 8 (some 98) ?_ rfl rfl (by kernel_rfl) (by kernel_rfl) (by kernel_rfl) (by kernel_rfl) (fun _ _ _ h => h) (Or.inl ⟨by rfl, ?_⟩) HS0.out ?_
                    rotate_left
                    focus (intro wS hSw; (try dsimp only at hSw); go_simp; try (with_reducible rfl))
                    simp only [Act.put, List.setIfInBounds_toArray, List.set_cons_zero, List.set_cons_succ]
                    refine wpAnyE_take 9 (some 99) ?_ rfl rfl (by kernel_rfl) (by kernel_rfl) (by kernel_rfl) (by kernel_rfl) (fun _ _ _ h => h) (Or.inl ⟨by rfl, ?_⟩) HS0.out ?_
                    rotate_left
                    focus (intro wS hSw; (try dsimp only at hSw); go_simp; try (with_reducible rfl))
                    simp only [Act.put, List.setIfInBounds_toArray, List.set_cons_zero, List.set_cons_succ]
                    refine wpAnyE_take 10 (some 100) (.bool false) rfl rfl (by kernel_rfl) (by kernel_rfl) (by kernel_rfl) (by kernel_rfl) (fun _ _ _ h => h) (Or.inl ⟨by rfl, ?_⟩) HS0.out ?_
                    focus (intro wS hSw; (try dsimp only at hSw); go_simp; try (with_reducible rfl))
                    simp only [Act.put, List.setIfInBounds_toArray, List.set_cons_zero, List.set_cons_succ]
                    refine wpAnyE_take 11 (some 101) ?_ rfl rfl (by kernel_rfl) (by kernel_rfl) (by kernel_rfl) (by kernel_rfl) (fun _ _ _ h => h) (Or.inl ⟨by rfl, ?_⟩) HS0.out ?_
                    rotate_left
                    focus (intro wS hSw; (try dsimp only at hSw); go_simp; try (with_reducible rfl))
                    simp only [Act.put, List.setIfInBounds_toArray, List.set_cons_zero, List.set_cons_succ]
                    refine wpAnyE_take 12 (some 102) ?_ rfl rfl (by kernel_rfl) (by kernel_rfl) (by kernel_rfl) (by kernel_rfl) (fun _ _ _ h => h) (Or.inl ⟨by rfl, ?_⟩) HS0.out ?_
                    rotate_left
                    focus (intro wS hSw; (try dsimp only at hSw); go_simp; try (with_reducible rfl))
                    simp only [Act.put, List.setIfInBounds_toArray, List.set_cons_zero, List.set_cons_succ]
                    refine wpAnyE_take 13 (some 103) ?_ rfl rfl (by kernel_rfl) (by kernel_rfl) (by kernel_rfl) (by kernel_rfl) (fun _ _ _ h => h) (Or.inl ⟨by rfl, ?_⟩) HS0.out ?_
                    rotate_left
                    focus (intro wS hSw; (try dsimp only at hSw); go_simp; try (with_reducible rfl))
                    simp only [Act.put, List.setIfInBounds_toArray, List.set_cons_zero, List.set_cons_succ]
                    refine wpAnyE_take 14 (some 104) ?_ rfl rfl (by kernel_rfl) (by kernel_rfl) (by kernel_rfl) (by kernel_rfl) (fun _ _ _ h => h) (Or.inl ⟨by rfl, ?_⟩) HS0.out ?_
                    rotate_left
                    focus (intro wS hSw; (try dsimp only at hSw); go_simp; try (with_reducible rfl))
                    simp only [Act.put, List.setIfInBounds_toArray, List.set_cons_zero, List.set_cons_succ]
                    refine wpAnyE_take 15 (some 105) ?_ rfl rfl (by kernel_rfl) (by kernel_rfl) (by kernel_rfl) (by kernel_rfl) (fun _ _ _ h => h) (Or.inl ⟨by rfl, ?_⟩) HS0.out ?_
                    rotate_left
                    focus (intro wS hSw; (try dsimp only at hSw); go_simp; try (with_reducible rfl))
                    simp only [Act.put, List.setIfInBounds_toArray, List.set_cons_zero, List.set_cons_succ]
                    refine wpAnyE_take 16 (some 106) (.bool false) rfl rfl (by kernel_rfl) (by kernel_rfl) (by kernel_rfl) (by kernel_rfl) (fun _ _ _ h => h) (Or.inl ⟨by rfl, ?_⟩) HS0.out ?_
                    focus (intro wS hSw; (try dsimp only at hSw); go_simp; try (with_reducible rfl))
                    simp only [Act.put, List.setIfInBounds_toArray, List.set_cons_zero, List.set_cons_succ]
                    refine wpAnyE_take 17 (some 107) ?_ rfl rfl (by kernel_rfl) (by kernel_rfl) (by kernel_rfl) (by kernel_rfl) (fun _ _ _ h => h) (Or.inl ⟨by rfl, ?_⟩) HS0.out ?_
                    rotate_left
                    focus (intro wS hSw; (try dsimp only at hSw); go_simp; try (with_reducible rfl))
                    simp only [Act.put, List.setIfInBounds_toArray, List.set_cons_zero, List.set_cons_succ]
                    refine wpAnyE_take 18 (some 108) undef rfl rfl (by kernel_rfl) (by kernel_rfl) (by kernel_rfl) (by kernel_rfl) (fun _ _ _ h => h) (Or.inr ⟨by rfl, rfl⟩) HS0.out ?_
                    simp only [Act.put, List.setIfInBounds_toArray, List.set_cons_zero, List.set_cons_succ]
                    refine wpAnyE_take 19 (some 109) undef rfl rfl (by kernel_rfl) (by kernel_rfl) (by kernel_rfl) (by kernel_rfl) (fun _ _ _ h => h) (Or.inr ⟨by rfl, rfl⟩) HS0.out ?_
                    simp only [Act.put, List.setIfInBounds_toArray, List.set_cons_zero, List.set_cons_succ]
                    refine wpAnyE_take 20 (some 110) undef rfl rfl (by kernel_rfl) (by kernel_rfl) (by kernel_rfl) (by kernel_rfl) (fun _ _ _ h => h) (Or.inr ⟨by rfl, rfl⟩) HS0.out ?_
                    simp only [Act.put, List.setIfInBounds_toArray, List.set_cons_zero, List.set_cons_succ]
                    refine wpAnyE_take 21 (some 111) undef rfl rfl (by kernel_rfl) (by kernel_rfl) (by kernel_rfl) (by kernel_rfl) (fun _ _ _ h => h) (Or.inr ⟨by rfl, rfl⟩) HS0.out ?_
                    simp only [Act.put, List.setIfInBounds_toArray, List.set_cons_zero, List.set_cons_succ]
                    refine wpAnyE_take 22 (some 112) undef rfl rfl (by kernel_rfl) (by kernel_rfl) (by kernel_rfl) (by kernel_rfl) (fun _ _ _ h => h) (Or.inr ⟨by rfl, rfl⟩) HS0.out ?_
                    simp only [Act.put, List.setIfInBounds_toArray, List.set_cons_zero, List.set_cons_succ]
                    refine wpAnyE_take 23 (some 113) undef rfl rfl (by kernel_rfl) (by kernel_rfl) (by kernel_rfl) (by kernel_rfl) (fun _ _ _ h => h) (Or.inr ⟨by rfl, rfl⟩) HS0.out ?_
                    simp only [Act.put, List.setIfInBounds_toArray, List.set_cons_zero, List.set_cons_succ]
                    refine wpAnyE_take 24 (some 114) undef rfl rfl (by kernel_rfl) (by kernel_rfl) (by kernel_rfl) (by kernel_rfl) (fun _ _ _ h => h) (Or.inr ⟨by rfl, rfl⟩) HS0.out ?_
                    simp only [Act.put, List.setIfInBounds_toArray, List.set_cons_zero, List.set_cons_succ]
                    refine wpAnyE_take 25 (some 115) undef rfl rfl (by kernel_rfl) (by kernel_rfl) (by kernel_rfl) (by kernel_rfl) (fun _ _ _ h => h) (Or.inr ⟨by rfl, rfl⟩) HS0.out ?_
                    simp only [Act.put, List.setIfInBounds_toArray, List.set_cons_zero, List.set_cons_succ]
                    refine wpAnyE_take 26 (some 116) undef rfl rfl (by kernel_rfl) (by kernel_rfl) (by kernel_rfl) (by kernel_rfl) (fun _ _ _ h => h) (Or.inr ⟨by rfl, rfl⟩) HS0.out ?_
                    simp only [Act.put, List.setIfInBounds_toArray, List.set_cons_zero, List.set_cons_succ]
                    refine wpAnyE_take 27 (some 117) undef rfl rfl (by kernel_rfl) (by kernel_rfl) (by kernel_rfl) (by kernel_rfl) (fun _ _ _ h => h) (Or.inr ⟨by rfl, rfl⟩) HS0.out ?_
                    simp only [Act.put, List.setIfInBounds_toArray, List.set_cons_zero, List.set_cons_succ]
                    refine wpAnyE_take 28 (some 118) undef rfl rfl (by kernel_rfl) (by kernel_rfl) (by kernel_rfl) (by kernel_rfl) (fun _ _ _ h => h) (Or.inr ⟨by rfl, rfl⟩) HS0.out ?_
                    simp only [Act.put, List.setIfInBounds_toArray, List.set_cons_zero, List.set_cons_succ]
                    refine wpAnyE_take 29 (some 119) undef rfl rfl (by kernel_rfl) (by kernel_rfl) (by kernel_rfl) (by kernel_rfl) (fun _ _ _ h => h) (Or.inr ⟨by rfl, rfl⟩) HS0.out ?_
                    simp only [Act.put, List.setIfInBounds_toArray, List.set_cons_zero, List.set_cons_succ]
                    refine wpAnyE_take 30 (some 120) undef rfl rfl (by kernel_rfl) (by kernel_rfl) (by kernel_rfl) (by kernel_rfl) (fun _ _ _ h => h) (Or.inr ⟨by rfl, rfl⟩) HS0.out ?_
                    simp only [Act.put, List.setIfInBounds_toArray, List.set_cons_zero, List.set_cons_succ]
                    refine wpAnyE_take 31 (some 121) undef rfl rfl (by kernel_rfl) (by kernel_rfl) (by kernel_rfl) (by kernel_rfl) (fun _ _ _ h => h) (Or.inr ⟨by rfl, rfl⟩) HS0.out ?_
                    simp only [Act.put, List.setIfInBounds_toArray, List.set_cons_zero, List.set_cons_succ]
                    refine wpAnyE_take 32 (some 122) undef rfl rfl (by kernel_rfl) (by kernel_rfl) (by kernel_rfl) (by kernel_rfl) (fun _ _ _ h => h) (Or.inr ⟨by rfl, rfl⟩) HS0.out ?_
                    simp only [Act.put, List.setIfInBounds_toArray, List.set_cons_zero, List.set_cons_succ]
                    refine wpAnyE_take 33 (some 123) undef rfl rfl (by kernel_rfl) (by kernel_rfl) (by kernel_rfl) (by kernel_rfl) (fun _ _ _ h => h) (Or.inr ⟨by rfl, rfl⟩) HS0.out ?_
                    simp only [Act.put, List.setIfInBounds_toArray, List.set_cons_zero, List.set_cons_succ]
                    refine wpAnyE_take 34 (some 124) undef rfl rfl (by kernel_rfl) (by kernel_rfl) (by kernel_rfl) (by kernel_rfl) (fun _ _ _ h => h) (Or.inr ⟨by rfl, rfl⟩) HS0.out ?_
                    simp only [Act.put, List.setIfInBounds_toArray, List.set_cons_zero, List.set_cons_succ]
                    refine wpAnyE_take 35 (some 125) ?_ rfl rfl (by kernel_rfl) (by kernel_rfl) (by kernel_rfl) (by kernel_rfl) (fun _ _ _ h => h) (Or.inl ⟨by rfl, ?_⟩) HS0.out ?_
                    rotate_left
                    focus (intro wS hSw; (try dsimp only at hSw); go_simp; try (with_reducible rfl))
                    simp only [Act.put, List.setIfInBounds_toArray, List.set_cons_zero, List.set_cons_succ]
                    refine wpAnyE_take 36 (some 126) (.bool false) rfl rfl (by kernel_rfl) (by kernel_rfl) (by kernel_rfl) (by kernel_rfl) (fun _ _ _ h => h) (Or.inl ⟨by rfl, ?_⟩) HS0.out ?_
                    focus (intro wS hSw; (try dsimp only at hSw); go_simp; try (with_reducible rfl))
                    simp only [Act.put, List.setIfInBounds_toArray, List.set_cons_zero, List.set_cons_succ]
                    refine wpAnyE_done (by kernel_rfl) ?_ _
                    go_wp2
                    go_roundg (20 - (j3 + 1))
                    case measure => omega
                    case rel => exact ⟨j3 + 1, by omega, by go_num, by omega, HO9.out⟩
              · have e : j3 = 20 := by omega
                subst e
                clear hgk3
                go_wp2_with (first | (go_at_call 16; refine (restart_nil _ _).mono ?_; rintro e w' ⟨rfl, rfl⟩) | (go_at_call 15; refine (fail_nil _ _).mono ?_; rintro e w' ⟨rfl, rfl⟩) | (go_at_call 13; refine (read_nil _ _).mono ?_; rintro e w' ⟨rfl, rfl⟩) | (go_at_call 7; refine (new_no _ _ (by omega)).mono ?_; rintro e w' ⟨rfl, rfl⟩) | (go_at_call 24; refine (empty_any _).mono ?_; rintro e we ⟨rfl, hbe⟩; have HBE := Lib.hid hbe; clear hbe) | (go_at_call 25; refine (rep64 _).mono ?_; rintro e wq ⟨rfl, hbq⟩; have HBQ := Lib.hid hbq; clear hbq) | (go_at_call 19; refine (len_nil _).mono ?_; rintro e w' ⟨rfl, rfl⟩) | (go_at_call 9; refine (wnil _).mono ?_; rintro e w' ⟨rfl, rfl⟩) | (go_at_call 11; refine (sync_nil _).mono ?_; rintro e w' ⟨rfl, rfl⟩) | (go_at_call 18; refine (dead_nil _).mono ?_; rintro e w' ⟨rfl, rfl⟩) | (go_at_call 21; refine (all_nil _).mono ?_; rintro e w' ⟨rfl, rfl⟩))
                go_ret
                exact ⟨rfl, (HW3.out.below.trans (HBE.out.mono HW3.out.below.size)).trans (HBQ.out.mono (Nat.le_trans HW3.out.below.size HBE.out.size))⟩
  · have hd : (20 : Int) < (n1 : Int) ∨ ¬ (20 : Int) < (n1 : Int) ∧ (20 : Int) < (n2 : Int) := by omega
    clear hs
    rcases hd with hd | ⟨hd, hd2⟩
    all_goals
      go_wp2_with fail
      refine (HLV _).out.mono ?_
      rintro e w1 ⟨rfl, hb1⟩
      have HB1 := Lib.hid hb1
      clear hb1
      go_wp2_with fail
      refine (HLV _).out.mono ?_
      rintro e w2 ⟨rfl, hb2⟩
      have HB2 := Lib.hid hb2
      clear hb2
      go_wp2
      go_ret
      exact ⟨rfl, HB1.out.trans (HB2.out.mono HB1.out.size)⟩
end Go.Proofs.Ythckcbnendjmpaa
