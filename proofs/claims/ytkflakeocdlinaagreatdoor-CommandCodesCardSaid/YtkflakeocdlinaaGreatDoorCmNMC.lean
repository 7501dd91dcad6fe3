/-
  Contract of the document's Right of layer 18.
-/
import Derived.Test.YtkflakeocdlinaaGreatDoorCmLMC
import Derived.Test.YtkflakeocdlinaaGreatDoorMC18
import Derived.Deep.CutRange
namespace Go.Proofs.YtkflakeocdlinaaGreatDoor
open Go.RowKit Go.Deep

theorem parts18_any (a : Option Addr) (cp : Nat) (xs : List Sh) (w : World) (hr : RowG 2 cSh w a xs) :
    Calls Tryz.prog 33 #[.int .i64 1, .agg #[.int .i64 0, .int .i64 0, .int .i64 0, .int .i64 0], .slice a xs.length cp] w fun e w' => (∃ v : Value, e = .returned (.tuple #[v, .int .i64 (rgF xs)])) ∧ Below w.heap.size w w' := by
  obtain ⟨s, tt, hO⟩ := Ordr.exists xs.length (fun i => (rf ((1 : Int) - 0 - 0).toNat (ptS xs) (ptW xs) i : Int))
  have hE : ofE 1 0 0 0 xs = rgF xs := by
    unfold ofE
    rw [show cstB 1 0 0 0 = true by decide]
    rfl
  refine (rparts_any 1 0 0 0 0 a cp xs s tt w (by unfold Amt; omega) hr (fun _ => hO)).mono ?_
  rintro e w' h
  rw [hE] at h
  rcases h with ⟨_, he, hb⟩ | ⟨h0, ar, cr, he, _, hb⟩
  · exact ⟨⟨_, he⟩, hb⟩
  · exact ⟨⟨_, by rw [he, h0]⟩, hb⟩

set_option maxHeartbeats 1600000 in
theorem rright_other (k i b u t : List UInt8) (m : Int) (a : Option Addr) (cp : Nat) (xs : List Sh) (w : World) (hk : k ≠ kSale) (hi : i.length ≤ 4611686018427387904) (hb : b.length ≤ 4611686018427387904) (ht : t.length ≤ 4611686018427387904) :
    Calls Tryz.prog 11 #[.agg #[.string (st k), .string (st i), .string (st b), .string (st u), .string (st t), .int .i64 m, .slice a xs.length cp]] w fun e w' => e = .returned (.int .i64 (rightD ⟨k, i, b, u, t, m, xs⟩)) ∧ Below w.heap.size w w' := by
  have HB0 : Hid (Below w.heap.size w (w.alloc (.cells #[.string (st k), .string (st i), .string (st b), .string (st u), .string (st t), .int .i64 m, .slice a xs.length cp] 24))) := (Below.refl _ w).alloc (Nat.le_refl _) _
  have HC := fun W => Lib.hid (rplain_any ⟨k, i, b, u, t, m, xs⟩ a cp W hi hb ht)
  simp only at HC
  have q1 := lit_eqA k [115, 97, 108, 101]
  rw [show decide (k = [115, 97, 108, 101]) = false from decide_eq_false hk] at q1
  obtain ⟨P, hP⟩ : ∃ P, P = plainD ⟨k, i, b, u, t, m, xs⟩ := ⟨_, rfl⟩
  have HV : Hid (rightD ⟨k, i, b, u, t, m, xs⟩ = if P = true then 0 else 1) := by show _ = _; unfold rightD; rw [if_pos hk, ← hP]
  rw [← hP] at HC
  rw [HV.out]
  obtain ⟨n, hn⟩ : ∃ n, n = xs.length := ⟨_, rfl⟩
  rw [← hn] at HB0 HC ⊢
  clear hn hP HV hk
  go_enter Tryz.func11, Tryz.ntmps11
  go_wp2_with fail
  refine (HC _).out.mono ?_
  rintro e w1 ⟨rfl, hb⟩
  have HB1 := Lib.hid (bel_onG HB0.out HB0.out.size hb)
  clear hb HC
  cases P with
  | true => go_wp2; go_ret; exact ⟨rfl, HB1.out⟩
  | false => go_wp2; go_ret; exact ⟨rfl, HB1.out⟩

set_option maxHeartbeats 6400000 in
set_option maxRecDepth 100000 in
theorem rright_sale (i b u t : List UInt8) (m : Int) (a : Option Addr) (cp : Nat) (xs : List Sh) (w : World) (hi : i.length ≤ 4611686018427387904) (hu : u.length ≤ 4611686018427387904) (ht : t.length ≤ 4611686018427387904) (hr : RowG 2 cSh w a xs) (hl : xs.length ≤ 4611686018427387904) (hs : ∀ s ∈ xs, s.1.length ≤ 4611686018427387904) (R : Int) (hR : R = rightD ⟨kSale, i, b, u, t, m, xs⟩) :
    Calls Tryz.prog 11 #[.agg #[.string (st kSale), .string (st i), .string (st b), .string (st u), .string (st t), .int .i64 m, .slice a xs.length cp]] w fun e w' => e = .returned (.int .i64 R) ∧ Below w.heap.size w w' := by
  have hb0 : Below w.heap.size w (w.alloc (.cells #[.string (st kSale), .string (st i), .string (st b), .string (st u), .string (st t), .int .i64 m, .slice a xs.length cp] 24)) := (Below.refl _ w).alloc (Nat.le_refl _) _
  have HB0 := Lib.hid hb0
  have HR := Lib.hid (hr.keep hb0)
  have q1 := lit_eqA kSale [115, 97, 108, 101]
  rw [show decide (kSale = [115, 97, 108, 101]) = true by decide] at q1
  obtain ⟨bi, hbi⟩ : ∃ bi, bi = nameB i 20 := ⟨_, rfl⟩
  obtain ⟨bt, hbt⟩ : ∃ bt, bt = nameB t 20 := ⟨_, rfl⟩
  obtain ⟨bu, hbu⟩ : ∃ bu, bu = curB u := ⟨_, rfl⟩
  obtain ⟨m1, hm1⟩ : ∃ m1, m1 = amtB m 1 := ⟨_, rfl⟩
  obtain ⟨zb, hzb⟩ : ∃ zb, zb = decide (b = []) := ⟨_, rfl⟩
  obtain ⟨zt, hzt⟩ : ∃ zt, zt = decide (t = []) := ⟨_, rfl⟩
  have H1 : ∀ W, Hid (Calls Tryz.prog 30 #[.string (st i), .int .i64 20] W fun e w' => e = .returned (.bool bi) ∧ W = w') := fun W => by rw [hbi]; exact rname_any i 20 W hi
  have H4 : ∀ W, Hid (Calls Tryz.prog 30 #[.string (st t), .int .i64 20] W fun e w' => e = .returned (.bool bt) ∧ W = w') := fun W => by rw [hbt]; exact rname_any t 20 W ht
  have HU : ∀ W, Hid (Calls Tryz.prog 31 #[.string (st u)] W fun e w' => e = .returned (.bool bu) ∧ W = w') := fun W => by rw [hbu]; exact rcur_any u W hu
  have A1 : ∀ W, Hid (Calls Tryz.prog 32 #[.int .i64 m, .int .i64 1] W fun e w' => e = .returned (.bool m1) ∧ W = w') := fun W => by rw [hm1]; exact ramount_any m 1 W
  have eb := empty_eqA b
  have et := empty_eqA t
  rw [← hzb] at eb
  rw [← hzt] at et
  obtain ⟨bc, hbc⟩ : ∃ bc, bc = (zt || bt) := ⟨_, rfl⟩
  have HBC := Lib.hid hbc
  have HV : Hid (R = if (bi && (bc && (bu && (zb && m1)))) = true then (if namesB xs = true then rgF xs else 1) else 1) := by
    show _ = _
    rw [hR]
    unfold rightD
    rw [if_neg (by simp)]
    have e : saleD ⟨kSale, i, b, u, t, m, xs⟩ = (bi && (bc && (bu && (zb && m1)))) := by unfold saleD; simp only [hbi, hbc, hbt, hbu, hm1, hzb, hzt]
    rw [e]
  have HS := Lib.hid hs
  obtain ⟨n, hn⟩ : ∃ n, n = xs.length := ⟨_, rfl⟩
  have HN := Lib.hid hn
  rw [← hn] at HB0 HR hl ⊢
  clear hn hr hs hbi hbt hbu hm1 hzb hzt hbc hR hb0 hi hu ht
  go_enter Tryz.func11, Tryz.ntmps11
  go_upto_region 7 with (first | (go_at_call 30; with_reducible refine (H1 _).out.mono ?_; rintro e w' ⟨rfl, rfl⟩) | fail)
  go_cut [5] from 20 to 27 (fun v5 wx => v5 = .bool bc ∧ w.alloc (.cells #[.string (st kSale), .string (st i), .string (st b), .string (st u), .string (st t), .int .i64 m, .slice a n cp] 24) = wx)
  case first =>
    cases zt with
    | true =>
      go_wp2
      go_meet
      exact ⟨by rw [HBC.out]; rfl, rfl⟩
    | false =>
      go_wp2_with (first | (go_at_call 30; with_reducible refine (H4 _).out.mono ?_; rintro e w' ⟨rfl, rfl⟩) | fail)
      go_meet
      exact ⟨by rw [HBC.out]; rfl, rfl⟩
  case rest =>
    obtain ⟨rfl, hwc⟩ := hcut
    subst hwc
    go_upto_region 9 with (first | (go_at_call 31; with_reducible refine (HU _).out.mono ?_; rintro e w' ⟨rfl, rfl⟩) | fail)
    clear H1 H4 HU HBC
    cases bi with
    | false =>
      have HF : Hid (R = 1) := by show _ = _; rw [HV.out]; rfl
      go_wp2_with (first | (go_at_call 32; with_reducible refine (A1 _).out.mono ?_; rintro e w' ⟨rfl, rfl⟩) | fail)
      go_ret
      exact ⟨by rw [HF.out]; first | done | rfl, HB0.out⟩
    | true =>
      cases bc with
      | false =>
        have HF : Hid (R = 1) := by show _ = _; rw [HV.out]; rfl
        go_wp2_with (first | (go_at_call 32; with_reducible refine (A1 _).out.mono ?_; rintro e w' ⟨rfl, rfl⟩) | fail)
        go_ret
        exact ⟨by rw [HF.out]; first | done | rfl, HB0.out⟩
      | true =>
        cases bu with
        | false =>
          have HF : Hid (R = 1) := by show _ = _; rw [HV.out]; rfl
          go_wp2_with (first | (go_at_call 32; with_reducible refine (A1 _).out.mono ?_; rintro e w' ⟨rfl, rfl⟩) | fail)
          go_ret
          exact ⟨by rw [HF.out]; first | done | rfl, HB0.out⟩
        | true =>
          cases zb with
          | false =>
            have HF : Hid (R = 1) := by show _ = _; rw [HV.out]; rfl
            go_wp2_with (first | (go_at_call 32; with_reducible refine (A1 _).out.mono ?_; rintro e w' ⟨rfl, rfl⟩) | fail)
            go_ret
            exact ⟨by rw [HF.out]; first | done | rfl, HB0.out⟩
          | true =>
            cases m1 with
            | false =>
              have HF : Hid (R = 1) := by show _ = _; rw [HV.out]; rfl
              go_wp2_with (first | (go_at_call 32; with_reducible refine (A1 _).out.mono ?_; rintro e w' ⟨rfl, rfl⟩) | fail)
              go_ret
              exact ⟨by rw [HF.out]; first | done | rfl, HB0.out⟩
            | true =>
              go_upto_region 11 with (first | (go_at_call 32; with_reducible refine (A1 _).out.mono ?_; rintro e w' ⟨rfl, rfl⟩) | fail)
              have HV2 : Hid (R = if namesB xs = true then rgF xs else 1) := by show _ = _; rw [HV.out]; rfl
              clear HV A1
              go_wp2
              go_loopg [7, 8] n (fun gk ix _ wr => w.alloc (.cells #[.string (st kSale), .string (st i), .string (st b), .string (st u), .string (st t), .int .i64 m, .slice a n cp] 24) = wr ∧ ∃ j : Nat, j ≤ n ∧ ix = .int .i64 j ∧ n - j ≤ gk ∧ Hid (∀ (q : Nat) (s : Sh), q < j → xs[q]? = some s → nameB s.1 20 = true))
              case atStart => exact ⟨rfl, 0, Nat.zero_le _, rfl, by omega, fun q s hq => by omega⟩
              case round =>
                obtain ⟨hwr, j, hj, rfl, hgk, HJ⟩ := hrel
                subst hwr
                by_cases hlt : j < n
                · obtain ⟨x, hx⟩ : ∃ x, xs[j]? = some x := ⟨_, List.getElem?_eq_getElem (by rw [← HN.out]; exact hlt)⟩
                  have hxl := HS.out x (List.mem_of_getElem? hx)
                  obtain ⟨p, q⟩ := x
                  obtain ⟨b1, off, rfl⟩ := HR.out.form (by rw [← HN.out]; omega)
                  have c0 : (w.alloc (.cells #[.string (st kSale), .string (st i), .string (st b), .string (st u), .string (st t), .int .i64 m, .slice (some ⟨b1, off, none⟩) n cp] 24)).cell? ⟨b1, off + j * 2, none⟩ = some (.string (st p)) := by simpa using HR.out.at hx 0 _ rfl
                  have hkz : (0 : Int) ≤ (j : Int) := by omega
                  have hkn : (j : Int) < (n : Int) := by omega
                  have HX := Lib.hid hx
                  obtain ⟨bp, hbp⟩ : ∃ bp, bp = nameB p 20 := ⟨_, rfl⟩
                  have HBP := Lib.hid hbp
                  have HC : ∀ W, Hid (Calls Tryz.prog 30 #[.string (st p), .int .i64 20] W fun e w' => e = .returned (.bool bp) ∧ W = w') := fun W => by rw [hbp]; exact rname_any p 20 W hxl
                  clear hx hxl hbp
                  cases bp with
                  | false =>
                    have HF : Hid (R = 1) := by show _ = _; rw [HV2.out, names_some HX.out HBP.out.symm]; rfl
                    go_wp2_with (first | (go_at_call 30; with_reducible refine (HC _).out.mono ?_; rintro e w' ⟨rfl, rfl⟩) | fail)
                    go_ret
                    exact ⟨by rw [HF.out]; first | done | rfl, HB0.out⟩
                  | true =>
                    go_wp2_with (first | (go_at_call 30; with_reducible refine (HC _).out.mono ?_; rintro e w' ⟨rfl, rfl⟩) | fail)
                    go_roundg (n - (j + 1))
                    case measure => omega
                    case rel =>
                      refine ⟨rfl, j + 1, by omega, by go_num, by omega, fun q' s hq hs => ?_⟩
                      by_cases e : q' = j
                      · subst e
                        rw [HX.out] at hs
                        injection hs with hs
                        subst hs
                        exact HBP.out.symm
                      · exact HJ.out q' s (by omega) hs
                · have hkn : ¬ ((j : Int) < (n : Int)) := by omega
                  have HF : Hid (R = rgF xs) := by
                    show _ = _
                    rw [HV2.out, names_none (fun q' s hs => HJ.out q' s (by have h1 := (List.getElem?_eq_some_iff.1 hs).1; have h2 := HN.out; omega) hs)]
                    rfl
                  have HP := Lib.hid (parts18_any a cp xs _ HR.out)
                  rw [← HN.out] at HP
                  clear HJ
                  go_wp2_with fail
                  refine HP.out.mono ?_
                  rintro e w2 ⟨⟨v, rfl⟩, hb⟩
                  have HB2 := Lib.hid (bel_onG HB0.out HB0.out.size hb)
                  clear hb HP
                  go_wp2
                  go_ret
                  exact ⟨by rw [HF.out]; first | done | rfl, HB2.out⟩


/-- ████ THE CONTRACT OF the document's Right ████ -/
theorem rright_any (c : Cm) (a : Option Addr) (cp : Nat) (w : World) (hi : c.id.length ≤ 4611686018427387904) (hb : c.about.length ≤ 4611686018427387904) (hu : c.cur.length ≤ 4611686018427387904) (ht : c.cat.length ≤ 4611686018427387904) (hr : RowG 2 cSh w a c.sh) (hl : c.sh.length ≤ 4611686018427387904) (hs : ∀ s ∈ c.sh, s.1.length ≤ 4611686018427387904) :
    Calls Tryz.prog 11 #[.agg #[.string (st c.kind), .string (st c.id), .string (st c.about), .string (st c.cur), .string (st c.cat), .int .i64 c.amt, .slice a c.sh.length cp]] w fun e w' => e = .returned (.int .i64 (rightC c)) ∧ Below w.heap.size w w' := by
  rw [← rightD_eq]
  obtain ⟨k, i, b, u, t, m, xs⟩ := c
  simp only at hi hb hu ht hr hl hs ⊢
  by_cases hk : k = kSale
  · subst hk
    exact rright_sale i b u t m a cp xs w hi hu ht hr hl hs _ rfl
  · exact rright_other k i b u t m a cp xs w hk hi hb ht
end Go.Proofs.YtkflakeocdlinaaGreatDoor
