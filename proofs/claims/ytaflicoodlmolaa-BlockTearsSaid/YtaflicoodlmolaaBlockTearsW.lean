/-
  The walk of souklaw04.BlockTears.
-/
import Derived.Test.YtaflicoodlmolaaBlkT
namespace Go.Proofs.Ytaflicoodlmolaa
open Go.RowKit

theorem rep64_any (w : World) :
    Calls Try.prog 13 #[.string ⟨#[0]⟩, .int .i64 64] w fun e w' => e = .returned (.string (st zero64)) ∧ Below w.heap.size w w' := rep_any 64 w (by omega)

theorem clone_any (b off n c : Nat) (ls : List (List UInt8)) (w : World) (h : RowS w (some ⟨b, off, none⟩) ls) (hl : ls.length = n) (hn : 1 ≤ n) (hb : n ≤ 1000) :
    Calls Try.prog 14 #[.slice (some ⟨b, off, none⟩) n c] w fun e w' => ∃ g c', e = .returned (.slice (some ⟨g, 0, none⟩) n c') ∧ w'.ownsRow w.heap.size 9 1 (.slice (some ⟨g, 0, none⟩) n c') n (sv ls) ∧ Below w.heap.size w w' := by
  subst hl
  obtain ⟨b1, o1, e1, hc1⟩ := h (by omega)
  simp only [Option.some.injEq, Addr.mk.injEq, and_true] at e1
  obtain ⟨rfl, rfl⟩ := e1
  have hl : (ls.map st).length = ls.length := by simp
  refine (Try.slices_Clone_string b off ls.length c (ls.map st) w (by omega) (by omega) (fun j hj => ?_)).mono ?_
  · rw [hl] at hj
    rw [List.getD_eq_getElem?_getD, List.getElem?_map, List.getElem?_eq_getElem hj]
    exact hc1 j _ (List.getElem?_eq_getElem hj)
  · rintro e w' ⟨v', rfl, hown, hne, hb⟩
    have hm : ((ls.map st).take ls.length).map Value.string = sv ls := by
      rw [List.take_of_length_le (by omega)]; simp [sv]
    rw [hm] at hown
    obtain ⟨g, cap, hv, _, _⟩ := hown.form (by omega)
    subst hv
    exact ⟨g, cap, rfl, hown, hb⟩

set_option maxHeartbeats 8000000 in
set_option maxRecDepth 100000 in
theorem tears_walk (N O W A : Nat) (p old : List UInt8) (w : World) (hN : N ≤ 255) (hO : O ≤ 255) (hW : W ≤ 255) (hA : A ≤ 255) (hp : p.length ≤ 9223372036854775807) (ho : old.length ≤ 9223372036854775807) :
    Calls Try.prog 5 #[.agg #[.int .u8 N, .int .u8 O], .agg #[.string (st p), .string (st old)], .agg #[.int .u8 W, .int .u8 A]] w fun e w' => e = .returned (.bool true) ∧ Below w.heap.size w w' := by
  have hsp := st_size p
  have hso := st_size old
  obtain ⟨n, hnn⟩ : ∃ n, n = p.length := ⟨_, rfl⟩
  obtain ⟨m, hmm⟩ : ∃ m, m = old.length := ⟨_, rfl⟩
  rw [← hnn] at hsp hp
  rw [← hmm] at hso ho
  have HN := Lib.hid hnn
  have HM := Lib.hid hmm
  clear hnn hmm
  have HL : ∀ W, Hid (Calls Try.prog 6 #[] W fun e w' => e = .returned (.bool true) ∧ Below W.heap.size W w') := fun W => lives4_any W
  have HB0 := Lib.hid ((((Below.refl w.heap.size w).alloc (Nat.le_refl _) (.cells #[.int .u8 N, .int .u8 O] 37)).alloc (by simp) (.cells #[.string (st p), .string (st old)] 38)).alloc (by simp; omega) (.cells #[.int .u8 W, .int .u8 A] 37))
  go_enter Try.func5, Try.ntmps5
  go_wp2
  go_quiet (fail)
  have HBq := Lib.hid (below_drewN HB0.out nq)
  generalize World.drewN _ nq = w1 at HBq ⊢
  clear HB0
  by_cases hsm : n ≤ 2000 ∧ m ≤ 4000 ∧ N ≠ O
  · obtain ⟨h2000, h4000, hNO⟩ := hsm
    have tNO : ((N : Int) == (O : Int)) = false := by rw [beq_eq_false_iff_ne]; omega
    have hNOz : ¬ (N : Int) = (O : Int) := by omega
    have H1 := HL w1
    have HNE := Lib.hid hNO
    clear HL hNO
    by_cases hp0 : n = 0
    · have hnr : ¬ recOK (N : Int) p := fun h => by have := h.2.2.1; rw [← HN.out] at this; omega
      have H2 : ∀ W, Hid (Calls Try.prog 7 #[.int .i64 N, .string (st p)] W fun e w' => e = .returned (.tuple #[.slice none 0 0, .int .i64 1]) ∧ W = w') := fun W => pack_no N p W (by rw [← HN.out]; omega) hnr
      have hpe : p = [] := List.eq_nil_of_length_eq_zero (by rw [← HN.out]; exact hp0)
      subst hpe
      have es : (st []).toList.isEmpty = true := by rw [Go.Lib.toList_data, st_toList]; rfl
      have H3 : ∀ W, Hid (Calls Try.prog 7 #[.int .i64 O, .string (st old)] W fun e w' => ∃ v f, e = .returned (.tuple #[v, .int .i64 f]) ∧ Below W.heap.size W w') := fun W => by
        by_cases h : recOK (O : Int) old
        · refine (pack_yes O old W h).mono ?_
          rintro e w' ⟨g, rfl, hb, _⟩
          exact ⟨_, _, rfl, hb⟩
        · refine (pack_no O old W (by rw [← HM.out]; omega) h).mono ?_
          rintro e w' ⟨rfl, rfl⟩
          exact ⟨_, _, rfl, Below.refl _ _⟩
      subst hp0
      clear hnr
      go_wp2_with fail
      refine H1.out.mono ?_
      rintro e w2 ⟨rfl, hb2⟩
      have HB2 := Lib.hid (HBq.out.trans (hb2.mono HBq.out.size))
      clear hb2 H1
      go_wp2_with fail
      refine (H2 _).out.mono ?_
      rintro e w3 ⟨rfl, rfl⟩
      go_wp2_with fail
      refine (H3 _).out.mono ?_
      rintro e w3 ⟨v, f, rfl, hb3⟩
      have HB3 := Lib.hid (HB2.out.trans (hb3.mono HB2.out.size))
      clear hb3
      go_wp2
      go_ret
      exact ⟨rfl, HB3.out⟩
    · have hrec : recOK (N : Int) p := ⟨by omega, by omega, by rw [← HN.out]; omega, by rw [← HN.out]; omega⟩
      obtain ⟨q, hq⟩ : ∃ q, q = cnt p.length := ⟨_, rfl⟩
      have hq1 : 1 ≤ q := by rw [hq]; unfold cnt; have := hrec.2.2.1; omega
      have hq2 : q ≤ 255 := by rw [hq]; unfold cnt; have := hrec.2.2.2; omega
      have HQ := Lib.hid hq
      have HREC := Lib.hid hrec
      have H2 : ∀ W, Hid (Calls Try.prog 7 #[.int .i64 N, .string (st p)] W fun e w' => ∃ g, e = .returned (.tuple #[.slice (some ⟨g, 0, none⟩) q q, .int .i64 0]) ∧ Below W.heap.size W w' ∧ w'.ownsRow W.heap.size 9 1 (.slice (some ⟨g, 0, none⟩) q q) q (sv (blks N p))) := fun W => by rw [hq]; exact pack_yes N p W hrec
      clear hq hrec
      go_wp2_with fail
      refine H1.out.mono ?_
      rintro e w2 ⟨rfl, hb2⟩
      have HB2 := Lib.hid (HBq.out.trans (hb2.mono HBq.out.size))
      clear hb2 H1
      go_wp2_with fail
      refine (H2 _).out.mono ?_
      rintro e w3 ⟨g, rfl, hb3, hown⟩
      have HB3 := Lib.hid (HB2.out.trans (hb3.mono HB2.out.size))
      have HRL := Lib.hid (RowS.of_own hown)
      clear hb3 hown H2
      by_cases hm0 : m = 0
      case' pos =>
        have hnr : ¬ recOK (O : Int) old := fun h => by have := h.2.2.1; rw [← HM.out] at this; omega
        have H3 := Lib.hid (pack_no O old w3 (by rw [← HM.out]; omega) hnr)
        clear hnr
        go_wp2_with fail
        refine H3.out.mono ?_
        rintro e w4 ⟨rfl, rfl⟩
        have HST : Hid (∃ (a : Option Addr) (c : Nat) (us : List (List UInt8)), Value.slice none 0 0 = .slice a us.length c ∧ us.length ≤ 255 ∧ Hid (w3.ownsRow w3.heap.size 9 1 (.slice a us.length c) us.length (sv us)) ∧ Hid (∀ u ∈ us, NotTag N u) ∧ Hid (Below w3.heap.size w3 w3)) :=
          ⟨none, 0, [], rfl, by simp, World.ownsRow_nil _ _ _ _, fun u hu => by simp at hu, Below.refl _ _⟩
        clear H3
        go_wp2
      case' neg =>
        have hrec2 : recOK (O : Int) old := ⟨by omega, by omega, by rw [← HM.out]; omega, by rw [← HM.out]; omega⟩
        have H3 := Lib.hid (pack_yes O old w3 hrec2)
        clear hrec2
        go_wp2_with fail
        refine H3.out.mono ?_
        rintro e w4 ⟨g2, rfl, hb4, hown⟩
        have HST : Hid (∃ (a : Option Addr) (c : Nat) (us : List (List UInt8)), Value.slice (some ⟨g2, 0, none⟩) (cnt old.length) (cnt old.length) = .slice a us.length c ∧ us.length ≤ 255 ∧ Hid (w4.ownsRow w3.heap.size 9 1 (.slice a us.length c) us.length (sv us)) ∧ Hid (∀ u ∈ us, NotTag N u) ∧ Hid (Below w3.heap.size w3 w4)) := by
          refine ⟨some ⟨g2, 0, none⟩, cnt old.length, blks O old, by rw [blks_length], by rw [blks_length, ← HM.out]; unfold cnt; omega, by rw [blks_length]; exact hown, fun u hu => ?_, hb4⟩
          unfold blks at hu
          obtain ⟨i, _, rfl⟩ := List.mem_map.1 hu
          exact notTag_blk (by omega) (by omega) HNE.out (by rw [dat_length]; omega)
        clear H3 hb4 hown
        go_wp2
      all_goals
        go_loopg [15] 300 (fun gk o wr => ∃ (a : Option Addr) (c : Nat) (us : List (List UInt8)), o = .slice a us.length c ∧ us.length ≤ 255 ∧ 255 - us.length ≤ gk ∧ Hid (wr.ownsRow w3.heap.size 9 1 (.slice a us.length c) us.length (sv us)) ∧ Hid (∀ u ∈ us, NotTag N u) ∧ Hid (Below w3.heap.size w3 wr))
        case atStart =>
          obtain ⟨a, c, us, h1, h2, h3, h4, h5⟩ := HST.out
          exact ⟨a, c, us, h1, h2, by omega, h3, h4, h5⟩
        case round =>
          obtain ⟨a, c, us, rfl, hus, hgk, HOU, HNT, HBU⟩ := hrel
          clear HST
          obtain ⟨j, hj⟩ : ∃ j, j = us.length := ⟨_, rfl⟩
          rw [← hj] at hus hgk HOU ⊢
          have HJ := Lib.hid hj
          have hB : w3.heap.size ≤ wr.heap.size := HBU.out.size
          obtain ⟨B, hBB⟩ : ∃ B, B = w3.heap.size := ⟨_, rfl⟩
          have HBE := Lib.hid hBB
          rw [← hBB] at HOU hB
          clear hj hBB
          by_cases hlt : j < q
          · have H5 := Lib.hid (rep64_any wr)
            go_wp2_with fail
            refine H5.out.mono ?_
            rintro e w5 ⟨rfl, hb5⟩
            have HO5 := Lib.hid (own_since HOU.out hb5)
            have HB5 := Lib.hid (HBU.out.trans (hb5.mono HBU.out.size))
            have hB5 : B ≤ w5.heap.size := Nat.le_trans hB hb5.size
            clear hb5 H5
            go_wp2_with (at_builtin; refine wpList_append_one rfl (.tmp 78) (.tmp 80) 22 rfl B 9 (.string ⟨#[]⟩) 16 Try.underlying22 infoStr rfl w5 (.string (st zero64)) rfl (.slice a j c) j (sv us) rfl rfl HO5.out hB5 (by unfold maxLen; omega) (by omega) ?_)
            intro v1 w6 hown1 hbel1
            obtain ⟨a1, c1, rfl⟩ := own_slice hown1
            have HO6 : Hid (w6.ownsRow B 9 1 (.slice a1 (j + 1) c1) (j + 1) (sv (us ++ [zero64]))) := by
              show World.ownsRow _ _ _ _ _ _ _
              have : sv (us ++ [zero64]) = sv us ++ [.string (st zero64)] := by simp [sv]
              rw [this]; exact hown1
            have HB6 : Hid (Below w3.heap.size w3 w6) := by rw [HBE.out] at hbel1; exact HB5.out.trans hbel1
            have HL1 : Hid ((us ++ [zero64]).length = j + 1) := by show _ = _; rw [List.length_append, ← HJ.out]; rfl
            clear hown1 hbel1
            go_wp2
            go_roundg (255 - (j + 1))
            case measure => omega
            case rel =>
              refine ⟨a1, c1, us ++ [zero64], by rw [HL1.out], by rw [HL1.out]; omega, by rw [HL1.out]; omega, ?_, ?_, HB6.out⟩
              · rw [HL1.out, ← HBE.out]; exact HO6.out
              · intro u hu
                rcases List.mem_append.1 hu with hu | hu
                · exact HNT.out u hu
                · rw [List.mem_singleton] at hu; rw [hu]; exact notTag_zero (by omega)
          · obtain ⟨k, hk⟩ : ∃ k, k = W % q := ⟨_, rfl⟩
            have hkq : k < q := by rw [hk]; exact Nat.mod_lt _ (by omega)
            have ek : (W : Int) % (q : Int) = (k : Int) := by rw [hk]; exact (Int.natCast_emod W q).symm
            obtain ⟨cut, hcut⟩ : ∃ cut, cut = A % 65 := ⟨_, rfl⟩
            have hc64 : cut ≤ 64 := by omega
            have ec : (A : Int) % 65 = (cut : Int) := by omega
            have hkc : k < cnt p.length := by rw [← HQ.out]; exact hkq
            obtain ⟨u, hu⟩ : ∃ u, us[k]? = some u := ⟨_, List.getElem?_eq_getElem (by rw [← HJ.out]; omega)⟩
            have hnt := HNT.out u (List.mem_of_getElem? hu)
            have HNTU := Lib.hid hnt
            obtain ⟨x, hx⟩ : ∃ x, x = blkAt N p k := ⟨_, rfl⟩
            have hxl : x.length = 64 := by rw [hx]; exact blkAt_length _ _ _
            have hgx : (blks N p)[k]? = some x := by rw [hx]; exact blks_get N p k hkc
            have hul := hnt.1
            have hsx : (st x).size = 64 := by rw [st_size, hxl]
            have hsu : (st u).size = 64 := by rw [st_size, hul]
            have hx1 : (st x).extract 0 cut = st (x.take cut) := by rw [st_extract]; rfl
            have hx2 : (st u).extract cut 64 = st (u.drop cut) := by
              rw [st_extract, List.take_of_length_le (by rw [List.length_drop]; omega)]
            have hx3 : st (x.take cut) ++ st (u.drop cut) = st (torn x u cut) := by rw [st_append]; rfl
            have hs1 : (st (x.take cut)).size ≤ 64 := by rw [st_size, List.length_take]; omega
            have hs2 : (st (u.drop cut)).size ≤ 64 := by rw [st_size, List.length_drop]; omega
            have hbl : (blks N p).length = q := by rw [blks_length, HQ.out]
            have HBL := Lib.hid hbl
            have HX := Lib.hid hx
            have HKC := Lib.hid hkc
            have HRU := RowS.of_own HOU.out
            obtain ⟨bu, ou, rfl, hcu⟩ := HRU (by rw [← HJ.out]; omega)
            have cu := hcu k u hu
            have hHRU := RowS.of_own HOU.out
            have H6 := clone_any g 0 q q (blks N p) wr (HRL.out.keep HBU.out) hbl hq1 (by omega)
            have H6 := Lib.hid H6
            have tq : ((q : Int) == 0) = false := by rw [beq_eq_false_iff_ne]; omega
            obtain ⟨t, ht⟩ : ∃ t, t = torn x u cut := ⟨_, rfl⟩
            have HTT := Lib.hid ht
            rw [← ht] at hx3
            have htl : t.length = 64 := by rw [ht]; exact torn_length hxl hul hc64
            have HGX := Lib.hid hgx
            clear hgk hk hcut hu hnt hx hkc hcu HRU hHRU hul hxl hbl ht hgx
            go_wp2_with fail
            refine H6.out.mono ?_
            rintro e w5 ⟨gt, ct, rfl, hown, hb5⟩
            have HB5 := Lib.hid (HBU.out.trans (hb5.mono HBU.out.size))
            have cu5 : w5.cell? ⟨bu, ou + k, none⟩ = some (.string (st u)) := by rw [hb5.cell (p := ⟨bu, ou + k, none⟩) (World.block_lt_of_cell? wr _ cu)]; exact cu
            have cl5 : w5.cell? ⟨g, k, none⟩ = some (.string (st x)) := by
              obtain ⟨b1, o1, e1, hc1⟩ := (HRL.out.keep HB5.out) (by rw [HBL.out]; omega)
              simp only [Option.some.injEq, Addr.mk.injEq, and_true] at e1
              obtain ⟨rfl, rfl⟩ := e1
              have := hc1 k x HGX.out
              rwa [Nat.zero_add] at this
            have ct5 : w5.cell? ⟨gt, k, none⟩ = some (.string (st x)) := by
              obtain ⟨b1, o1, e1, hc1⟩ := (RowS.of_own hown) (by rw [HBL.out]; omega)
              simp only [Option.some.injEq, Addr.mk.injEq, and_true] at e1
              obtain ⟨rfl, rfl⟩ := e1
              have := hc1 k x HGX.out
              rwa [Nat.zero_add] at this
            have ft5 := hown.frozenAt k
            have hst := hown.stored k (.string (st t))
            have hsv : (sv (blks N p)).set k (.string (st t)) = sv ((blks N p).set k t) := by unfold sv; rw [List.map_set]
            rw [hsv] at hst
            have HST2 := Lib.hid hst.1
            have HB6 := Lib.hid (HBU.out.trans ((hb5.grown hst.2 hb5.size (fun b hb => (hown.lt b hb).1)).mono HBU.out.size))
            clear H6 hst hsv cu
            go_wp2_with fail
            go_region
            have HST3 : Hid ((w5.setCell ⟨gt, k, none⟩ (.string (st t))).drew.ownsRow wr.heap.size 9 1 (.slice (some ⟨gt, 0, none⟩) q ct) q (sv ((blks N p).set k t))) := HST2.out
            have HB7 : Hid (Below w3.heap.size w3 (w5.setCell ⟨gt, k, none⟩ (.string (st t))).drew) := HB6.out.drew
            have hsl : ((blks N p).set k t).length = q := by rw [List.length_set, HBL.out]
            have HSL := Lib.hid hsl
            have hgt : ((blks N p).set k t)[k]? = some t := by rw [List.getElem?_set_self (by rw [HBL.out]; exact hkq)]
            have HGT := Lib.hid hgt
            clear hsl hgt
            generalize World.drew _ = w6 at HST3 HB7 ⊢
            clear HST2 HB6 ft5 ct5 cl5 cu5 hown hb5
            have HRT := Lib.hid (RowS.of_own HST3.out)
            have HRL6 := Lib.hid (HRL.out.keep HB7.out)
            have H7 := unpack_any N (some ⟨gt, 0, none⟩) ct ((blks N p).set k t) w6 HRT.out (by omega) (by rw [HSL.out]; omega) (by rw [HSL.out]; omega)
            rw [HSL.out] at H7
            have H7 := Lib.hid H7
            have HW6 := Lib.hid (HB3.out.trans (HB7.out.mono HB3.out.size))
            clear HST3
            go_wp2_with fail
            refine H7.out.mono ?_
            rintro e w7 ⟨hu, hb7⟩
            have HW7 := Lib.hid (HW6.out.trans (hb7.mono HW6.out.size))
            have ct7 : w7.cell? ⟨gt, k, none⟩ = some (.string (st t)) := by
              obtain ⟨b1, o1, e1, hc1⟩ := (HRT.out.keep hb7) (by rw [HSL.out]; omega)
              simp only [Option.some.injEq, Addr.mk.injEq, and_true] at e1
              obtain ⟨rfl, rfl⟩ := e1
              have := hc1 k t HGT.out
              rwa [Nat.zero_add] at this
            have cl7 : w7.cell? ⟨g, k, none⟩ = some (.string (st x)) := by
              obtain ⟨b1, o1, e1, hc1⟩ := (HRL6.out.keep hb7) (by rw [HBL.out]; omega)
              simp only [Option.some.injEq, Addr.mk.injEq, and_true] at e1
              obtain ⟨rfl, rfl⟩ := e1
              have := hc1 k x HGX.out
              rwa [Nat.zero_add] at this
            have HU := Lib.hid hu
            clear hu hb7 H7
            by_cases htx : t = x
            · have hee : e = .returned (.tuple #[.string (st p), .int .i64 (q : Nat), .int .i64 0]) := by
                obtain ⟨ds, hd, hf, hl⟩ := blks_begin N p [] HREC.out
                rw [List.append_nil] at hd
                have hu := HU.out
                rw [set_same HKC.out (by rw [htx, HX.out])] at hu
                rcases hu with ⟨ds', hd', he⟩ | ⟨hno, _⟩
                · have := hd.inj hd'
                  subst this
                  rw [he, hf, hl, ← HQ.out]
                · exact absurd hd (hno ds)
              subst hee
              subst htx
              go_wp2
              go_quiet (fail)
              go_wp2
              go_ret
              exact ⟨rfl, below_drewN HW7.out _⟩
            · have hee : e = .returned (.tuple #[.string (st []), .int .i64 0, .int .i64 5]) := by
                have hno := torn_none (number := N) (u := u) (cut := cut) HREC.out HKC.out HNTU.out (by rw [← HX.out, ← HTT.out]; exact htx)
                rw [← HX.out, ← HTT.out] at hno
                rcases HU.out with ⟨ds', hd', _⟩ | ⟨_, he⟩
                · exact absurd hd' (hno ds')
                · exact he
              subst hee
              have hneb := st_neb htx
              clear htx
              go_wp2
              go_quiet (fail)
              go_wp2
              go_ret
              exact ⟨rfl, below_drewN HW7.out _⟩
  · have H1 := HL w1
    by_cases h1 : 2000 < n
    · clear hsm
      go_wp2_with fail
      refine H1.out.mono ?_
      rintro e w2 ⟨rfl, hb2⟩
      have HB2 := Lib.hid (HBq.out.trans (hb2.mono HBq.out.size))
      clear hb2 H1
      go_wp2_with fail
      refine (HL _).out.mono ?_
      rintro e w3 ⟨rfl, hb3⟩
      have HB3 := Lib.hid (HB2.out.trans (hb3.mono HB2.out.size))
      clear hb3
      go_wp2
      go_ret
      exact ⟨rfl, HB3.out⟩
    · by_cases h2 : 4000 < m
      · clear hsm
        go_wp2_with fail
        refine H1.out.mono ?_
        rintro e w2 ⟨rfl, hb2⟩
        have HB2 := Lib.hid (HBq.out.trans (hb2.mono HBq.out.size))
        clear hb2 H1
        go_wp2_with fail
        refine (HL _).out.mono ?_
        rintro e w3 ⟨rfl, hb3⟩
        have HB3 := Lib.hid (HB2.out.trans (hb3.mono HB2.out.size))
        clear hb3
        go_wp2
        go_ret
        exact ⟨rfl, HB3.out⟩
      · have hNO : N = O := Classical.byContradiction fun h => hsm ⟨by omega, by omega, h⟩
        subst hNO
        clear hsm
        go_wp2_with fail
        refine H1.out.mono ?_
        rintro e w2 ⟨rfl, hb2⟩
        have HB2 := Lib.hid (HBq.out.trans (hb2.mono HBq.out.size))
        clear hb2 H1
        go_wp2_with fail
        refine (HL _).out.mono ?_
        rintro e w3 ⟨rfl, hb3⟩
        have HB3 := Lib.hid (HB2.out.trans (hb3.mono HB2.out.size))
        clear hb3
        go_wp2
        go_ret
        exact ⟨rfl, HB3.out⟩
end Go.Proofs.Ytaflicoodlmolaa
