/-
  The walk of souklaw07.BookPosts.
-/
import Derived.Test.YteclhcjfnmkkjaaBkZ
namespace Go.Proofs.Yteclhcjfnmkkjaa
open Go.RowKit Go.Lib

set_option maxHeartbeats 16000000 in
set_option maxRecDepth 100000 in
theorem posts_walk (a0 : Option Addr) (c0 : Nat) (ls : List (List Ln)) (w : World) (hr : RowSS w a0 ls) (hl : ls.length ≤ 1048576) (ht : totL ls ≤ 1048576) (hok : ∀ l ∈ ls, OkLs l) :
    Calls Try.prog 3 #[.slice a0 ls.length c0] w fun e w' => e = .returned (.bool true) ∧ Below w.heap.size w w' := by
  have hlen : ∀ l ∈ ls, l.length ≤ 1048576 := fun l h => Nat.le_trans (by
    unfold totL at ht
    have : l.length ≤ (ls.map List.length).sum := by
      clear ht hl hr hok
      induction ls with
      | nil => cases h
      | cons x r ih =>
        rw [List.map_cons, List.sum_cons]
        rcases List.mem_cons.1 h with e | h
        · rw [e]; omega
        · have := ih h; omega
    exact this) ht
  have H0 := Lib.hid (lives7_any)
  have HSM : Hid (∀ W, Below w.heap.size w W → Calls Try.prog 6 #[.slice a0 ls.length c0] W fun e w' => (∃ sb : Bool, e = .returned (.bool sb)) ∧ Below W.heap.size W w') := fun W hb => small7_any a0 c0 ls W (hr.keep hb) (by omega) (fun l h => by have := hlen l h; omega)
  obtain ⟨n, hn⟩ : ∃ n, n = ls.length := ⟨_, rfl⟩
  have HN := Lib.hid hn
  have HR := Lib.hid hr
  have HT := Lib.hid ht
  have HOK := Lib.hid hok
  have HLN := Lib.hid hlen
  rw [← hn] at hl HSM ⊢
  clear hn hr ht hok hlen
  go_enter Try.func3, Try.ntmps3
  go_wp2_with fail
  with_reducible refine (H0.out _).mono ?_
  rintro e w1 ⟨rfl, hb⟩
  have HB1 := Lib.hid hb
  clear hb
  go_wp2_with fail
  with_reducible refine (HSM.out w1 HB1.out).mono ?_
  rintro e w2 ⟨⟨sb, rfl⟩, hb⟩
  have HB2 : Hid (Below w.heap.size w w2) := below_on HB1.out HB1.out.size hb
  clear hb HSM HB1
  cases sb with
  | false =>
    go_wp2_with fail
    with_reducible refine (H0.out _).mono ?_
    rintro e w3 ⟨rfl, hb⟩
    have HB3 : Hid (Below w.heap.size w w3) := below_on HB2.out HB2.out.size hb
    clear hb
    go_wp2
    go_ret
    exact ⟨rfl, HB3.out⟩
  | true =>
    have H1 := Lib.hid (new_any w2)
    clear H0
    go_wp2_with fail
    with_reducible refine H1.out.mono ?_
    rintro e w3 ⟨b, rfl, ha⟩
    have HA3 : Hid (After [] w w3 (Sep (PBk b [] 0) (RwL none []) w3)) := by
      have h1 : After [] w w3 (PBk b [] 0 w3) := by
        obtain ⟨fp', h1, h2, h3⟩ := ha
        exact ⟨fp', h1, (Stp.of_below HB2.out).trans h2 (fun _ h => .inl h), fun k hk => by
          rcases h3 k hk with h | h
          · exact .inl h
          · exact .inr (Nat.le_trans HB2.out.size h)⟩
      exact h1.fresh (PBk.stays _ _ _) (Below.refl _ _) (RwL.of (fun h => by simp at h)) (fun k hk => by simp at hk)
    clear ha H1 HB2
    go_wp2
    go_loopg [4, 6, 7, 8, 9, 10, 11, 13, 25, 70, 71, 72] n (fun gk ms _ _ _ _ _ _ _ i _ _ _ wr => ∃ (k : Nat) (am : Option Addr) (cm : Nat), k ≤ n ∧ i = .int .i64 k ∧ ms = .slice am (mAt ls k).length cm ∧ n - k ≤ gk ∧ Hid (After [] w wr (Sep (PBk b (mAt ls k) (totL (ls.take k))) (RwL am (mAt ls k)) wr)))
    case atStart => exact ⟨0, none, 0, Nat.zero_le _, rfl, rfl, by omega, HA3.out⟩
    case round =>
      clear HA3
      obtain ⟨k, am, cm, hk, rfl, rfl, hgk, HA⟩ := hrel
      by_cases hlt : k < n
      · obtain ⟨l, hx⟩ : ∃ l, ls[k]? = some l := ⟨_, List.getElem?_eq_getElem (by rw [← HN.out]; exact hlt)⟩
        have hgd := good_at ls k
        have hml := len_at ls k
        have hms := mAt_succ hx
        have hts := totL_succ hx
        have htl : totL (ls.take (k + 1)) ≤ 1048576 := Nat.le_trans (totL_take ls _) HT.out
        have HX := Lib.hid hx
        generalize mAt ls k = m at HA hgd hml hms ⊢
        generalize totL (ls.take k) = K at HA hml hts
        rw [hts] at htl
        have HGD := Lib.hid hgd
        have HMS := Lib.hid hms
        have HTS := Lib.hid hts
        obtain ⟨b0, off, ea, hc⟩ := HR.out (by rw [← HN.out]; omega)
        subst ea
        obtain ⟨ai, ci, f0w, hrow⟩ := hc k l hx
        have f0 : wr.cell? ⟨b0, off + k, none⟩ = some (.slice ai l.length ci) := by rw [HA.out.bel.cell (p := ⟨b0, off + k, none⟩) (World.block_lt_of_cell? w _ f0w)]; exact f0w
        have HRW := Lib.hid hrow
        clear f0w
        have HLK : Hid (OkLs l) := HOK.out l (List.mem_of_getElem? hx)
        have hkz : (0 : Int) ≤ (k : Int) := by omega
        have hkn : (k : Int) < (n : Int) := by omega
        obtain ⟨q, hq⟩ : ∃ q, q = m.length := ⟨_, rfl⟩
        have HQ := Lib.hid hq
        obtain ⟨r, hrr⟩ : ∃ r, r = l.length := ⟨_, rfl⟩
        have HRL := Lib.hid hrr
        have hq2 : q ≤ 1048576 := by omega
        have hr2 : r ≤ 1048576 := by omega
        rw [← hq]
        rw [← hrr] at f0
        -- the clone
        have H1 := Lib.hid (HA.out.left.know fun fp hp => clone_any b m K fp wr hp)
        have HKB : Hid (K + l.length ≤ 1048576) := htl
        clear hx hgd hml hms hts htl hc hrow hq hrr
        go_wp2_with fail
        with_reducible refine H1.out.mono ?_
        rintro e w4 ⟨cb, rfl, hb, fpc, hpc, hfc⟩
        have HA4 := Lib.hid (HA.out.fresh (Stays.sep (PBk.stays _ _ _) (RwL.stays _ _)) hb hpc hfc)
        have HRW4 := Lib.hid (HRW.out.keep HA4.out.bel)
        have H2 := Lib.hid (HA4.out.call1 (f := 9) (args := #[.pointer (some ⟨b, 0, none⟩), .slice ai l.length ci]) (p := Try.prog) fun fp hp => Sep.callL1 (PBk.stays _ _ _) hp fun f hf => Sep.callL1 (RwL.stays _ _) hf fun f2 hf2 => post_any b m K ai ci l f2 w4 hf2 HRW4.out (by rw [← HRL.out]; omega) HLK.out (by have := HKB.out; omega))
        rw [← HRL.out] at H2
        clear hb hpc hfc H1 HA f0
        go_wp2_with fail
        with_reducible refine H2.out.mono ?_
        rintro e w5 ⟨rfl, ha⟩
        have HA5 := Lib.hid ha
        have HRW5 : Hid (RowL w5 ai l) := HRW.out.keep ha.bel
        have H3 := of_any ai ci l w5 HRW5.out (by rw [← HRL.out]; omega)
        rw [← HRL.out] at H3
        have H3 := Lib.hid H3
        clear ha H2 HA4 HRW4
        go_wp2_with fail
        with_reducible refine H3.out.mono ?_
        rintro e w6 ⟨a2, c2, rfl, hrow2, _, hb⟩
        have HA6 := Lib.hid (HA5.out.since (Stays.sep (Stays.sep (PBk.stays _ _ _) (RwL.stays _ _)) (PBk.stays _ _ _)) hb)
        have H4 := rPost_any am cm m a2 c2 l w6 (HA6.out.left.right.know fun _ hp => hp.1) hrow2 (by rw [← HQ.out]; omega) (by rw [← HRL.out]; omega) HLK.out HGD.out.srt HGD.out.nz HGD.out.amt
        rw [← HRL.out, ← HQ.out] at H4
        have H4 := Lib.hid H4
        rw [← HRL.out]
        clear hrow2 hb H3 HA5 HRW5
        go_wp2_with fail
        with_reducible refine H4.out.mono ?_
        rintro e w7 ⟨a3, c3, rfl, hrow3, hfr, hb⟩
        have HP7 := Lib.hid (both_posted HA6.out hb hrow3 hfr)
        have HC7 := Lib.hid (HA6.out.right.since (PBk.stays _ _ _) hb)
        have HM7 : Hid (RowL w7 am m) := (HA6.out.left.right.know fun _ hp => hp.1).keep hb
        have hl2 := postL_len m l
        have hK2 : K + l.length ≤ 1048576 := HKB.out
        clear H4 HA6 hrow3 hfr hb
        generalize hpl : (postL m l).1 = m2 at HP7 hl2 HMS ⊢
        generalize (postL m l).2 = er
        rw [← HRL.out] at HTS hK2
        generalize hK2e : K + r = K2 at HP7 hK2 HTS
        obtain ⟨q2, hq2e⟩ : ∃ q2, q2 = m2.length := ⟨_, rfl⟩
        have HQ2 := Lib.hid hq2e
        rw [← hq2e] at hl2 ⊢
        have HQB : Hid (q2 ≤ 2097152) := by show _ ≤ _; rw [← HQ.out, ← HRL.out] at hl2; omega
        have HKQ : Hid (K ≤ 1048576 ∧ K2 ≤ 1048576) := ⟨by omega, hK2⟩
        clear hpl hl2 hK2 hK2e hq2e HKB
        -- All of the book, as the document has it
        have H5 := HP7.out.left.know fun fp hp => all_any b m2 K2 fp w7 hp (by have := HKQ.out; omega)
        rw [← HQ2.out] at H5
        have H5 := Lib.hid H5
        go_wp2_with fail
        with_reducible refine H5.out.mono ?_
        rintro e w8 ⟨g1, p1, rfl, hrow, hb⟩
        have HP8 := Lib.hid (HP7.out.since (Stays.sep (PBk.stays _ _ _) (RwL.stays _ _)) hb)
        have HC8 := Lib.hid (HC7.out.since (PBk.stays _ _ _) hb)
        have HM8 := Lib.hid (HM7.out.keep hb)
        have H6 := of_any (some ⟨g1, 0, none⟩) p1 m2 w8 hrow (by rw [← HQ2.out]; have := HQB.out; omega)
        rw [← HQ2.out] at H6
        have H6 := Lib.hid H6
        clear H5 hrow hb HP7 HC7 HM7
        go_wp2_with fail
        with_reducible refine H6.out.mono ?_
        rintro e w9 ⟨a4, c4, rfl, hrow4, _, hb⟩
        have HP9 := Lib.hid (HP8.out.since (Stays.sep (PBk.stays _ _ _) (RwL.stays _ _)) hb)
        have HC9 := Lib.hid (HC8.out.since (PBk.stays _ _ _) hb)
        have HM9 := Lib.hid (HM8.out.keep hb)
        have H7 := Lib.hid (eqBook_same a4 a3 c4 c3 m2 q2 w9 HQ2.out hrow4 (HP9.out.right.know fun _ hp => hp.1) (by have := HQB.out; omega))
        rw [← HQ2.out]
        clear H6 hrow4 hb HP8 HC8 HM8
        go_wp2_with fail
        with_reducible refine H7.out.mono ?_
        rintro e w10 ⟨rfl, hb⟩
        have HP10 := Lib.hid (HP9.out.since (Stays.sep (PBk.stays _ _ _) (RwL.stays _ _)) hb)
        have HC10 := Lib.hid (HC9.out.since (PBk.stays _ _ _) hb)
        have HM10 := Lib.hid (HM9.out.keep hb)
        have H8 := HC10.out.know fun fp hp => all_any cb m K fp w10 hp (by have := HKQ.out; omega)
        rw [← HQ.out] at H8
        have H8 := Lib.hid H8
        clear H7 hb HP9 HC9 HM9
        go_wp2_with fail
        with_reducible refine H8.out.mono ?_
        rintro e w11 ⟨g2, p2, rfl, _, hb⟩
        have HP11 := Lib.hid (HP10.out.since (Stays.sep (PBk.stays _ _ _) (RwL.stays _ _)) hb)
        have HC11 := Lib.hid (HC10.out.since (PBk.stays _ _ _) hb)
        have HM11 := Lib.hid (HM10.out.keep hb)
        have H9 := HC11.out.know fun fp hp => all_any cb m K fp w11 hp (by have := HKQ.out; omega)
        rw [← HQ.out] at H9
        have H9 := Lib.hid H9
        clear H8 hb HP10 HC10 HM10
        go_wp2_with fail
        with_reducible refine H9.out.mono ?_
        rintro e w12 ⟨g3, p3, rfl, hrow, hb⟩
        have HP12 := Lib.hid (HP11.out.since (Stays.sep (PBk.stays _ _ _) (RwL.stays _ _)) hb)
        have HM12 := Lib.hid (HM11.out.keep hb)
        have H10 := of_any (some ⟨g3, 0, none⟩) p3 m w12 hrow (by rw [← HQ.out]; omega)
        rw [← HQ.out] at H10
        have H10 := Lib.hid H10
        clear H9 hrow hb HP11 HC11 HM11
        go_wp2_with fail
        with_reducible refine H10.out.mono ?_
        rintro e w13 ⟨a6, c6, rfl, hrow6, _, hb⟩
        have HP13 := Lib.hid (HP12.out.since (Stays.sep (PBk.stays _ _ _) (RwL.stays _ _)) hb)
        have H11 := Lib.hid (eqBook_same a6 am c6 cm m q w13 HQ.out hrow6 (HM12.out.keep hb) (by omega))
        rw [← HQ.out]
        clear H10 hrow6 hb HP12 HM12
        go_wp2_with fail
        with_reducible refine H11.out.mono ?_
        rintro e w14 ⟨rfl, hb⟩
        have HP14 := Lib.hid (HP13.out.since (Stays.sep (PBk.stays _ _ _) (RwL.stays _ _)) hb)
        clear H11 hb HP13
        go_wp2
        go_loopg [13, 72] r (fun gj _ i wr => ∃ j : Nat, j ≤ r ∧ i = .int .i64 j ∧ r - j ≤ gj ∧ Hid (After [] w wr (Sep (PBk b m2 K2) (RwL a3 m2) wr)))
        case atStart => exact ⟨0, Nat.zero_le _, rfl, by omega, HP14.out⟩
        case round =>
          clear HP14
          obtain ⟨j, hj, rfl, hgj, HP⟩ := hrel
          by_cases hjt : j < r
          · obtain ⟨y, hy⟩ : ∃ y, l[j]? = some y := ⟨_, List.getElem?_eq_getElem (by rw [← HRL.out]; exact hjt)⟩
            obtain ⟨b2, off2, rfl⟩ := rowL_form HRW.out (by rw [← HRL.out]; omega)
            obtain ⟨f0, f1, f2, f3⟩ := rowL_cells (HRW.out.keep HP.out.bel) hy
            have hjz : (0 : Int) ≤ (j : Int) := by omega
            have hjr : (j : Int) < (r : Int) := by omega
            have HYO : Hid (Ok1 y) := HLK.out y (List.mem_of_getElem? hy)
            have HSb : Hid (Bx4 wr.heap.size y (wr.alloc (.cells #[.string (st y.1.1), .string (st y.1.2.1), .string (st y.1.2.2), .int .i64 y.2] 42)).drew) := Bx4.of (t := 42) (Blk.new wr _ _)
            have HPb := Lib.hid (HP.out.since (Stays.sep (PBk.stays _ _ _) (RwL.stays _ _)) (((Below.refl wr.heap.size wr).alloc (Nat.le_refl _) (.cells #[.string (st y.1.1), .string (st y.1.2.1), .string (st y.1.2.2), .int .i64 y.2] 42)).drew))
            clear hy
            go_wp2_with fail
            clear f0 f1 f2 f3 HP
            refine wp_region_E (Bx4 wr.heap.size y) [] (by kernel_rfl) ?_
            generalize (wr.alloc (.cells #[.string (st y.1.1), .string (st y.1.2.1), .string (st y.1.2.2), .int .i64 y.2] 42)).drew = wb at HSb HPb ⊢
            obtain ⟨vv, hvv⟩ : ∃ vv, vv = rGet m2 y.1 := ⟨_, rfl⟩
            obtain ⟨rb, hrb⟩ : ∃ rb, rb = rightA y.1 := ⟨_, rfl⟩
            have HG1 : Hid (Calls Try.prog 14 #[.pointer (some ⟨b, 0, none⟩), .string (st y.1.1), .string (st y.1.2.1), .string (st y.1.2.2)] wb fun e w' => e = .returned (.int .i64 vv) ∧ wb = w') := by
              rw [hvv]; exact HPb.out.left.know fun fp hp => get_any b m2 K2 y.1 fp wb hp (ok1_A HYO.out)
            have HG2 : Hid (Calls Try.prog 15 #[.slice a3 q2 c3, .string (st y.1.1), .string (st y.1.2.1), .string (st y.1.2.2)] wb fun e w' => e = .returned (.int .i64 vv) ∧ wb = w') := by
              have h := rGet_any a3 c3 m2 y.1 wb (HPb.out.right.know fun _ hp => hp.1) (by rw [← HQ2.out]; have := HQB.out; omega)
              rw [← HQ2.out, ← hvv] at h
              exact h
            have HR1 : Hid (∀ W, Calls Try.prog 16 #[.agg #[.string (st y.1.1), .string (st y.1.2.1), .string (st y.1.2.2)]] W fun e w' => e = .returned (.bool rb) ∧ Below W.heap.size W w') := by rw [hrb]; exact bkRight_any y.1
            have HR2 : Hid (∀ W, Calls Try.prog 17 #[.agg #[.string (st y.1.1), .string (st y.1.2.1), .string (st y.1.2.2), .int .i64 0]] W fun e w' => e = .returned (.bool rb) ∧ Below W.heap.size W w') := by rw [hrb]; exact rRight_any y.1 0
            have HWS : Hid (wr.heap.size < wb.heap.size) := World.block_lt_of_cell? wb (⟨wr.heap.size, 0, none⟩ : Addr) HSb.out.k
            have HBK : Hid (∀ W, Below wb.heap.size wb W → Bx4 wr.heap.size y W) := fun W hb => by
              have h := HSb.out
              exact ⟨by rw [hb.cell (p := ⟨wr.heap.size, 0, none⟩) HWS.out]; exact h.k, by rw [hb.cell (p := ⟨wr.heap.size, 1, none⟩) HWS.out]; exact h.q, by rw [hb.cell (p := ⟨wr.heap.size, 2, none⟩) HWS.out]; exact h.c, by rw [hb.cell (p := ⟨wr.heap.size, 3, none⟩) HWS.out]; exact h.n⟩
            clear hvv hrb
            refine wpAnyE_take 0 (some 76) ?_ rfl rfl (by kernel_rfl) (by kernel_rfl) (by kernel_rfl) (by kernel_rfl) (fun _ _ _ h => h) (Or.inl ⟨by rfl, ?_⟩) HSb.out ?_
            rotate_left
            focus (intro wS hSw; have hS0 := hSw.k; have hS1 := hSw.q; have hS2 := hSw.c; have hS3 := hSw.n; clear hSw; go_simp; try (with_reducible rfl))
            simp only [Act.put, List.setIfInBounds_toArray, List.set_cons_zero, List.set_cons_succ]
            refine wpAnyE_take 1 (some 77) ?_ rfl rfl (by kernel_rfl) (by kernel_rfl) (by kernel_rfl) (by kernel_rfl) (fun _ _ _ h => h) (Or.inl ⟨by rfl, ?_⟩) HSb.out ?_
            rotate_left
            focus (intro wS hSw; have hS0 := hSw.k; have hS1 := hSw.q; have hS2 := hSw.c; have hS3 := hSw.n; clear hSw; go_simp; try (with_reducible rfl))
            simp only [Act.put, List.setIfInBounds_toArray, List.set_cons_zero, List.set_cons_succ]
            refine wpAnyE_take 2 (some 78) ?_ rfl rfl (by kernel_rfl) (by kernel_rfl) (by kernel_rfl) (by kernel_rfl) (fun _ _ _ h => h) (Or.inl ⟨by rfl, ?_⟩) HSb.out ?_
            rotate_left
            focus (intro wS hSw; have hS0 := hSw.k; have hS1 := hSw.q; have hS2 := hSw.c; have hS3 := hSw.n; clear hSw; go_simp; try (with_reducible rfl))
            simp only [Act.put, List.setIfInBounds_toArray, List.set_cons_zero, List.set_cons_succ]
            refine wpAnyE_take 3 (some 79) ?_ rfl rfl (by kernel_rfl) (by kernel_rfl) (by kernel_rfl) (by kernel_rfl) (fun _ _ _ h => h) (Or.inl ⟨by rfl, ?_⟩) HSb.out ?_
            rotate_left
            focus (intro wS hSw; have hS0 := hSw.k; have hS1 := hSw.q; have hS2 := hSw.c; have hS3 := hSw.n; clear hSw; go_simp; try (with_reducible rfl))
            simp only [Act.put, List.setIfInBounds_toArray, List.set_cons_zero, List.set_cons_succ]
            refine wpAnyE_take 4 (some 80) ?_ rfl rfl (by kernel_rfl) (by kernel_rfl) (by kernel_rfl) (by kernel_rfl) (fun _ _ _ h => h) (Or.inl ⟨by rfl, ?_⟩) HSb.out ?_
            rotate_left
            focus (intro wS hSw; have hS0 := hSw.k; have hS1 := hSw.q; have hS2 := hSw.c; have hS3 := hSw.n; clear hSw; go_simp; try (with_reducible rfl))
            simp only [Act.put, List.setIfInBounds_toArray, List.set_cons_zero, List.set_cons_succ]
            refine wpAnyE_take 5 (some 81) ?_ rfl rfl (by kernel_rfl) (by kernel_rfl) (by kernel_rfl) (by kernel_rfl) (fun _ _ _ h => h) (Or.inl ⟨by rfl, ?_⟩) HSb.out ?_
            rotate_left
            focus (intro wS hSw; have hS0 := hSw.k; have hS1 := hSw.q; have hS2 := hSw.c; have hS3 := hSw.n; clear hSw; go_simp; try (with_reducible rfl))
            simp only [Act.put, List.setIfInBounds_toArray, List.set_cons_zero, List.set_cons_succ]
            refine wpAnyE_take 6 (some 82) ?_ rfl rfl (by kernel_rfl) (by kernel_rfl) (by kernel_rfl) (by kernel_rfl) (fun _ _ _ h => h) (Or.inl ⟨by rfl, ?_⟩) HSb.out ?_
            rotate_left
            focus (intro wS hSw; have hS0 := hSw.k; have hS1 := hSw.q; have hS2 := hSw.c; have hS3 := hSw.n; clear hSw; go_simp; try (with_reducible rfl))
            simp only [Act.put, List.setIfInBounds_toArray, List.set_cons_zero, List.set_cons_succ]
            refine wpAnyE_take 7 (some 83) ?_ rfl rfl (by kernel_rfl) (by kernel_rfl) (by kernel_rfl) (by kernel_rfl) (fun _ _ _ h => h) (Or.inl ⟨by rfl, ?_⟩) HSb.out ?_
            rotate_left
            focus (intro wS hSw; have hS0 := hSw.k; have hS1 := hSw.q; have hS2 := hSw.c; have hS3 := hSw.n; clear hSw; go_simp; try (with_reducible rfl))
            simp only [Act.put, List.setIfInBounds_toArray, List.set_cons_zero, List.set_cons_succ]
            refine wpAnyE_take 8 (some 84) ?_ rfl rfl (by kernel_rfl) (by kernel_rfl) (by kernel_rfl) (by kernel_rfl) (fun _ _ _ h => h) (Or.inl ⟨by rfl, ?_⟩) HSb.out ?_
            rotate_left
            focus (intro wS hSw; have hS0 := hSw.k; have hS1 := hSw.q; have hS2 := hSw.c; have hS3 := hSw.n; clear hSw; go_simp; try (with_reducible rfl))
            simp only [Act.put, List.setIfInBounds_toArray, List.set_cons_zero, List.set_cons_succ]
            refine wpAnyE_take 9 (some 85) ?_ rfl rfl (by kernel_rfl) (by kernel_rfl) (by kernel_rfl) (by kernel_rfl) (fun _ _ _ h => h) (Or.inl ⟨by rfl, ?_⟩) HSb.out ?_
            rotate_left
            focus (intro wS hSw; have hS0 := hSw.k; have hS1 := hSw.q; have hS2 := hSw.c; have hS3 := hSw.n; clear hSw; go_simp; try (with_reducible rfl))
            simp only [Act.put, List.setIfInBounds_toArray, List.set_cons_zero, List.set_cons_succ]
            refine wpAnyE_take 11 (some 87) ?_ rfl rfl (by kernel_rfl) (by kernel_rfl) (by kernel_rfl) (by kernel_rfl) (fun _ _ _ h => h) (Or.inl ⟨by rfl, ?_⟩) HSb.out ?_
            rotate_left
            focus (intro wS hSw; have hS0 := hSw.k; have hS1 := hSw.q; have hS2 := hSw.c; have hS3 := hSw.n; clear hSw; go_simp; try (with_reducible rfl))
            simp only [Act.put, List.setIfInBounds_toArray, List.set_cons_zero, List.set_cons_succ]
            refine wpAnyE_take 12 (some 88) ?_ rfl rfl (by kernel_rfl) (by kernel_rfl) (by kernel_rfl) (by kernel_rfl) (fun _ _ _ h => h) (Or.inl ⟨by rfl, ?_⟩) HSb.out ?_
            rotate_left
            focus (intro wS hSw; have hS0 := hSw.k; have hS1 := hSw.q; have hS2 := hSw.c; have hS3 := hSw.n; clear hSw; go_simp; try (with_reducible rfl))
            simp only [Act.put, List.setIfInBounds_toArray, List.set_cons_zero, List.set_cons_succ]
            refine wpAnyE_take 13 (some 89) ?_ rfl rfl (by kernel_rfl) (by kernel_rfl) (by kernel_rfl) (by kernel_rfl) (fun _ _ _ h => h) (Or.inl ⟨by rfl, ?_⟩) HSb.out ?_
            rotate_left
            focus (intro wS hSw; have hS0 := hSw.k; have hS1 := hSw.q; have hS2 := hSw.c; have hS3 := hSw.n; clear hSw; go_simp; try (with_reducible rfl))
            simp only [Act.put, List.setIfInBounds_toArray, List.set_cons_zero, List.set_cons_succ]
            refine wpAnyE_take 14 (some 90) ?_ rfl rfl (by kernel_rfl) (by kernel_rfl) (by kernel_rfl) (by kernel_rfl) (fun _ _ _ h => h) (Or.inl ⟨by rfl, ?_⟩) HSb.out ?_
            rotate_left
            focus (intro wS hSw; have hS0 := hSw.k; have hS1 := hSw.q; have hS2 := hSw.c; have hS3 := hSw.n; clear hSw; go_simp; try (with_reducible rfl))
            simp only [Act.put, List.setIfInBounds_toArray, List.set_cons_zero, List.set_cons_succ]
            refine wpAnyE_take 15 (some 91) ?_ rfl rfl (by kernel_rfl) (by kernel_rfl) (by kernel_rfl) (by kernel_rfl) (fun _ _ _ h => h) (Or.inl ⟨by rfl, ?_⟩) HSb.out ?_
            rotate_left
            focus (intro wS hSw; have hS0 := hSw.k; have hS1 := hSw.q; have hS2 := hSw.c; have hS3 := hSw.n; clear hSw; go_simp; try (with_reducible rfl))
            simp only [Act.put, List.setIfInBounds_toArray, List.set_cons_zero, List.set_cons_succ]
            refine wpAnyE_take 16 (some 92) ?_ rfl rfl (by kernel_rfl) (by kernel_rfl) (by kernel_rfl) (by kernel_rfl) (fun _ _ _ h => h) (Or.inl ⟨by rfl, ?_⟩) HSb.out ?_
            rotate_left
            focus (intro wS hSw; have hS0 := hSw.k; have hS1 := hSw.q; have hS2 := hSw.c; have hS3 := hSw.n; clear hSw; go_simp; try (with_reducible rfl))
            simp only [Act.put, List.setIfInBounds_toArray, List.set_cons_zero, List.set_cons_succ]
            refine wpAnyE_take 17 (some 93) ?_ rfl rfl (by kernel_rfl) (by kernel_rfl) (by kernel_rfl) (by kernel_rfl) (fun _ _ _ h => h) (Or.inl ⟨by rfl, ?_⟩) HSb.out ?_
            rotate_left
            focus (intro wS hSw; have hS0 := hSw.k; have hS1 := hSw.q; have hS2 := hSw.c; have hS3 := hSw.n; clear hSw; go_simp; try (with_reducible rfl))
            simp only [Act.put, List.setIfInBounds_toArray, List.set_cons_zero, List.set_cons_succ]
            refine wpAnyE_take 18 (some 94) ?_ rfl rfl (by kernel_rfl) (by kernel_rfl) (by kernel_rfl) (by kernel_rfl) (fun _ _ _ h => h) (Or.inl ⟨by rfl, ?_⟩) HSb.out ?_
            rotate_left
            focus (intro wS hSw; have hS0 := hSw.k; have hS1 := hSw.q; have hS2 := hSw.c; have hS3 := hSw.n; clear hSw; go_simp; try (with_reducible rfl))
            simp only [Act.put, List.setIfInBounds_toArray, List.set_cons_zero, List.set_cons_succ]
            refine wpAnyE_take 19 (some 95) ?_ rfl rfl (by kernel_rfl) (by kernel_rfl) (by kernel_rfl) (by kernel_rfl) (fun _ _ _ h => h) (Or.inl ⟨by rfl, ?_⟩) HSb.out ?_
            rotate_left
            focus (intro wS hSw; have hS0 := hSw.k; have hS1 := hSw.q; have hS2 := hSw.c; have hS3 := hSw.n; clear hSw; go_simp; try (with_reducible rfl))
            simp only [Act.put, List.setIfInBounds_toArray, List.set_cons_zero, List.set_cons_succ]
            refine wpAnyE_take 20 (some 96) ?_ rfl rfl (by kernel_rfl) (by kernel_rfl) (by kernel_rfl) (by kernel_rfl) (fun _ _ _ h => h) (Or.inl ⟨by rfl, ?_⟩) HSb.out ?_
            rotate_left
            focus (intro wS hSw; have hS0 := hSw.k; have hS1 := hSw.q; have hS2 := hSw.c; have hS3 := hSw.n; clear hSw; go_simp; try (with_reducible rfl))
            simp only [Act.put, List.setIfInBounds_toArray, List.set_cons_zero, List.set_cons_succ]
            refine wpAnyE_oneG 10 (by kernel_rfl) rfl (by rfl) (fun K hK => ?_)
            go_simp
            with_reducible refine HG1.out.mono ?_
            rintro e w20 ⟨rfl, rfl⟩
            try go_wp2_with fail
            refine hK.out _ _ HSb.out ?_
            clear hK K
            try simp only [Act.put, List.setIfInBounds_toArray, List.set_cons_zero, List.set_cons_succ]
            clear HG1
            refine wpAnyE_oneG 21 (by kernel_rfl) rfl (by rfl) (fun K hK => ?_)
            go_simp
            with_reducible refine HG2.out.mono ?_
            rintro e w20 ⟨rfl, rfl⟩
            try go_wp2_with fail
            refine hK.out _ _ HSb.out ?_
            clear hK K
            try simp only [Act.put, List.setIfInBounds_toArray, List.set_cons_zero, List.set_cons_succ]
            clear HG2
            refine wpAnyE_take 22 (some 98) (.bool false) rfl rfl (by kernel_rfl) (by kernel_rfl) (by kernel_rfl) (by kernel_rfl) (fun _ _ _ h => h) (Or.inl ⟨by rfl, ?_⟩) HSb.out ?_
            focus (intro wS hSw; have hS0 := hSw.k; have hS1 := hSw.q; have hS2 := hSw.c; have hS3 := hSw.n; clear hSw; go_simp; try (with_reducible rfl))
            simp only [Act.put, List.setIfInBounds_toArray, List.set_cons_zero, List.set_cons_succ]
            refine wpAnyE_take 23 (some 99) (.bool false) rfl rfl (by kernel_rfl) (by kernel_rfl) (by kernel_rfl) (by kernel_rfl) (fun _ _ _ h => h) (Or.inl ⟨by rfl, ?_⟩) HSb.out ?_
            focus (intro wS hSw; have hS0 := hSw.k; have hS1 := hSw.q; have hS2 := hSw.c; have hS3 := hSw.n; clear hSw; go_simp; try (with_reducible rfl))
            simp only [Act.put, List.setIfInBounds_toArray, List.set_cons_zero, List.set_cons_succ]
            refine wpAnyE_take 24 (some 100) ?_ rfl rfl (by kernel_rfl) (by kernel_rfl) (by kernel_rfl) (by kernel_rfl) (fun _ _ _ h => h) (Or.inl ⟨by rfl, ?_⟩) HSb.out ?_
            rotate_left
            focus (intro wS hSw; have hS0 := hSw.k; have hS1 := hSw.q; have hS2 := hSw.c; have hS3 := hSw.n; clear hSw; go_simp; try (with_reducible rfl))
            simp only [Act.put, List.setIfInBounds_toArray, List.set_cons_zero, List.set_cons_succ]
            refine wpAnyE_take 25 (some 101) ?_ rfl rfl (by kernel_rfl) (by kernel_rfl) (by kernel_rfl) (by kernel_rfl) (fun _ _ _ h => h) (Or.inl ⟨by rfl, ?_⟩) HSb.out ?_
            rotate_left
            focus (intro wS hSw; have hS0 := hSw.k; have hS1 := hSw.q; have hS2 := hSw.c; have hS3 := hSw.n; clear hSw; go_simp; try (with_reducible rfl))
            simp only [Act.put, List.setIfInBounds_toArray, List.set_cons_zero, List.set_cons_succ]
            refine wpAnyE_take 27 (some 103) ?_ rfl rfl (by kernel_rfl) (by kernel_rfl) (by kernel_rfl) (by kernel_rfl) (fun _ _ _ h => h) (Or.inl ⟨by rfl, ?_⟩) HSb.out ?_
            rotate_left
            focus (intro wS hSw; have hS0 := hSw.k; have hS1 := hSw.q; have hS2 := hSw.c; have hS3 := hSw.n; clear hSw; go_simp; try (with_reducible rfl))
            simp only [Act.put, List.setIfInBounds_toArray, List.set_cons_zero, List.set_cons_succ]
            refine wpAnyE_take 28 (some 104) ?_ rfl rfl (by kernel_rfl) (by kernel_rfl) (by kernel_rfl) (by kernel_rfl) (fun _ _ _ h => h) (Or.inl ⟨by rfl, ?_⟩) HSb.out ?_
            rotate_left
            focus (intro wS hSw; have hS0 := hSw.k; have hS1 := hSw.q; have hS2 := hSw.c; have hS3 := hSw.n; clear hSw; go_simp; try (with_reducible rfl))
            simp only [Act.put, List.setIfInBounds_toArray, List.set_cons_zero, List.set_cons_succ]
            refine wpAnyE_take 29 (some 105) ?_ rfl rfl (by kernel_rfl) (by kernel_rfl) (by kernel_rfl) (by kernel_rfl) (fun _ _ _ h => h) (Or.inl ⟨by rfl, ?_⟩) HSb.out ?_
            rotate_left
            focus (intro wS hSw; have hS0 := hSw.k; have hS1 := hSw.q; have hS2 := hSw.c; have hS3 := hSw.n; clear hSw; go_simp; try (with_reducible rfl))
            simp only [Act.put, List.setIfInBounds_toArray, List.set_cons_zero, List.set_cons_succ]
            refine wpAnyE_take 30 (some 106) ?_ rfl rfl (by kernel_rfl) (by kernel_rfl) (by kernel_rfl) (by kernel_rfl) (fun _ _ _ h => h) (Or.inl ⟨by rfl, ?_⟩) HSb.out ?_
            rotate_left
            focus (intro wS hSw; have hS0 := hSw.k; have hS1 := hSw.q; have hS2 := hSw.c; have hS3 := hSw.n; clear hSw; go_simp; try (with_reducible rfl))
            simp only [Act.put, List.setIfInBounds_toArray, List.set_cons_zero, List.set_cons_succ]
            refine wpAnyE_take 31 (some 107) ?_ rfl rfl (by kernel_rfl) (by kernel_rfl) (by kernel_rfl) (by kernel_rfl) (fun _ _ _ h => h) (Or.inl ⟨by rfl, ?_⟩) HSb.out ?_
            rotate_left
            focus (intro wS hSw; have hS0 := hSw.k; have hS1 := hSw.q; have hS2 := hSw.c; have hS3 := hSw.n; clear hSw; go_simp; try (with_reducible rfl))
            simp only [Act.put, List.setIfInBounds_toArray, List.set_cons_zero, List.set_cons_succ]
            refine wpAnyE_take 32 (some 108) ?_ rfl rfl (by kernel_rfl) (by kernel_rfl) (by kernel_rfl) (by kernel_rfl) (fun _ _ _ h => h) (Or.inl ⟨by rfl, ?_⟩) HSb.out ?_
            rotate_left
            focus (intro wS hSw; have hS0 := hSw.k; have hS1 := hSw.q; have hS2 := hSw.c; have hS3 := hSw.n; clear hSw; go_simp; try (with_reducible rfl))
            simp only [Act.put, List.setIfInBounds_toArray, List.set_cons_zero, List.set_cons_succ]
            refine wpAnyE_take 33 (some 109) ?_ rfl rfl (by kernel_rfl) (by kernel_rfl) (by kernel_rfl) (by kernel_rfl) (fun _ _ _ h => h) (Or.inl ⟨by rfl, ?_⟩) HSb.out ?_
            rotate_left
            focus (intro wS hSw; have hS0 := hSw.k; have hS1 := hSw.q; have hS2 := hSw.c; have hS3 := hSw.n; clear hSw; go_simp; try (with_reducible rfl))
            simp only [Act.put, List.setIfInBounds_toArray, List.set_cons_zero, List.set_cons_succ]
            refine wpAnyE_take 34 (some 110) ?_ rfl rfl (by kernel_rfl) (by kernel_rfl) (by kernel_rfl) (by kernel_rfl) (fun _ _ _ h => h) (Or.inl ⟨by rfl, ?_⟩) HSb.out ?_
            rotate_left
            focus (intro wS hSw; have hS0 := hSw.k; have hS1 := hSw.q; have hS2 := hSw.c; have hS3 := hSw.n; clear hSw; go_simp; try (with_reducible rfl))
            simp only [Act.put, List.setIfInBounds_toArray, List.set_cons_zero, List.set_cons_succ]
            refine wpAnyE_take 35 (some 111) ?_ rfl rfl (by kernel_rfl) (by kernel_rfl) (by kernel_rfl) (by kernel_rfl) (fun _ _ _ h => h) (Or.inl ⟨by rfl, ?_⟩) HSb.out ?_
            rotate_left
            focus (intro wS hSw; have hS0 := hSw.k; have hS1 := hSw.q; have hS2 := hSw.c; have hS3 := hSw.n; clear hSw; go_simp; try (with_reducible rfl))
            simp only [Act.put, List.setIfInBounds_toArray, List.set_cons_zero, List.set_cons_succ]
            refine wpAnyE_take 36 (some 112) ?_ rfl rfl (by kernel_rfl) (by kernel_rfl) (by kernel_rfl) (by kernel_rfl) (fun _ _ _ h => h) (Or.inl ⟨by rfl, ?_⟩) HSb.out ?_
            rotate_left
            focus (intro wS hSw; have hS0 := hSw.k; have hS1 := hSw.q; have hS2 := hSw.c; have hS3 := hSw.n; clear hSw; go_simp; try (with_reducible rfl))
            simp only [Act.put, List.setIfInBounds_toArray, List.set_cons_zero, List.set_cons_succ]
            refine wpAnyE_oneG 26 (by kernel_rfl) rfl (by rfl) (fun K hK => ?_)
            go_simp
            with_reducible refine (HR1.out _).mono ?_
            rintro e w20 ⟨rfl, hb⟩
            have HP20 := Lib.hid (HPb.out.since (Stays.sep (PBk.stays _ _ _) (RwL.stays _ _)) hb)
            have HS20 := Lib.hid (HBK.out _ hb)
            have HB20 := Lib.hid hb
            clear hb
            try go_wp2_with fail
            refine hK.out _ _ HS20.out ?_
            clear hK K
            try simp only [Act.put, List.setIfInBounds_toArray, List.set_cons_zero, List.set_cons_succ]
            clear HR1 HPb HSb
            refine wpAnyE_oneG 37 (by kernel_rfl) rfl (by rfl) (fun K hK => ?_)
            go_simp
            with_reducible refine (HR2.out _).mono ?_
            rintro e w21 ⟨rfl, hb⟩
            have HP21 := Lib.hid (HP20.out.since (Stays.sep (PBk.stays _ _ _) (RwL.stays _ _)) hb)
            have HS21 := Lib.hid (HBK.out _ (below_on HB20.out HB20.out.size hb))
            clear hb
            try go_wp2_with fail
            refine hK.out _ _ HS21.out ?_
            clear hK K
            try simp only [Act.put, List.setIfInBounds_toArray, List.set_cons_zero, List.set_cons_succ]
            clear HR2 HP20 HS20 HB20
            refine wpAnyE_take 38 (some 114) (.bool false) rfl rfl (by kernel_rfl) (by kernel_rfl) (by kernel_rfl) (by kernel_rfl) (fun _ _ _ h => h) (Or.inl ⟨by rfl, ?_⟩) HS21.out ?_
            focus (intro wS hSw; have hS0 := hSw.k; have hS1 := hSw.q; have hS2 := hSw.c; have hS3 := hSw.n; clear hSw; go_simp; try (with_reducible rfl))
            simp only [Act.put, List.setIfInBounds_toArray, List.set_cons_zero, List.set_cons_succ]
            refine wpAnyE_take 39 (some 115) (.bool false) rfl rfl (by kernel_rfl) (by kernel_rfl) (by kernel_rfl) (by kernel_rfl) (fun _ _ _ h => h) (Or.inl ⟨by rfl, ?_⟩) HS21.out ?_
            focus (intro wS hSw; have hS0 := hSw.k; have hS1 := hSw.q; have hS2 := hSw.c; have hS3 := hSw.n; clear hSw; go_simp; try (with_reducible rfl))
            simp only [Act.put, List.setIfInBounds_toArray, List.set_cons_zero, List.set_cons_succ]
            refine wpAnyE_done (by kernel_rfl) ?_ _
            clear HS21 HBK HWS
            go_wp2
            go_roundg (r - (j + 1))
            case measure => omega
            case rel => exact ⟨j + 1, by omega, by go_num, by omega, HP21.out⟩
          · have e : r = j := by omega
            clear hgj hj hjt
            subst e
            go_wp2
            go_roundg (n - (k + 1))
            case measure => omega
            case rel => exact ⟨k + 1, a3, c3, by omega, by go_num, by rw [HMS.out, ← HQ2.out], by omega, by rw [HMS.out, HTS.out]; exact HP.out⟩
      · have e : n = k := by omega
        clear hgk hk
        subst e
        have HB : Hid (Below w.heap.size w wr) := HA.out.bel
        go_wp2
        go_ret
        exact ⟨rfl, HB.out⟩
end Go.Proofs.Yteclhcjfnmkkjaa
