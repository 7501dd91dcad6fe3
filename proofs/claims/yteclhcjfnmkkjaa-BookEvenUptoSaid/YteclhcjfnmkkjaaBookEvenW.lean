/-
  The walk of souklaw07.BookEven.
-/
import Derived.Test.YteclhcjfnmkkjaaBkN
namespace Go.Proofs.Yteclhcjfnmkkjaa
open Go.RowKit Go.Lib

theorem len_le_tot {ls : List (List Ln)} {l : List Ln} (h : l ∈ ls) : l.length ≤ totL ls := by
  unfold totL
  induction ls with
  | nil => cases h
  | cons x r ih =>
    rw [List.map_cons, List.sum_cons]
    rcases List.mem_cons.1 h with e | h
    · rw [e]; omega
    · have := ih h; omega

/-- what Add gives of amounts: their sum, if it is one -/
theorem add_row (a : Option Addr) (c : Nat) (zs : List Int) (w : World) (hr : RowI .i64 w a zs) (hz : ∀ z ∈ zs, Amt z) (hl : zs.length ≤ maxLen) :
    ∃ (s er : Int), (er = 0 → s = zs.sum) ∧ Calls Try.prog 18 #[.slice a zs.length c] w fun e w' => e = .returned (.tuple #[.int .i64 s, .int .i64 er]) ∧ w = w' := by
  refine ⟨_, _, ?_, Add_any a c zs w hr hz hl⟩
  cases hs : sumTo 0 zs with
  | none => intro h; exact absurd h (by decide)
  | some s =>
    intro _
    have := sumTo_sum zs 0 s hs
    show s = zs.sum
    omega

set_option maxHeartbeats 16000000 in
set_option maxRecDepth 100000 in
theorem even_walk (a0 : Option Addr) (c0 : Nat) (ls : List (List Ln)) (w : World) (hr : RowSS w a0 ls) (hl : ls.length ≤ 1048576) (ht : totL ls ≤ 1048576) (hok : ∀ l ∈ ls, OkLs l) :
    Calls Try.prog 4 #[.slice a0 ls.length c0] w fun e w' => e = .returned (.bool true) ∧ Below w.heap.size w w' := by
  have hlen : ∀ l ∈ ls, l.length ≤ 1048576 := fun l h => Nat.le_trans (len_le_tot h) ht
  have H0 := Lib.hid (lives7_any)
  have HSM : Hid (∀ W, Below w.heap.size w W → Calls Try.prog 6 #[.slice a0 ls.length c0] W fun e w' => (∃ sb : Bool, e = .returned (.bool sb)) ∧ Below W.heap.size W w') := fun W hb => small7_any a0 c0 ls W (hr.keep hb) (by omega) (fun l h => by have := hlen l h; omega)
  obtain ⟨n, hn⟩ : ∃ n, n = ls.length := ⟨_, rfl⟩
  have HN := Lib.hid hn
  have HR := Lib.hid hr
  have HT := Lib.hid ht
  have HOK := Lib.hid hok
  rw [← hn] at hl HSM ⊢
  clear hn hr ht hok hlen
  go_enter Try.func4, Try.ntmps4
  go_wp2_with fail
  with_reducible refine (H0.out _).mono ?_
  rintro e w1 ⟨rfl, hb⟩
  have HB1 := Lib.hid hb
  clear hb
  go_wp2_with fail
  with_reducible refine (HSM.out w1 HB1.out).mono ?_
  rintro e w2 ⟨⟨sb, rfl⟩, hb⟩
  have HB2 : Hid (Below w.heap.size w w2) := below_on HB1.out HB1.out.size hb
  clear hb HSM HB1
  cases sb with
  | false =>
    go_wp2_with fail
    with_reducible refine (H0.out _).mono ?_
    rintro e w3 ⟨rfl, hb⟩
    have HB3 : Hid (Below w.heap.size w w3) := below_on HB2.out HB2.out.size hb
    clear hb
    go_wp2
    go_ret
    exact ⟨rfl, HB3.out⟩
  | true =>
    have H1 := Lib.hid (new_any w2)
    clear H0
    go_wp2_with fail
    with_reducible refine H1.out.mono ?_
    rintro e w3 ⟨b, rfl, ha⟩
    have HA3 : Hid (After [] w w3 (PBk b [] 0 w3)) := by
      obtain ⟨fp', h1, h2, h3⟩ := ha
      exact ⟨fp', h1, (Stp.of_below HB2.out).trans h2 (fun _ h => .inl h), fun k hk => by
        rcases h3 k hk with h | h
        · exact .inl h
        · exact .inr (Nat.le_trans HB2.out.size h)⟩
    clear ha H1 HB2
    go_wp2
    go_loopg [5, 6, 8, 9, 11, 12, 13, 15, 16, 17, 18, 31, 40, 41, 42, 46, 47, 48, 75, 76, 77] n (fun gk _ _ _ _ _ _ _ _ _ _ _ i _ _ _ _ _ _ _ _ _ wr => ∃ k : Nat, k ≤ n ∧ i = .int .i64 k ∧ n - k ≤ gk ∧ Hid (After [] w wr (PBk b (mAt ls k) (totL (ls.take k)) wr)))
    case atStart => exact ⟨0, Nat.zero_le _, rfl, by omega, HA3.out⟩
    case round =>
      clear HA3
      obtain ⟨k, hk, rfl, hgk, HA⟩ := hrel
      by_cases hlt : k < n
      · obtain ⟨l, hx⟩ : ∃ l, ls[k]? = some l := ⟨_, List.getElem?_eq_getElem (by rw [← HN.out]; exact hlt)⟩
        have hgd := good_at ls (k + 1)
        have hzr := zero_at ls (k + 1)
        have hml := len_at ls (k + 1)
        have hms := mAt_succ hx
        have hts := totL_succ hx
        have htl : totL (ls.take (k + 1)) ≤ 1048576 := Nat.le_trans (totL_take ls _) HT.out
        have hl1 : l.length ≤ 1048576 := Nat.le_trans (len_le_tot (List.mem_of_getElem? hx)) HT.out
        obtain ⟨b0, off, ea, hc⟩ := HR.out (by rw [← HN.out]; omega)
        subst ea
        obtain ⟨ai, ci, f0w, hrow⟩ := hc k l hx
        have f0 : wr.cell? ⟨b0, off + k, none⟩ = some (.slice ai l.length ci) := by rw [HA.out.bel.cell (p := ⟨b0, off + k, none⟩) (World.block_lt_of_cell? w _ f0w)]; exact f0w
        have HRWr : Hid (RowL wr ai l) := hrow.keep HA.out.bel
        have HLK : Hid (OkLs l) := HOK.out l (List.mem_of_getElem? hx)
        have hkz : (0 : Int) ≤ (k : Int) := by omega
        have hkn : (k : Int) < (n : Int) := by omega
        generalize mAt ls k = m0 at HA hms
        generalize totL (ls.take k) = K at HA hts
        have hKl : K + l.length ≤ 1048576 := by omega
        have hpost := HA.out.call1 (f := 9) (args := #[.pointer (some ⟨b, 0, none⟩), .slice ai l.length ci]) (p := Try.prog) fun fp hp => post_any b m0 K ai ci l fp wr hp HRWr.out (by omega) HLK.out (by omega)
        rw [← hms, ← hts] at hpost
        have H2 := Lib.hid hpost
        generalize (postL m0 l).2 = er at H2
        have HEQ : Hid (∃ m2 K2, mAt ls (k + 1) = m2 ∧ totL (ls.take (k + 1)) = K2) := ⟨_, _, rfl, rfl⟩
        generalize hm2 : mAt ls (k + 1) = m at H2 hgd hzr hml
        generalize hk2 : totL (ls.take (k + 1)) = K2 at H2 htl hml
        have HMS := Lib.hid hm2
        have HTS := Lib.hid hk2
        have HGD := Lib.hid hgd
        have HZR := Lib.hid hzr
        obtain ⟨r, hrr⟩ : ∃ r, r = l.length := ⟨_, rfl⟩
        rw [← hrr] at f0 H2
        obtain ⟨q, hq⟩ : ∃ q, q = m.length := ⟨_, rfl⟩
        have HQ := Lib.hid hq
        have hq2 : q ≤ 1048576 := by omega
        have hK2 : K2 ≤ 1048576 := htl
        clear hx hgd hzr hml hms hts htl hl1 hc f0w hrow hKl hpost hm2 hk2 hrr hq HEQ HA
        go_wp2_with fail
        with_reducible refine H2.out.mono ?_
        rintro e w4 ⟨rfl, ha⟩
        have HSD : Hid (sideL m = true) := ha.know fun fp hp => by obtain ⟨_, _, _, _, _, _, _, _, h, _⟩ := hp; exact h
        have HA4 := Lib.hid ha
        have H3 := ha.know fun fp hp => all_any b m K2 fp w4 hp (by omega)
        rw [← HQ.out] at H3
        have H3 := Lib.hid H3
        clear ha H2 f0
        go_wp2_with fail
        with_reducible refine H3.out.mono ?_
        rintro e w5 ⟨g1, p1, rfl, hrow1, hb⟩
        have HA5 := Lib.hid (HA4.out.since (PBk.stays _ _ _) hb)
        have HM5 := Lib.hid hrow1
        clear H3 HA4 hrow1 hb
        go_wp2
        go_loopg [8, 9, 11, 12, 13, 15, 16, 17, 18, 42, 46, 47, 48, 75, 76, 77] q (fun gj _ _ _ _ _ _ _ _ _ i _ _ _ _ _ _ wr => ∃ j : Nat, j ≤ q ∧ i = .int .i64 j ∧ q - j ≤ gj ∧ Hid (Below w5.heap.size w5 wr))
        case atStart => exact ⟨0, Nat.zero_le _, rfl, by omega, Below.refl _ _⟩
        case round =>
          obtain ⟨j, hj, rfl, hgj, HB⟩ := hrel
          by_cases hjt : j < q
          · obtain ⟨y, hy⟩ : ∃ y, m[j]? = some y := ⟨_, List.getElem?_eq_getElem (by rw [← HQ.out]; exact hjt)⟩
            obtain ⟨f0, f1, f2, f3⟩ := rowL_cells (HM5.out.keep HB.out) hy
            simp only [Nat.zero_add] at f0 f1 f2 f3
            have hjz : (0 : Int) ≤ (j : Int) := by omega
            have hjq : (j : Int) < (q : Int) := by omega
            have HY := Lib.hid (List.mem_of_getElem? hy)
            obtain ⟨wy, hwy⟩ : ∃ wy, wy = wr.alloc (.cells #[.string (st y.1.1), .string (st y.1.2.1), .string (st y.1.2.2), .int .i64 y.2] 42) := ⟨_, rfl⟩
            have HWY := Lib.hid hwy
            have HBX : Hid (Blk wy wr.heap.size 42 #[.string (st y.1.1), .string (st y.1.2.1), .string (st y.1.2.2), .int .i64 y.2]) := by rw [hwy]; exact Blk.new wr _ _
            have HBY : Hid (Below w5.heap.size w5 wy) := by rw [hwy]; exact HB.out.alloc HB.out.size _
            have HO0 := Lib.hid (World.ownsRow_nil wy wy.heap.size 2 1)
            clear hy hwy
            go_wp2
            rw [← HWY.out]
            clear f0 f1 f2 f3 HWY HB
            have HWP : Hid (wr.heap.size < wy.heap.size) := HBX.out.lt
            generalize wr.heap.size = p8 at HBX HWP ⊢
            go_loopg [9, 11, 48] q (fun gz v _ i wr => ∃ (z : Nat) (v0 : Value), z ≤ q ∧ i = .int .i64 z ∧ v0 = v ∧ q - z ≤ gz ∧ Hid (wr.ownsRow wy.heap.size 2 1 v0 (negs y.1.2.2 (m.take z)).length ((negs y.1.2.2 (m.take z)).map (Value.int .i64))) ∧ Hid (Below wy.heap.size wy wr))
            case atStart => exact ⟨0, _, Nat.zero_le _, rfl, rfl, by omega, HO0.out, Below.refl _ _⟩
            case round =>
              obtain ⟨z, v, hz, rfl, rfl, hgz, HOW, HBZ⟩ := hrel
              by_cases hzt : z < q
              · obtain ⟨x, hx⟩ : ∃ x, m[z]? = some x := ⟨_, List.getElem?_eq_getElem (by rw [← HQ.out]; exact hzt)⟩
                obtain ⟨f0, f1, f2, f3⟩ := rowL_cells (HM5.out.keep (below_on HBY.out HBY.out.size HBZ.out)) hx
                simp only [Nat.zero_add] at f0 f1 f2 f3
                have HBx := Lib.hid (HBX.out.since HBZ.out)
                have y2 : wr.cell? ⟨p8, 2, none⟩ = some (.string (st y.1.2.2)) := HBx.out.cell 2
                have y2a : ∀ ob : Obj, (wr.alloc ob).cell? ⟨p8, 2, none⟩ = some (.string (st y.1.2.2)) := fun ob => (HBx.out.alloc ob).cell 2
                have hzz : (0 : Int) ≤ (z : Int) := by omega
                have hzq : (z : Int) < (q : Int) := by omega
                obtain ⟨ln, hln⟩ : ∃ ln, ln = (negs y.1.2.2 (m.take z)).length := ⟨_, rfl⟩
                have hll : ln ≤ z := by rw [hln]; exact Nat.le_trans (negs_len _ _) (by rw [List.length_take]; omega)
                by_cases hcc : x.1.2.2 = y.1.2.2
                · have t1 : ((st x.1.2.2).toList == (st y.1.2.2).toList) = true := by rw [hcc]; simp
                  by_cases hv : x.2 < 0
                  · have HAM := Lib.hid (negs_yes hx ⟨hcc, hv⟩)
                    have HOW2 : Hid (wr.ownsRow wy.heap.size 2 1 v ln ((negs y.1.2.2 (m.take z)).map (Value.int .i64))) := by rw [hln]; exact HOW.out
                    have HLN := Lib.hid hln
                    clear hx hcc hln HOW
                    go_wp2_with (first | (at_builtin; refine wpList_append_one rfl (.tmp 64) (.tmp 67) 46 rfl wy.heap.size 2 _ 8 Try.underlying46 infoI64e rfl _ _ rfl v ln _ rfl (new_at _ _) (HOW2.out.alloc _) (by have := HBZ.out.size; simp; omega) (by unfold maxLen; omega) (by omega) ?_; intro v' w' h1 h2; have H1 := Lib.hid h1; have HB2 : Hid (Below wy.heap.size wy w') := (HBZ.out.alloc HBZ.out.size _).trans h2; clear h1 h2) | fail)
                    go_roundg (q - (z + 1))
                    case measure => omega
                    case rel => exact ⟨z + 1, v', by omega, by go_num, rfl, by omega, by rw [HAM.out, List.length_append, ← HLN.out, List.map_append]; exact H1.out, HB2.out⟩
                  · have HAM := Lib.hid (negs_no hx (c := y.1.2.2) (fun h => hv h.2))
                    clear hx hcc hln
                    go_wp2
                    go_roundg (q - (z + 1))
                    case measure => omega
                    case rel => exact ⟨z + 1, v, by omega, by go_num, rfl, by omega, by rw [HAM.out]; exact HOW.out.alloc _, HBZ.out.alloc HBZ.out.size _⟩
                · have HAM := Lib.hid (negs_no hx (c := y.1.2.2) (fun h => hcc h.1))
                  have t1 := st_neb hcc
                  clear hx hcc hln
                  go_wp2
                  go_roundg (q - (z + 1))
                  case measure => omega
                  case rel => exact ⟨z + 1, v, by omega, by go_num, rfl, by omega, by rw [HAM.out]; exact HOW.out.alloc _, HBZ.out.alloc HBZ.out.size _⟩
              · have e : q = z := by omega
                have how := HOW.out
                rw [List.take_of_length_le (by rw [← HQ.out]; omega)] at how
                obtain ⟨a1, c1, hv, hrw⟩ := own_ints how rfl
                obtain ⟨lo, e1, hlo, H1⟩ := add_row a1 c1 (negs y.1.2.2 m) wr hrw (negs_amt HGD.out _) (by have := negs_len y.1.2.2 m; unfold maxLen; rw [← HQ.out] at this; omega)
                rw [← hv] at H1
                have H1 := Lib.hid H1
                have HLO := Lib.hid hlo
                have HO1 := Lib.hid (World.ownsRow_nil wr wy.heap.size 2 1)
                have HBZ1 := Lib.hid HBZ.out
                clear how hv hrw hlo HOW hgz hz hzt HO0 HBZ
                subst e
                go_wp2_with fail
                refine H1.out.mono ?_
                rintro e w1 ⟨rfl, rfl⟩
                clear H1
                go_wp2
                go_loopg [9, 15, 77] q (fun gz v _ i wr => ∃ (z : Nat) (v0 : Value), z ≤ q ∧ i = .int .i64 z ∧ v0 = v ∧ q - z ≤ gz ∧ Hid (wr.ownsRow wy.heap.size 2 1 v0 (poss y.1.2.2 (m.take z)).length ((poss y.1.2.2 (m.take z)).map (Value.int .i64))) ∧ Hid (Below wy.heap.size wy wr))
                case atStart => exact ⟨0, _, Nat.zero_le _, rfl, rfl, by omega, HO1.out, HBZ1.out⟩
                case round =>
                  obtain ⟨z, v, hz, rfl, rfl, hgz, HOW, HBZ⟩ := hrel
                  by_cases hzt : z < q
                  · obtain ⟨x, hx⟩ : ∃ x, m[z]? = some x := ⟨_, List.getElem?_eq_getElem (by rw [← HQ.out]; exact hzt)⟩
                    obtain ⟨f0, f1, f2, f3⟩ := rowL_cells (HM5.out.keep (below_on HBY.out HBY.out.size HBZ.out)) hx
                    simp only [Nat.zero_add] at f0 f1 f2 f3
                    have HBx := Lib.hid (HBX.out.since HBZ.out)
                    have y2 : wr.cell? ⟨p8, 2, none⟩ = some (.string (st y.1.2.2)) := HBx.out.cell 2
                    have y2a : ∀ ob : Obj, (wr.alloc ob).cell? ⟨p8, 2, none⟩ = some (.string (st y.1.2.2)) := fun ob => (HBx.out.alloc ob).cell 2
                    have hzz : (0 : Int) ≤ (z : Int) := by omega
                    have hzq : (z : Int) < (q : Int) := by omega
                    obtain ⟨ln, hln⟩ : ∃ ln, ln = (poss y.1.2.2 (m.take z)).length := ⟨_, rfl⟩
                    have hll : ln ≤ z := by rw [hln]; exact Nat.le_trans (poss_len _ _) (by rw [List.length_take]; omega)
                    by_cases hcc : x.1.2.2 = y.1.2.2
                    · have t1 : ((st x.1.2.2).toList == (st y.1.2.2).toList) = true := by rw [hcc]; simp
                      by_cases hv : 0 < x.2
                      · have HAM := Lib.hid (poss_yes hx ⟨hcc, hv⟩)
                        have HOW2 : Hid (wr.ownsRow wy.heap.size 2 1 v ln ((poss y.1.2.2 (m.take z)).map (Value.int .i64))) := by rw [hln]; exact HOW.out
                        have HLN := Lib.hid hln
                        clear hx hcc hln HOW
                        go_wp2_with (first | (at_builtin; refine wpList_append_one rfl (.tmp 93) (.tmp 96) 46 rfl wy.heap.size 2 _ 8 Try.underlying46 infoI64e rfl _ _ rfl v ln _ rfl (new_at _ _) (HOW2.out.alloc _) (by have := HBZ.out.size; simp; omega) (by unfold maxLen; omega) (by omega) ?_; intro v' w' h1 h2; have H1 := Lib.hid h1; have HB2 : Hid (Below wy.heap.size wy w') := (HBZ.out.alloc HBZ.out.size _).trans h2; clear h1 h2) | fail)
                        go_roundg (q - (z + 1))
                        case measure => omega
                        case rel => exact ⟨z + 1, v', by omega, by go_num, rfl, by omega, by rw [HAM.out, List.length_append, ← HLN.out, List.map_append]; exact H1.out, HB2.out⟩
                      · have HAM := Lib.hid (poss_no hx (c := y.1.2.2) (fun h => hv h.2))
                        clear hx hcc hln
                        go_wp2
                        go_roundg (q - (z + 1))
                        case measure => omega
                        case rel => exact ⟨z + 1, v, by omega, by go_num, rfl, by omega, by rw [HAM.out]; exact HOW.out.alloc _, HBZ.out.alloc HBZ.out.size _⟩
                    · have HAM := Lib.hid (poss_no hx (c := y.1.2.2) (fun h => hcc h.1))
                      have t1 := st_neb hcc
                      clear hx hcc hln
                      go_wp2
                      go_roundg (q - (z + 1))
                      case measure => omega
                      case rel => exact ⟨z + 1, v, by omega, by go_num, rfl, by omega, by rw [HAM.out]; exact HOW.out.alloc _, HBZ.out.alloc HBZ.out.size _⟩
                  · have e : q = z := by omega
                    have how := HOW.out
                    rw [List.take_of_length_le (by rw [← HQ.out]; omega)] at how
                    obtain ⟨a1, c1, hv, hrw⟩ := own_ints how rfl
                    obtain ⟨hi, e2, hhi, H1⟩ := add_row a1 c1 (poss y.1.2.2 m) wr hrw (poss_amt HGD.out _) (by have := poss_len y.1.2.2 m; unfold maxLen; rw [← HQ.out] at this; omega)
                    rw [← hv] at H1
                    have H1 := Lib.hid H1
                    have HSUM : Hid (e1 = 0 → e2 = 0 → lo + hi = 0) := fun h1 h2 => by
                      rw [HLO.out h1, hhi h2, parts_sum]; exact HZR.out _
                    have HBx := Lib.hid (HBX.out.since HBZ.out)
                    have y0 : wr.cell? ⟨p8, 0, none⟩ = some (.string (st y.1.1)) := HBx.out.cell 0
                    have y3 : wr.cell? ⟨p8, 3, none⟩ = some (.int .i64 y.2) := HBx.out.cell 3
                    have HFin : Hid (Below w5.heap.size w5 wr) := below_on HBY.out HBY.out.size HBZ.out
                    clear how hv hrw hhi HOW hgz hz hzt HO1 HBZ HBZ1 HLO
                    subst e
                    have HYN : Hid (owes y.1.1 = true → y.2 < 0) := side_neg HGD.out HSD.out HY.out
                    have HYP : Hid (owes y.1.1 = false → ¬ y.2 < 0) := side_pos HSD.out HY.out
                    go_wp2_with fail
                    refine H1.out.mono ?_
                    rintro e w1 ⟨rfl, rfl⟩
                    clear H1
                    obtain ⟨⟨yk, yp, yc⟩, yn⟩ := y
                    by_cases k1 : yk = kClearing
                    · have t1 := clearing_t k1
                      have hyn : yn < 0 := HYN.out (owes_t (Or.inl k1))
                      clear k1
                      by_cases h1 : e1 = 0
                      · subst h1
                        by_cases h2 : e2 = 0
                        · subst h2
                          have hsum := HSUM.out rfl rfl
                          have hwr : IntKind.i64.wrap (lo + hi) = 0 := by rw [hsum]; decide +kernel
                          have hw64 : wrap64 (lo + hi) = 0 := by rw [hsum]; decide +kernel
                          clear hsum
                          go_wp2
                          go_roundg (q - (j + 1))
                          case measure => omega
                          case rel => exact ⟨j + 1, by omega, by go_num, by omega, HFin.out⟩
                        · have hb2 : (e2 == 0) = false := by simpa using h2
                          clear h2
                          go_wp2
                          go_roundg (q - (j + 1))
                          case measure => omega
                          case rel => exact ⟨j + 1, by omega, by go_num, by omega, HFin.out⟩
                      · have hb1 : (e1 == 0) = false := by simpa using h1
                        clear h1
                        go_wp2
                        go_roundg (q - (j + 1))
                        case measure => omega
                        case rel => exact ⟨j + 1, by omega, by go_num, by omega, HFin.out⟩
                    · have t1 := clearing_f k1
                      by_cases k2 : yk = kDebt
                      · have t2 := debt_t k2
                        have hyn : yn < 0 := HYN.out (owes_t (Or.inr k2))
                        clear k1 k2
                        by_cases h1 : e1 = 0
                        · subst h1
                          by_cases h2 : e2 = 0
                          · subst h2
                            have hsum := HSUM.out rfl rfl
                            have hwr : IntKind.i64.wrap (lo + hi) = 0 := by rw [hsum]; decide +kernel
                            have hw64 : wrap64 (lo + hi) = 0 := by rw [hsum]; decide +kernel
                            clear hsum
                            go_wp2
                            go_roundg (q - (j + 1))
                            case measure => omega
                            case rel => exact ⟨j + 1, by omega, by go_num, by omega, HFin.out⟩
                          · have hb2 : (e2 == 0) = false := by simpa using h2
                            clear h2
                            go_wp2
                            go_roundg (q - (j + 1))
                            case measure => omega
                            case rel => exact ⟨j + 1, by omega, by go_num, by omega, HFin.out⟩
                        · have hb1 : (e1 == 0) = false := by simpa using h1
                          clear h1
                          go_wp2
                          go_roundg (q - (j + 1))
                          case measure => omega
                          case rel => exact ⟨j + 1, by omega, by go_num, by omega, HFin.out⟩
                      · have t2 := debt_f k2
                        have hyn : ¬ yn < 0 := by have h := HYP.out (owes_f k1 k2); simp only at h; omega
                        clear k1 k2
                        by_cases h1 : e1 = 0
                        · subst h1
                          by_cases h2 : e2 = 0
                          · subst h2
                            have hsum := HSUM.out rfl rfl
                            have hwr : IntKind.i64.wrap (lo + hi) = 0 := by rw [hsum]; decide +kernel
                            have hw64 : wrap64 (lo + hi) = 0 := by rw [hsum]; decide +kernel
                            clear hsum
                            go_wp2
                            go_roundg (q - (j + 1))
                            case measure => omega
                            case rel => exact ⟨j + 1, by omega, by go_num, by omega, HFin.out⟩
                          · have hb2 : (e2 == 0) = false := by simpa using h2
                            clear h2
                            go_wp2
                            go_roundg (q - (j + 1))
                            case measure => omega
                            case rel => exact ⟨j + 1, by omega, by go_num, by omega, HFin.out⟩
                        · have hb1 : (e1 == 0) = false := by simpa using h1
                          clear h1
                          go_wp2
                          go_roundg (q - (j + 1))
                          case measure => omega
                          case rel => exact ⟨j + 1, by omega, by go_num, by omega, HFin.out⟩
          · have e : q = j := by omega
            clear hgj hj hjt
            subst e
            have HA6 := Lib.hid (HA5.out.since (PBk.stays _ _ _) HB.out)
            go_wp2
            go_roundg (n - (k + 1))
            case measure => omega
            case rel => exact ⟨k + 1, by omega, by go_num, by omega, by rw [HMS.out, HTS.out]; exact HA6.out⟩
      · have e : n = k := by omega
        clear hgk hk
        subst e
        have HB : Hid (Below w.heap.size w wr) := HA.out.bel
        have HP := Lib.hid (post_nil wr)
        have HG : Hid (Calls Try.prog 14 #[.pointer none, .string ⟨#[102, 101, 101]⟩, .string ⟨#[]⟩, .string ⟨#[69, 85, 82]⟩] wr fun e w' => e = .returned (.int .i64 0) ∧ wr = w') := get_nil _ _ _ wr
        have HL := Lib.hid (all_nil wr)
        have HC := Lib.hid (clone_nil wr)
        clear HA
        go_wp2_with fail
        with_reducible refine HP.out.mono ?_
        rintro e w1 ⟨rfl, rfl⟩
        go_wp2_with fail
        with_reducible refine HG.out.mono ?_
        rintro e w1 ⟨rfl, rfl⟩
        go_wp2_with fail
        with_reducible refine HL.out.mono ?_
        rintro e w1 ⟨rfl, rfl⟩
        go_wp2_with fail
        with_reducible refine HC.out.mono ?_
        rintro e w1 ⟨rfl, rfl⟩
        go_wp2
        go_ret
        exact ⟨rfl, HB.out⟩
end Go.Proofs.Yteclhcjfnmkkjaa
