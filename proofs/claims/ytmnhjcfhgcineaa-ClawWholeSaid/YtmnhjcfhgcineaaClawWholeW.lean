/-
  The walk of souklaw13.ClawWhole.
-/
import Derived.Test.YtmnhjcfhgcineaaClF
import Derived.Test.YtmnhjcfhgcineaaClV
namespace Go.Proofs.Ytmnhjcfhgcineaa
open Go.RowKit Go.Deep

theorem tkE_good {ws : List Int} {T : Int} (hn : ∀ z ∈ ws, 0 ≤ z) (hs : ws.sum ≤ 655350) (h1 : 1 ≤ T) (h2 : T ≤ ws.sum) : tkE ws T = 0 := by
  have hA : anyNeg ws = false := anyNeg_none fun k hk => hn _ (getD_mem hk)
  have e := tkE_sum (ws := ws) (T := T) (by omega) hA
  have e2 := sumTo_nonneg ws 0 (by omega) hn (by omega)
  rw [e2] at e
  simp only at e
  rw [if_neg (by omega)] at e
  exact e

theorem tkE_more {ws : List Int} {T : Int} (hn : ∀ z ∈ ws, 0 ≤ z) (hs : ws.sum ≤ 655350) (h1 : 1 ≤ T) (h2 : ws.sum < T) : tkE ws T = 10 := by
  have hA : anyNeg ws = false := anyNeg_none fun k hk => hn _ (getD_mem hk)
  have e := tkE_sum (ws := ws) (T := T) (by omega) hA
  have e2 := sumTo_nonneg ws 0 (by omega) hn (by omega)
  rw [e2] at e
  simp only at e
  rw [if_pos (by omega)] at e
  exact e

/-- a sale of which ws is left -/
structure WhP (w wr : World) (b n : Nat) (R : Int) (ws : List Int) (a : Option Addr) (ca : Nat) : Prop where
  len : ws.length = n
  nn : ∀ z ∈ ws, 0 ≤ z
  amt : ∀ z ∈ ws, Amt z
  sum : ws.sum = R
  sale : SaleP wr b ws a ca
  newb : w.heap.size ≤ b
  below : Below w.heap.size w wr

theorem WhP.keep {w wr wr' : World} {b n : Nat} {R : Int} {ws : List Int} {a : Option Addr} {ca : Nat} (h : WhP w wr b n R ws a ca) (hb : Below wr.heap.size wr wr') : WhP w wr' b n R ws a ca :=
  ⟨h.len, h.nn, h.amt, h.sum, h.sale.keep hb, h.newb, bel_on h.below h.below.size hb⟩

theorem WhP.cell {w wr : World} {b n : Nat} {R : Int} {ws : List Int} {a : Option Addr} {ca : Nat} (h : WhP w wr b n R ws a ca) : wr.cell? ⟨b, 0, none⟩ = some (.slice a n ca) := by
  have := h.sale.cell
  rw [h.len] at this
  exact this

/-- what a Refund that may be does -/
theorem WhP.refund {w wr : World} {b n : Nat} {R T : Int} {ws : List Int} {a : Option Addr} {ca : Nat} (h : WhP w wr b n R ws a ca) (hR : R ≤ 655350) (h1 : 1 ≤ T) (h2 : T ≤ R) (hn : n ≤ 10) :
    Calls Try.prog 11 #[.pointer (some ⟨b, 0, none⟩), .int .i64 T] wr fun e w' => ∃ g ws' a' ca', e = .returned (.tuple #[.slice (some ⟨g, 0, none⟩) n n, .int .i64 0]) ∧ WhP w w' b n (R - T) ws' a' ca' := by
  have he : tkE ws T = 0 := tkE_good h.nn (by rw [h.sum]; exact hR) h1 (by rw [h.sum]; exact h2)
  have G := GoodT.of he
  refine Calls.mono (refund_yes T b a ca ws wr h.sale h.amt (by rw [h.len]; omega) he) ?_
  rintro e w' ⟨g, g2, ps, rfl, _, _, ht, _, hsale, hgrow⟩
  refine ⟨g, subL ws ps, _, _, by rw [h.len], by rw [subL_length]; exact h.len, fun z hz => ?_, sub_amt G ht h.amt, by rw [sub_sum G ht, h.sum], hsale, h.newb, h.below.grown hgrow h.below.size (fun k e => by injection e with e; rw [← e]; exact h.newb)⟩
  obtain ⟨i, hi, rfl⟩ := mem_get hz
  rw [subL_length] at hi
  exact (sub_between G ht i hi).1

theorem WhP.more {w wr : World} {b n : Nat} {R T : Int} {ws : List Int} {a : Option Addr} {ca : Nat} (h : WhP w wr b n R ws a ca) (hR : R ≤ 655350) (h1 : 1 ≤ T) (h2 : R < T) (hn : n ≤ 10) :
    Calls Try.prog 11 #[.pointer (some ⟨b, 0, none⟩), .int .i64 T] wr fun e w' => e = .returned (.tuple #[.slice none 0 0, .int .i64 10]) ∧ wr = w' := by
  have he : tkE ws T = 10 := tkE_more h.nn (by rw [h.sum]; exact hR) h1 (by rw [h.sum]; exact h2)
  have := refund_bad T b a ca ws wr h.sale h.amt (by unfold maxLen; have := h.len; omega) (by rw [he]; decide)
  unfold TkBad at this
  rw [he] at this
  exact this

/-- nothing is left -/
theorem WhP.none {w wr : World} {b n : Nat} {ws : List Int} {a : Option Addr} {ca : Nat} (h : WhP w wr b n 0 ws a ca) (hn : n ≤ 10) :
    Calls Try.prog 13 #[.slice a n ca, .func (.func 14) #[] #[]] wr fun e w' => e = .returned (.bool false) ∧ wr = w' := by
  have h1 := conW_any _ whole1_any a ca ws wr h.sale.row (by unfold maxLen; have := h.len; omega)
  rw [h.len, any_none fun k hk => ?_] at h1
  · exact h1
  · have := none_left (fun i hi => h.nn _ (getD_mem hi)) h.sum k hk
    rw [this]
    rfl

/-- the sale while its parts are laid down -/
structure WhAt (ls : List Int) (w wr : World) (b : Nat) (k : Nat) (A : Option Addr) (cA : Nat) : Prop where
  box : Blk wr b 33 #[.slice A k cA]
  row : wr.ownsRow (b + 1) 2 1 (.slice A k cA) k (iv (ls.take k))
  newb : w.heap.size ≤ b
  below : Below w.heap.size w wr

theorem WhAt.next {ls : List Int} {w wr w' : World} {b k : Nat} {A A' : Option Addr} {cA cA' : Nat} (h : WhAt ls w wr b k A cA) (hown : w'.ownsRow (b + 1) 2 1 (.slice A' (k + 1) cA') (k + 1) (iv (ls.take (k + 1)))) (hb : Below (b + 1) wr w') :
    WhAt ls w (w'.setCell ⟨b, 0, none⟩ (.slice A' (k + 1) cA')) b (k + 1) A' cA' := by
  have hlo : w.heap.size ≤ b := h.newb
  have hg : w'.grownBy (w'.setCell ⟨b, 0, none⟩ (.slice A' (k + 1) cA')) (some b) :=
    ⟨rfl, rfl, rfl, by simp [World.setCell], fun j _ hne => Below.heap_setCell w' ⟨b, 0, none⟩ _ j (fun e => hne (by rw [e]))⟩
  refine ⟨(h.box.below hb (by omega)).set 0 _, hown.kept hg ?_, hlo, (h.below.trans (hb.mono (by omega))).setCell hlo _⟩
  refine .inr fun e => ?_
  have := (hown.lt b e).1
  omega

theorem iv_snoc {ls : List Int} {k : Nat} (h : k < ls.length) : iv (ls.take k) ++ [.int .i64 (ls.getD k 0)] = iv (ls.take (k + 1)) := by
  unfold iv
  rw [List.take_add_one, List.map_append, List.getElem?_eq_getElem h, List.getD_eq_getElem?_getD, List.getElem?_eq_getElem h]
  rfl

theorem sum_snoc {ls : List Int} {k : Nat} (h : k < ls.length) : (ls.take (k + 1)).sum = (ls.take k).sum + ls.getD k 0 := by
  rw [List.take_add_one, List.sum_append, List.getElem?_eq_getElem h, List.getD_eq_getElem?_getD, List.getElem?_eq_getElem h]
  simp

theorem sum_le {ls : List Int} (hz : ∀ z ∈ ls, 0 ≤ z ∧ z ≤ 65535) : ∀ k, k ≤ ls.length → 0 ≤ (ls.take k).sum ∧ (ls.take k).sum ≤ 65535 * (k : Int)
  | 0, _ => by simp
  | k + 1, h => by
    have h1 := sum_le hz k (by omega)
    have h2 := hz _ (getD_mem (zs := ls) (k := k) (by omega))
    rw [sum_snoc (by omega)]
    omega

set_option maxHeartbeats 1600000 in
set_option maxRecDepth 100000 in
theorem whole_many (a aL : Option Addr) (n c m cL : Nat) (w : World) (hn : 10 < n ∨ 60 < m) :
    Calls Try.prog 5 #[.slice a n c, .slice aL m cL] w fun e w' => e = .returned (.bool true) ∧ Below w.heap.size w w' := by
  have HL := Lib.hid lives13_any
  by_cases hn1 : 10 < n
  · have hgt : (10 : Int) < (n : Int) := by omega
    clear hn hn1
    go_enter Try.func5, Try.ntmps5
    go_wp2_with fail
    refine (HL.out _).mono ?_
    rintro e w1 ⟨rfl, hb⟩
    have HB := Lib.hid hb
    clear hb
    go_wp2_with fail
    refine (HL.out _).mono ?_
    rintro e w2 ⟨rfl, hb⟩
    have HB2 := Lib.hid (bel_on HB.out HB.out.size hb)
    clear hb HL
    go_wp2
    go_ret
    exact ⟨rfl, HB2.out⟩
  · have hgt : ¬ (10 : Int) < (n : Int) := by omega
    have hgt2 : (60 : Int) < (m : Int) := by omega
    clear hn hn1
    go_enter Try.func5, Try.ntmps5
    go_wp2_with fail
    refine (HL.out _).mono ?_
    rintro e w1 ⟨rfl, hb⟩
    have HB := Lib.hid hb
    clear hb
    go_wp2_with fail
    refine (HL.out _).mono ?_
    rintro e w2 ⟨rfl, hb⟩
    have HB2 := Lib.hid (bel_on HB.out HB.out.size hb)
    clear hb HL
    go_wp2
    go_ret
    exact ⟨rfl, HB2.out⟩

set_option maxHeartbeats 6400000 in
set_option maxRecDepth 100000 in
theorem whole_few (a aL : Option Addr) (c cL : Nat) (ls ps : List Int) (w : World) (hr : RowI .u16 w a ls) (hz : ∀ z ∈ ls, 0 ≤ z ∧ z ≤ 65535) (hrl : RowI .u16 w aL ps) (hzl : ∀ z ∈ ps, 0 ≤ z ∧ z ≤ 65535) (hn : ls.length ≤ 10) (hm : ps.length ≤ 60) :
    Calls Try.prog 5 #[.slice a ls.length c, .slice aL ps.length cL] w fun e w' => e = .returned (.bool true) ∧ Below w.heap.size w w' := by
  have HL := Lib.hid lives13_any
  have HR := Lib.hid hr
  have HRL := Lib.hid hrl
  have HZ := Lib.hid hz
  have HZL := Lib.hid hzl
  obtain ⟨n, hnn⟩ : ∃ n, n = ls.length := ⟨_, rfl⟩
  obtain ⟨m, hmm⟩ : ∃ m, m = ps.length := ⟨_, rfl⟩
  have HN := Lib.hid hnn
  have HM := Lib.hid hmm
  rw [← hnn] at hn ⊢
  rw [← hmm] at hm ⊢
  have hgt : ¬ (10 : Int) < (n : Int) := by omega
  have hgt2 : ¬ (60 : Int) < (m : Int) := by omega
  clear hr hz hrl hzl hnn hmm
  go_enter Try.func5, Try.ntmps5
  go_wp2_with fail
  refine (HL.out _).mono ?_
  rintro e w1 ⟨rfl, hb⟩
  have HB1 := Lib.hid hb
  clear hb HL
  have HWA : Hid (WhAt ls w (w1.alloc (.cells #[.slice none 0 0] 33)) w1.heap.size 0 none 0) := ⟨Blk.new w1 _ _, World.ownsRow_nil _ _ _ _, HB1.out.size, HB1.out.alloc HB1.out.size _⟩
  go_wp2
  obtain ⟨b, hb⟩ : ∃ b, b = w1.heap.size := ⟨_, rfl⟩
  obtain ⟨w2, hw2⟩ : ∃ w2, w2 = w1.alloc (.cells #[.slice none 0 0] 33) := ⟨_, rfl⟩
  rw [← hw2, ← hb] at HWA ⊢
  clear hw2 hb HB1
  go_loopg [6, 8, 35] n (fun gk r _ i wr => ∃ (k : Nat) (A : Option Addr) (cA : Nat), k ≤ n ∧ i = .int .i64 k ∧ n - k ≤ gk ∧ r = .int .i64 (ls.take k).sum ∧ Hid (WhAt ls w wr b k A cA))
  case atStart => exact ⟨0, none, 0, Nat.zero_le _, rfl, by omega, rfl, HWA⟩
  case round =>
    clear HWA
    obtain ⟨k, A, cA, hk, rfl, hgk, rfl, HWA⟩ := hrel
    by_cases hlt : k < n
    · obtain ⟨bl, ol, rfl, hcl⟩ := (HR.out.keep (w' := wr) HWA.out.below) (by rw [← HN.out]; omega)
      have cl := hcl k (by rw [← HN.out]; exact hlt)
      have hzk := HZ.out _ (getD_mem (k := k) (by rw [← HN.out]; exact hlt))
      have hsm := sum_le HZ.out k (by rw [← HN.out]; exact hk)
      have hsn := sum_snoc (ls := ls) (k := k) (by rw [← HN.out]; exact hlt)
      have hiv := iv_snoc (ls := ls) (k := k) (by rw [← HN.out]; exact hlt)
      obtain ⟨z, hz⟩ : ∃ z, z = ls.getD k 0 := ⟨_, rfl⟩
      obtain ⟨s, hs⟩ : ∃ s, s = (ls.take k).sum := ⟨_, rfl⟩
      rw [← hz] at cl hzk hsn hiv
      rw [← hs] at hsm hsn ⊢
      have HIV := Lib.hid hiv
      have HSN := Lib.hid hsn
      obtain ⟨hz1, hz2⟩ := hzk
      obtain ⟨hs1, hs2⟩ := hsm
      have c0 := HWA.out.box.cell 0
      clear hcl hz hs hiv hsn
      go_wp2_with (at_builtin; refine wpList_append_one rfl (.tmp 43) (.tmp 46) 22 rfl (b + 1) 2 _ 8 Try.underlying22 infoI64 rfl _ _ rfl (.slice A k cA) k _ rfl rfl HWA.out.row HWA.out.box.lt (by unfold maxLen; omega) (by omega) ?_)
      intro v' w' hown hb
      rw [HIV.out] at hown
      obtain ⟨A', cA', rfl⟩ := own_slice hown
      have HNX := Lib.hid (HWA.out.next hown hb)
      have f0 := (HWA.out.box.below hb (by omega)).frozen 0
      have c1 := (HWA.out.box.below hb (by omega)).cell 0
      clear hown hb c0
      go_wp2
      go_roundg (n - (k + 1))
      case measure => omega
      case rel => exact ⟨k + 1, A', cA', by omega, by go_num, by omega, int_eq HSN.out.symm, HNX.out⟩
    · have hkn : k = n := by omega
      have hlen : ls.take k = ls := by rw [hkn, HN.out]; exact List.take_length
      have hsm := sum_le HZ.out k (by rw [← HN.out]; exact hk)
      rw [hlen] at hsm ⊢
      have HWP : Hid (WhP w wr b n ls.sum ls A cA) := by
        have h1 := HWA.out.box
        have h2 := HWA.out.row
        rw [hlen] at h2
        refine ⟨HN.out.symm, fun z hz => (HZ.out z hz).1, fun z hz => by have := HZ.out z hz; unfold Amt; omega, rfl, ⟨?_, RowI.of_own h2⟩, HWA.out.newb, HWA.out.below⟩
        rw [← HN.out, ← hkn]
        exact h1
      obtain ⟨R0, hR0⟩ : ∃ R, R = ls.sum := ⟨_, rfl⟩
      rw [← hR0] at hsm HWP ⊢
      obtain ⟨hs1, hs2⟩ := hsm
      have hs3 : R0 ≤ 655350 := by omega
      have hnk : ¬ ((k : Int) < (n : Int)) := by omega
      clear HWA hlen hR0 hs2 HR HZ hkn
      go_wp2
      clear hnk
      go_loopg [6, 10, 11, 12, 13, 57, 67] m (fun gj r _ _ _ _ i _ wr => ∃ (j : Nat) (R : Int) (ws : List Int) (a1 : Option Addr) (ca : Nat), j ≤ m ∧ i = .int .i64 j ∧ m - j ≤ gj ∧ r = .int .i64 R ∧ 0 ≤ R ∧ R ≤ 655350 ∧ Hid (WhP w wr b n R ws a1 ca))
      case atStart => exact ⟨0, R0, ls, A, cA, Nat.zero_le _, rfl, by omega, rfl, hs1, hs3, HWP⟩
      case round =>
        clear HWP hs1 hs3
        obtain ⟨j, R, ws, a1, ca, hj, rfl, hgj, rfl, hR0, hR1, HWP⟩ := hrel
        by_cases hlt : j < m
        · obtain ⟨bl, ol, rfl, hcl⟩ := (HRL.out.keep (w' := wr) HWP.out.below) (by rw [← HM.out]; omega)
          have cl := hcl j (by rw [← HM.out]; exact hlt)
          have hzk := HZL.out _ (getD_mem (k := j) (by rw [← HM.out]; exact hlt))
          obtain ⟨q, hq⟩ : ∃ q, q = ps.getD j 0 := ⟨_, rfl⟩
          rw [← hq] at cl hzk
          obtain ⟨hq1, hq2⟩ := hzk
          clear hcl hq
          have hm1 : min q R ≤ R := by omega
          have hm0 : 0 ≤ min q R := by omega
          by_cases h0 : min q R = 0
          · clear hm1 hm0
            go_wp2
            go_roundg (m - (j + 1))
            case measure => omega
            case rel => exact ⟨j + 1, R, ws, a1, ca, by omega, by go_num, by omega, rfl, hR0, hR1, HWP.out⟩
          · have H1 := Lib.hid (HWP.out.refund hR1 (T := min q R) (by omega) hm1 hn)
            go_wp2_with fail
            with_reducible refine H1.out.mono ?_
            rintro e w6 ⟨g, ws', a', ca', rfl, hwp⟩
            have HWP2 := Lib.hid hwp
            clear hwp H1
            go_wp2
            go_roundg (m - (j + 1))
            case measure => omega
            case rel => exact ⟨j + 1, R - min q R, ws', a', ca', by omega, by go_num, by omega, rfl, by omega, by omega, HWP2.out⟩
        · have hnj : ¬ ((j : Int) < (m : Int)) := by omega
          by_cases h0 : 0 < R
          · have H1 := Lib.hid (HWP.out.more hR1 (T := R + 1) (by omega) (by omega) hn)
            go_wp2_with fail
            refine H1.out.mono ?_
            rintro e w6 ⟨rfl, rfl⟩
            have H2 := Lib.hid (HWP.out.refund hR1 (by omega) (Int.le_refl R) hn)
            clear H1
            go_wp2_with fail
            refine H2.out.mono ?_
            rintro e w7 ⟨g, ws', a', ca', rfl, hwp⟩
            rw [Int.sub_self] at hwp
            have c0 := hwp.cell
            have H3 := Lib.hid (hwp.none hn)
            have HBF := Lib.hid hwp.below
            clear hwp H2
            go_wp2_with fail
            refine H3.out.mono ?_
            rintro e w8 ⟨rfl, rfl⟩
            go_wp2
            go_ret
            exact ⟨rfl, HBF.out⟩
          · obtain rfl : R = 0 := by omega
            have c0 := HWP.out.cell
            have H3 := Lib.hid (HWP.out.none hn)
            have HBF := Lib.hid HWP.out.below
            go_wp2_with fail
            refine H3.out.mono ?_
            rintro e w8 ⟨rfl, rfl⟩
            go_wp2
            go_ret
            exact ⟨rfl, HBF.out⟩
end Go.Proofs.Ytmnhjcfhgcineaa
