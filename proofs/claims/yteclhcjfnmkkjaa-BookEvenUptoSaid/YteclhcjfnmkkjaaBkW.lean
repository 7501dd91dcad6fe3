/-
  Contract of soukref07.Post.
-/
import Derived.Test.YteclhcjfnmkkjaaBkT
import Derived.Test.YteclhcjfnmkkjaaBkU
import Derived.Test.YteclhcjfnmkkjaaBkV
namespace Go.Proofs.Yteclhcjfnmkkjaa
open Go.RowKit Go.Lib

theorem setL_len (x : Ln) : ∀ (m : List Ln) (d : Bool), (setL x d m).length ≤ m.length + (if d then 0 else 1)
  | [], d => by cases d <;> simp [setL]
  | y :: r, d => by
    rw [setL]
    have ih := setL_len x r (d || decide (0 < cmpA y.1 x.1))
    rw [List.length_append, List.length_append, List.length_cons]
    have h2 : (if cmpA y.1 x.1 ≠ 0 then [y] else ([] : List Ln)).length ≤ 1 := by split <;> simp
    cases d with
    | true =>
      simp only [Bool.true_or, if_true, Bool.true_eq_false, and_false, if_false, List.length_nil, Nat.add_zero] at ih ⊢
      omega
    | false =>
      by_cases h : 0 < cmpA y.1 x.1
      · simp only [h, decide_true, Bool.or_true, if_true, true_and, Bool.false_eq_true, if_false, List.length_cons, List.length_nil] at ih ⊢
        omega
      · simp only [h, decide_false, Bool.or_false, false_and, if_false, Bool.false_eq_true, List.length_nil] at ih ⊢
        omega
theorem rSet_len (m : List Ln) (x : Ln) : (rSet m x).length ≤ m.length + 1 := by
  have := setL_len x m (decide (x.2 = 0))
  unfold rSet
  split at this <;> omega

/-- all balances are amounts -/
def Amts (m : List Ln) : Prop := ∀ a, Amt (rGet m a)
theorem Amts.set {m : List Ln} (h : Amts m) (hs : Srt m) {x : Ln} (hx : Amt x.2) : Amts (rSet m x) := fun a => by
  rw [rGet_set hs]
  split
  · exact hx
  · exact h a
theorem amts_nil : Amts [] := fun _ => by show Amt 0; exact ⟨by decide, by decide⟩
theorem addL_amts {l : List Ln} {m m' : List Ln} (hs : Srt m) (ha : Amts m) (h : addL m l = some m') : Amts m' := by
  induction l generalizing m with
  | nil => simp [addL] at h; rw [← h]; exact ha
  | cons x r ih =>
    simp only [addL] at h
    split at h
    · rename_i h1; exact ih (srt_rSet hs _) (ha.set hs h1) h
    · cases h

/-- what the document's Post leaves -/
def PostTo (w : World) (a0 : Option Addr) (m l : List Ln) (e : Ending) (w' : World) : Prop :=
  ∃ a c, e = .returned (.tuple #[.slice a (postL m l).1.length c, .int .i64 (postL m l).2]) ∧ RowL w' a (postL m l).1 ∧ ((a = a0 ∧ (postL m l).1 = m) ∨ ∀ p, a = some p → w.heap.size ≤ p.block) ∧ Below w.heap.size w w'

theorem sideL_step {m : List Ln} {k : Nat} {x : Ln} (hx : m[k]? = some x) (h : sideL (m.take k) = true) (e : sideOk x = true) : sideL (m.take (k + 1)) = true := by
  obtain ⟨h1, h2⟩ := List.getElem?_eq_some_iff.1 hx
  unfold sideL at h ⊢
  rw [List.take_succ_eq_append_getElem h1, List.all_append, h, h2]
  simp [e]
theorem sideL_no {m : List Ln} {k : Nat} {x : Ln} (hx : m[k]? = some x) (e : sideOk x = false) : sideL m = false := by
  unfold sideL
  rw [List.all_eq_false]
  exact ⟨x, List.mem_of_getElem? hx, by rw [e]; decide⟩

theorem rowL_cells {w : World} {b off : Nat} {ls : List Ln} (h : RowL w (some ⟨b, off, none⟩) ls) {k : Nat} {x : Ln} (hx : ls[k]? = some x) :
    w.cell? ⟨b, off + k * 4, none⟩ = some (.string (st x.1.1)) ∧ w.cell? ⟨b, off + k * 4 + 1, none⟩ = some (.string (st x.1.2.1)) ∧ w.cell? ⟨b, off + k * 4 + 2, none⟩ = some (.string (st x.1.2.2)) ∧ w.cell? ⟨b, off + k * 4 + 3, none⟩ = some (.int .i64 x.2) := by
  obtain ⟨b', off', e, hc⟩ := h (by have := (List.getElem?_eq_some_iff.1 hx).1; omega)
  simp only [Option.some.injEq, Addr.mk.injEq, and_true] at e
  obtain ⟨rfl, rfl⟩ := e
  exact ⟨by simpa using hc k x hx 0 _ rfl, hc k x hx 1 _ rfl, hc k x hx 2 _ rfl, hc k x hx 3 _ rfl⟩
theorem rowL_form {w : World} {a : Option Addr} {ls : List Ln} (h : RowL w a ls) (hp : 0 < ls.length) : ∃ b off, a = some ⟨b, off, none⟩ := by
  obtain ⟨b, off, e, _⟩ := h hp
  exact ⟨b, off, e⟩

set_option maxHeartbeats 8000000 in
set_option maxRecDepth 100000 in
theorem rPost_any (a0 : Option Addr) (c0 : Nat) (m : List Ln) (a1 : Option Addr) (c1 : Nat) (l : List Ln) (w : World) (hm : RowL w a0 m) (hr : RowL w a1 l) (hml : m.length ≤ 2097152) (hl : l.length ≤ 2097152) (hk : OkLs l) (hs : Srt m) (hz : Nz m) (ha : Amts m) :
    Calls Try.prog 10 #[.slice a0 m.length c0, .slice a1 l.length c1] w (PostTo w a0 m l) := by
  obtain ⟨n, hn⟩ : ∃ n, n = l.length := ⟨_, rfl⟩
  obtain ⟨mn, hmn⟩ : ∃ mn, mn = m.length := ⟨_, rfl⟩
  have HN := Lib.hid hn
  have HMN := Lib.hid hmn
  have HM := Lib.hid hm
  have HR := Lib.hid hr
  have HK := Lib.hid hk
  have HS := Lib.hid hs
  have HZ := Lib.hid hz
  have HA := Lib.hid ha
  have HEV : Hid (∀ W, Below w.heap.size w W → Calls Try.prog 25 #[.slice a1 n c1] W fun e w' => e = .returned (.bool (evenL l)) ∧ Below W.heap.size W w') := fun W hb => by
    have := reven_any a1 c1 l W (hr.keep hb) hl hk
    rw [← hn] at this; exact this
  rw [← hn] at hl ⊢
  rw [← hmn] at hml ⊢
  have HSame : Hid (∀ (W : World) (er : Int), postL m l = (m, er) → Below w.heap.size w W → PostTo w a0 m l (.returned (.tuple #[.slice a0 mn c0, .int .i64 er])) W) := fun W er he hb => by
    unfold PostTo
    rw [he]
    exact ⟨a0, c0, by rw [hmn], hm.keep hb, .inl ⟨rfl, rfl⟩, hb⟩
  clear hn hmn hm hr hk hs hz ha
  go_enter Try.func10, Try.ntmps10
  go_wp2
  go_loopg [6, 7] n (fun gk i _ wr => ∃ k : Nat, k ≤ n ∧ i = .int .i64 k ∧ n - k ≤ gk ∧ Hid (rightL (l.take k) = true) ∧ Hid (Below w.heap.size w wr))
  case atStart => exact ⟨0, Nat.zero_le _, rfl, by omega, rfl, Below.refl _ _⟩
  case round =>
    obtain ⟨k, hk, rfl, hgk, HT, HB⟩ := hrel
    by_cases hlt : k < n
    · obtain ⟨x, hx⟩ : ∃ x, l[k]? = some x := ⟨_, List.getElem?_eq_getElem (by rw [← HN.out]; exact hlt)⟩
      obtain ⟨b, off, rfl⟩ := rowL_form HR.out (by rw [← HN.out]; omega)
      obtain ⟨f0, f1, f2, f3⟩ := rowL_cells (HR.out.keep HB.out) hx
      have hkz : (0 : Int) ≤ (k : Int) := by omega
      have hkn : (k : Int) < (n : Int) := by omega
      have HX := Lib.hid hx
      have H1 : Hid (∀ W, Calls Try.prog 17 #[.agg #[.string (st x.1.1), .string (st x.1.2.1), .string (st x.1.2.2), .int .i64 x.2]] W fun e w' => e = .returned (.bool (rightA x.1)) ∧ Below W.heap.size W w') := rRight_any x.1 x.2
      clear hx
      go_wp2_with fail
      with_reducible refine (H1.out _).mono ?_
      rintro e w1 ⟨rfl, hb⟩
      have HB1 : Hid (Below w.heap.size w w1) := below_on HB.out HB.out.size hb
      clear hb H1 f0 f1 f2 f3
      cases hra : rightA x.1 with
      | true =>
        have HT1 : Hid (rightL (l.take (k + 1)) = true) := by show _ = _; rw [rightL_take HX.out, HT.out, hra]; rfl
        clear hra
        go_wp2
        go_roundg (n - (k + 1))
        case measure => omega
        case rel => exact ⟨k + 1, by omega, by go_num, by omega, HT1.out, HB1.out⟩
      | false =>
        have HF := Lib.hid (HSame.out w1 1 (postL_right (rightL_false HX.out hra)) HB1.out)
        clear hra
        go_wp2
        go_ret2
        exact HF.out
    · have e : n = k := by omega
      have HRT : Hid (rightL l = true) := by have := HT.out; rw [List.take_of_length_le (by rw [← HN.out]; omega)] at this; exact this
      clear hgk HT hk
      subst e
      have H2 := Lib.hid (HEV.out wr HB.out)
      clear HEV
      cases hev : evenL l with
      | false =>
        rw [hev] at H2
        go_wp2_with fail
        with_reducible refine H2.out.mono ?_
        rintro e w1 ⟨rfl, hb⟩
        have HF := Lib.hid (HSame.out w1 1 (postL_even hev) (below_on HB.out HB.out.size hb))
        clear hev hb
        go_wp2
        go_ret2
        exact HF.out
      | true =>
        rw [hev] at H2
        go_wp2_with fail
        with_reducible refine H2.out.mono ?_
        rintro e w1 ⟨rfl, hb⟩
        have HB1 : Hid (Below w.heap.size w w1) := below_on HB.out HB.out.size hb
        have HEVT := Lib.hid hev
        clear hev hb H2 HB hlt
        go_wp2
        go_loopg [9, 10, 11, 12, 13] n (fun gk o i _ _ _ wr => ∃ (k : Nat) (mk : List Ln) (a : Option Addr) (c : Nat), k ≤ n ∧ i = .int .i64 k ∧ o = .slice a mk.length c ∧ n - k ≤ gk ∧ Hid (addL m (l.take k) = some mk) ∧ Hid (mk.length ≤ mn + k) ∧ Hid (RowL wr a mk) ∧ Hid ((a = a0 ∧ mk = m) ∨ ∀ p, a = some p → w.heap.size ≤ p.block) ∧ Hid (Below w.heap.size w wr))
        case atStart => exact ⟨0, m, a0, c0, Nat.zero_le _, rfl, by rw [HMN.out], by omega, rfl, by rw [HMN.out]; exact Nat.le_refl _, HM.out.keep HB1.out, .inl ⟨rfl, rfl⟩, HB1.out⟩
        case round =>
          clear HB1
          obtain ⟨k, mk, a, c, hk, rfl, rfl, hgk, HAD, HLE, HRM, HFR, HB⟩ := hrel
          obtain ⟨q, hq⟩ : ∃ q, q = mk.length := ⟨_, rfl⟩
          have HQ := Lib.hid hq
          rw [← hq] at HLE ⊢
          have hql := HLE.out
          clear hq
          by_cases hlt : k < n
          · obtain ⟨x, hx⟩ : ∃ x, l[k]? = some x := ⟨_, List.getElem?_eq_getElem (by rw [← HN.out]; exact hlt)⟩
            obtain ⟨b, off, rfl⟩ := rowL_form HR.out (by rw [← HN.out]; omega)
            obtain ⟨f0, f1, f2, f3⟩ := rowL_cells (HR.out.keep HB.out) hx
            have hkz : (0 : Int) ≤ (k : Int) := by omega
            have hkn : (k : Int) < (n : Int) := by omega
            have HX := Lib.hid hx
            have hok := HK.out x (List.mem_of_getElem? hx)
            obtain ⟨hs2, hz2⟩ := addL_srt HS.out HZ.out HAD.out
            have ha2 := addL_amts HS.out HA.out HAD.out
            have HS2 := Lib.hid hs2
            obtain ⟨s, hsv⟩ : ∃ s, s = rGet mk x.1 := ⟨_, rfl⟩
            have HSV := Lib.hid hsv
            have HAS : Hid (Amt s) := by rw [hsv]; exact ha2 _
            have HAZ : Hid (Amt x.2) := hok.2.2.2
            have HBX : Hid (Blk (wr.alloc (.cells #[.string (st x.1.1), .string (st x.1.2.1), .string (st x.1.2.2), .int .i64 x.2] 37)) wr.heap.size 37 #[.string (st x.1.1), .string (st x.1.2.1), .string (st x.1.2.2), .int .i64 x.2]) := Blk.new wr _ _
            have HSw : Hid (Stp [] wr (wr.alloc (.cells #[.string (st x.1.1), .string (st x.1.2.1), .string (st x.1.2.2), .int .i64 x.2] 37))) := (Stp.refl [] wr).alloc _
            have HWR : Hid (w.heap.size ≤ wr.heap.size) := HB.out.size
            clear hx hok hs2 hz2 ha2 hsv
            go_wp2_with fail
            clear f0 f1 f2 f3
            generalize wr.alloc (.cells #[.string (st x.1.1), .string (st x.1.2.1), .string (st x.1.2.2), .int .i64 x.2] 37) = wb at HBX HSw ⊢
            have e0 : wb.cell? ⟨wr.heap.size, 0, none⟩ = some (.string (st x.1.1)) := HBX.out.cell 0
            have e1 : wb.cell? ⟨wr.heap.size, 1, none⟩ = some (.string (st x.1.2.1)) := HBX.out.cell 1
            have e2 : wb.cell? ⟨wr.heap.size, 2, none⟩ = some (.string (st x.1.2.2)) := HBX.out.cell 2
            have e3 : wb.cell? ⟨wr.heap.size, 3, none⟩ = some (.int .i64 x.2) := HBX.out.cell 3
            have HG : ∀ d, Hid (Calls Try.prog 15 #[.slice a q c, .string (st x.1.1), .string (st x.1.2.1), .string (st x.1.2.2)] (wb.drewN d) fun e w' => e = .returned (.int .i64 s) ∧ w' = wb.drewN d) := fun d => by
              have h := rGet_any a c mk x.1 (wb.drewN d) (HRM.out.keep ((HSw.out.drewN d).below (by simp) (Nat.le_refl _))) (by rw [← HQ.out]; omega)
              rw [← HQ.out, ← HSV.out] at h
              exact h.mono fun e w' ⟨h1, h2⟩ => ⟨h1, h2.symm⟩
            by_cases hav : Amt (s + x.2)
            · have HAd : ∀ d, Hid (Calls Try.prog 26 #[.int .i64 s, .int .i64 x.2] (wb.drewN d) fun e w' => e = .returned (.tuple #[.int .i64 (s + x.2), .bool true]) ∧ w' = wb.drewN d) := fun d => by
                have h := rAdd_any s x.2 (wb.drewN d) HAS.out HAZ.out
                rw [show sumV s x.2 = s + x.2 from if_pos hav, show sumB s x.2 = true from decide_eq_true hav] at h
                exact h.mono fun e w' ⟨h1, h2⟩ => ⟨h1, h2.symm⟩
              have HAV := Lib.hid hav
              clear hav
              go_quiet (first | (go_at_call 15; exact Calls.quiet_of_same (HG _).out) | (go_at_call 26; exact Calls.quiet_of_same (HAd _).out))
              clear HG HAd e0 e1 e2 e3
              have HBX2 : Hid (Blk (wb.drewN nq) wr.heap.size 37 #[.string (st x.1.1), .string (st x.1.2.1), .string (st x.1.2.2), .int .i64 x.2]) := HBX.out
              have HSd : Hid (Stp [] wr (wb.drewN nq)) := HSw.out.drewN nq
              clear HBX HSw
              generalize wb.drewN nq = wd at HBX2 HSd ⊢
              have e0 : wd.cell? ⟨wr.heap.size, 0, none⟩ = some (.string (st x.1.1)) := HBX2.out.cell 0
              have e1 : wd.cell? ⟨wr.heap.size, 1, none⟩ = some (.string (st x.1.2.1)) := HBX2.out.cell 1
              have e2 : wd.cell? ⟨wr.heap.size, 2, none⟩ = some (.string (st x.1.2.2)) := HBX2.out.cell 2
              have e3 : wd.cell? ⟨wr.heap.size, 3, none⟩ = some (.int .i64 x.2) := HBX2.out.cell 3
              have z3 : wd.frozen? ⟨wr.heap.size, 3, none⟩ = false := HBX2.out.frozen 3
              have HBs : Hid (Below wr.heap.size wr (wd.setCell ⟨wr.heap.size, 3, none⟩ (.int .i64 (s + x.2)))) := (HSd.out.setCell (x := ⟨wr.heap.size, 3, none⟩) (.inr (Nat.le_refl _)) _).below (by simp) (Nat.le_refl _)
              have HSET : Hid (Calls Try.prog 27 #[.slice a q c, .agg #[.string (st x.1.1), .string (st x.1.2.1), .string (st x.1.2.2), .int .i64 (s + x.2)]] (wd.setCell ⟨wr.heap.size, 3, none⟩ (.int .i64 (s + x.2))) (RowTo (wd.setCell ⟨wr.heap.size, 3, none⟩ (.int .i64 (s + x.2))) (rSet mk (x.1, s + x.2)))) := by
                have h := rSet_any a c mk (x.1, s + x.2) (wd.setCell ⟨wr.heap.size, 3, none⟩ (.int .i64 (s + x.2))) (HRM.out.keep HBs.out) (by rw [← HQ.out]; omega)
                rw [← HQ.out] at h
                exact h
              have HBv : Hid (Below w.heap.size w (wd.setCell ⟨wr.heap.size, 3, none⟩ (.int .i64 (s + x.2)))) := below_on HB.out HB.out.size HBs.out
              clear HBs
              go_wp2_with fail
              with_reducible refine HSET.out.mono ?_
              rintro e w5 ⟨a5, c5, rfl, hrow5, hfr5, hb5⟩
              have HR5 := Lib.hid hrow5
              have HF5 : Hid (∀ p, a5 = some p → w.heap.size ≤ p.block) := fun p hp => Nat.le_trans HBv.out.size (hfr5 p hp)
              have HB5 : Hid (Below w.heap.size w w5) := below_on HBv.out HBv.out.size hb5
              clear hrow5 hfr5 hb5 HSET e0 e1 e2 e3 z3
              go_wp2
              go_roundg (n - (k + 1))
              case measure => omega
              case rel =>
                refine ⟨k + 1, rSet mk (x.1, s + x.2), a5, c5, by omega, by go_num, rfl, by omega, ?_, ?_, HR5.out, .inr HF5.out, HB5.out⟩
                · show _ = _
                  rw [addL_step HX.out HAD.out, ← HSV.out, if_pos HAV.out]
                · have := rSet_len mk (x.1, s + x.2)
                  show _ ≤ _
                  rw [← HQ.out] at this
                  omega
            · have HAd : ∀ d, Hid (Calls Try.prog 26 #[.int .i64 s, .int .i64 x.2] (wb.drewN d) fun e w' => e = .returned (.tuple #[.int .i64 0, .bool false]) ∧ w' = wb.drewN d) := fun d => by
                have h := rAdd_any s x.2 (wb.drewN d) HAS.out HAZ.out
                rw [show sumV s x.2 = 0 from if_neg hav, show sumB s x.2 = false from decide_eq_false hav] at h
                exact h.mono fun e w' ⟨h1, h2⟩ => ⟨h1, h2.symm⟩
              have HNone : Hid (addL m l = none) := addL_none (k := k + 1) (by rw [addL_step HX.out HAD.out, ← HSV.out, if_neg hav])
              clear hav
              go_quiet (first | (go_at_call 15; exact Calls.quiet_of_same (HG _).out) | (go_at_call 26; exact Calls.quiet_of_same (HAd _).out))
              have HBd : Hid (Below w.heap.size w (wb.drewN nq)) := below_on HB.out HB.out.size ((HSw.out.drewN nq).below (by simp) (Nat.le_refl _))
              have HF := Lib.hid (HSame.out (wb.drewN nq) 2 (postL_over HRT.out HEVT.out HNone.out) HBd.out)
              clear HG HAd e0 e1 e2 e3
              go_wp2
              go_ret2
              exact HF.out
          · have e : n = k := by omega
            have HADD : Hid (addL m l = some mk) := by have := HAD.out; rw [List.take_of_length_le (by rw [← HN.out]; omega)] at this; exact this
            clear hgk hk HAD
            subst e
            go_wp2
            go_loopg [14, 15] q (fun gk i _ wr => ∃ j : Nat, j ≤ q ∧ i = .int .i64 j ∧ q - j ≤ gk ∧ Hid (sideL (mk.take j) = true) ∧ Hid (RowL wr a mk) ∧ Hid (Below w.heap.size w wr))
            case atStart => exact ⟨0, Nat.zero_le _, rfl, by omega, rfl, HRM.out, HB.out⟩
            case round =>
              clear HRM HB hlt
              obtain ⟨j, hj, rfl, hgj, HSD, HRM, HB⟩ := hrel
              by_cases hjt : j < q
              · obtain ⟨y, hy⟩ : ∃ y, mk[j]? = some y := ⟨_, List.getElem?_eq_getElem (by rw [← HQ.out]; exact hjt)⟩
                obtain ⟨b, off, rfl⟩ := rowL_form HRM.out (by rw [← HQ.out]; omega)
                obtain ⟨f0, f1, f2, f3⟩ := rowL_cells HRM.out hy
                have hjz : (0 : Int) ≤ (j : Int) := by omega
                have hjn : (j : Int) < (q : Int) := by omega
                have HStep : Hid (sideOk y = true → sideL (mk.take (j + 1)) = true) := fun h => sideL_step hy HSD.out h
                have HNo : Hid (sideOk y = false → PostTo w a0 m l (.returned (.tuple #[.slice a0 mn c0, .int .i64 10])) wr) := fun h => HSame.out wr 10 (postL_more HRT.out HEVT.out HADD.out (sideL_no hy h)) HB.out
                clear hy
                obtain ⟨⟨yk, yp, yc⟩, v⟩ := y
                by_cases h1 : yk = kClearing
                · have t1 := clearing_t h1
                  have ho := side_owes (p := yp) (c := yc) (v := v) (owes_t (Or.inl h1))
                  clear h1
                  by_cases hv : 0 < v
                  · have HX := Lib.hid (HNo.out (by rw [ho]; exact decide_eq_false (by omega)))
                    clear HNo HStep ho
                    go_wp2
                    go_ret2
                    exact HX.out
                  · have HX := Lib.hid (HStep.out (by rw [ho]; exact decide_eq_true (by omega)))
                    clear HNo HStep ho
                    go_wp2
                    go_roundg (q - (j + 1))
                    case measure => omega
                    case rel => exact ⟨j + 1, by omega, by go_num, by omega, HX.out, HRM.out, HB.out⟩
                · have t1 := clearing_f h1
                  by_cases h2 : yk = kDebt
                  · have t2 := debt_t h2
                    have ho := side_owes (p := yp) (c := yc) (v := v) (owes_t (Or.inr h2))
                    clear h1 h2
                    by_cases hv : 0 < v
                    · have HX := Lib.hid (HNo.out (by rw [ho]; exact decide_eq_false (by omega)))
                      clear HNo HStep ho
                      go_wp2
                      go_ret2
                      exact HX.out
                    · have HX := Lib.hid (HStep.out (by rw [ho]; exact decide_eq_true (by omega)))
                      clear HNo HStep ho
                      go_wp2
                      go_roundg (q - (j + 1))
                      case measure => omega
                      case rel => exact ⟨j + 1, by omega, by go_num, by omega, HX.out, HRM.out, HB.out⟩
                  · have t2 := debt_f h2
                    have ho := side_not (p := yp) (c := yc) (v := v) (owes_f h1 h2)
                    clear h1 h2
                    by_cases hv : v < 0
                    · have HX := Lib.hid (HNo.out (by rw [ho]; exact decide_eq_false (by omega)))
                      clear HNo HStep ho
                      go_wp2
                      go_ret2
                      exact HX.out
                    · have HX := Lib.hid (HStep.out (by rw [ho]; exact decide_eq_true (by omega)))
                      clear HNo HStep ho
                      go_wp2
                      go_roundg (q - (j + 1))
                      case measure => omega
                      case rel => exact ⟨j + 1, by omega, by go_num, by omega, HX.out, HRM.out, HB.out⟩
              · have e : q = j := by omega
                have HSL : Hid (sideL mk = true) := by have := HSD.out; rw [List.take_of_length_le (by rw [← HQ.out]; omega)] at this; exact this
                have HP : Hid (PostTo w a0 m l (.returned (.tuple #[.slice a q c, .int .i64 0])) wr) := by
                  unfold PostTo
                  show ∃ a' c', _
                  rw [postL_ok HRT.out HEVT.out HADD.out HSL.out]
                  exact ⟨a, c, by rw [HQ.out], HRM.out, HFR.out, HB.out⟩
                clear hgj hj
                subst e
                go_wp2
                go_ret2
                exact HP.out
end Go.Proofs.Yteclhcjfnmkkjaa
