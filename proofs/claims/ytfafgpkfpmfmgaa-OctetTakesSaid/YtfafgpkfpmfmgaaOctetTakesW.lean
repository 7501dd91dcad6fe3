/-
  The walk of souklaw03.OctetTakes.
-/
import Derived.Test.YtfafgpkfpmfmgaaOctT
import Derived.Deep.CutRange
import Derived.Deep.DeepCutAuto
namespace Go.Proofs.Ytfafgpkfpmfmgaa
open Go.RowKit Go.Deep

theorem howV_end (l : List UInt8) (c : Bool) : (howV l c = 0 ∧ endV l c = 0) ∨ (howV l c = 1 ∧ endV l c = 4) ∨ (howV l c = 2 ∧ endV l c = 3) := by
  unfold howV endV
  cases c with
  | true => exact .inr (.inl ⟨rfl, rfl⟩)
  | false =>
    cases l with
    | nil => exact .inl ⟨rfl, rfl⟩
    | cons x r => exact .inr (.inr ⟨rfl, rfl⟩)

theorem flat_get : ∀ (l : List Itm) (j i : Nat) (x : Itm), l[j]? = some x → i < 3 → (l.flatMap cI)[j * 3 + i]? = (cI x)[i]?
  | [], j, i, x, h, _ => by simp at h
  | y :: r, 0, i, x, h, hi => by
    simp at h; subst h
    rw [List.flatMap_cons, Nat.zero_mul, Nat.zero_add, List.getElem?_append_left (by simpa [cI] using hi)]
  | y :: r, j + 1, i, x, h, hi => by
    simp at h
    rw [List.flatMap_cons, List.getElem?_append_right (by simp [cI]; omega)]
    have := flat_get r j i x h hi
    rw [← this]
    congr 1
    simp [cI]; omega

theorem add_at (g k : Nat) : (⟨g, 0, none⟩ : Addr).add k = ⟨g, k, none⟩ := by
  unfold Addr.add
  by_cases e0 : k = 0
  · subst e0; rfl
  · simp [e0]

/-- how it ended, as a place in the law's list of errors -/
theorem how_sym (l : List UInt8) (cb : Bool) : ∃ (hN : Nat) (ev : Int), howV l cb = (hN : Int) ∧ hN < 3 ∧ endV l cb = ev ∧ ∀ W : World, (W.alloc (.cells #[.int .i64 0, .int .i64 4, .int .i64 3] 33)).cell? ⟨W.heap.size, hN, none⟩ = some (.int .i64 ev) := by
  rcases howV_end l cb with ⟨e1, e2⟩ | ⟨e1, e2⟩ | ⟨e1, e2⟩
  · exact ⟨0, 0, e1, by decide, e2, fun W => (Blk.new W _ _).cell 0⟩
  · exact ⟨1, 4, e1, by decide, e2, fun W => (Blk.new W _ _).cell 1⟩
  · exact ⟨2, 3, e1, by decide, e2, fun W => (Blk.new W _ _).cell 2⟩

theorem RAt.drew1 {w : World} {b : Nat} {l : List UInt8} {c : Bool} (h : RAt w b l c) : RAt w.drew b l c := h
theorem RAt.alloc1 {w : World} {b : Nat} {l : List UInt8} {c : Bool} (h : RAt w b l c) (o : Obj) : RAt (w.alloc o) b l c := Blk.alloc h o

theorem tail_below {B : Nat} {w wz w8 : World} {o : Obj} (h : Below B w wz) (hB : B ≤ wz.heap.size) (h8 : Below (wz.drew.alloc o).heap.size (wz.drew.alloc o) w8) : Below B w w8 :=
  ((h.drew.alloc hB o)).trans (h8.mono (Nat.le_trans hB (by simp)))

theorem tail_below2 {B : Nat} {w wz w8 : World} {o : Obj} (h : Below B w wz) (hB : B ≤ wz.heap.size) (h8 : Below (wz.alloc o).drew.heap.size (wz.alloc o).drew w8) : Below B w w8 :=
  ((h.alloc hB o).drew).trans (h8.mono (Nat.le_trans hB (by show _ ≤ (wz.alloc o).heap.size; simp)))

set_option maxHeartbeats 40000000 in
set_option maxRecDepth 100000 in
theorem takes_walk (a : Option Addr) (c : Nat) (ts : List Bool) (l0 : List UInt8) (w : World) (hr : RowB w a ts) (hm : ts.length ≤ 9223372036854775807) (hs0 : l0.length ≤ 9223372036854775807) :
    Calls Try.prog 4 #[.string (st l0), .slice a ts.length c] w fun e w' => e = .returned (.bool true) ∧ Below w.heap.size w w' := by
  have HL := Lib.hid (lives3_any w)
  have HR := Lib.hid hr
  have hsz := st_size l0
  clear hr
  by_cases hb1 : 5000 < l0.length
  · have t1 : decide ((5000 : Int) < (l0.length : Int)) = true := decide_eq_true (by omega)
    go_enter Try.func4, Try.ntmps4
    go_wp2_with fail
    refine HL.out.mono ?_
    rintro e w1 ⟨rfl, hb⟩
    have HB := Lib.hid hb
    have HL2 := Lib.hid (lives3_any w1)
    clear hb HL
    go_wp2_with fail
    refine HL2.out.mono ?_
    rintro e w3 ⟨rfl, hb3⟩
    have HB3 := Lib.hid (HB.out.trans (hb3.mono HB.out.size))
    clear hb3
    go_wp2
    go_ret
    exact ⟨rfl, HB3.out⟩
  have t1 : decide ((5000 : Int) < (l0.length : Int)) = false := decide_eq_false (by omega)
  by_cases hb2 : 200 < ts.length
  · have t2 : decide ((200 : Int) < (ts.length : Int)) = true := decide_eq_true (by omega)
    go_enter Try.func4, Try.ntmps4
    go_wp2_with fail
    refine HL.out.mono ?_
    rintro e w1 ⟨rfl, hb⟩
    have HB := Lib.hid hb
    have HL2 := Lib.hid (lives3_any w1)
    clear hb HL
    go_wp2_with fail
    refine HL2.out.mono ?_
    rintro e w3 ⟨rfl, hb3⟩
    have HB3 := Lib.hid (HB.out.trans (hb3.mono HB.out.size))
    clear hb3
    go_wp2
    go_ret
    exact ⟨rfl, HB3.out⟩
  have t2 : decide ((200 : Int) < (ts.length : Int)) = false := decide_eq_false (by omega)
  go_enter Try.func4, Try.ntmps4
  go_wp2_with fail
  refine HL.out.mono ?_
  rintro e w1 ⟨rfl, hb⟩
  have HB := Lib.hid hb
  have HR1 := Lib.hid (HR.out.keep hb)
  have H1 := Lib.hid (read_any (st l0) w1)
  rw [st_toList] at H1
  clear hb HL HR
  go_wp2_with fail
  refine H1.out.mono ?_
  rintro e w2 ⟨rfl, hb2', ha⟩
  have HB2 := Lib.hid (HB.out.trans (hb2'.mono HB.out.size))
  have HR2 := Lib.hid (HR1.out.keep hb2')
  have HA2 := Lib.hid ha
  obtain ⟨X, hX⟩ : ∃ X, X = w1.heap.size := ⟨_, rfl⟩
  rw [← hX] at HA2 ⊢
  have HXw : Hid (w.heap.size ≤ X) := by rw [hX]; exact HB.out.size
  have HXR : Hid (∀ (b off i : Nat) (x : Bool), a = some ⟨b, off, none⟩ → ts[i]? = some x → b < X) := by
    intro b off i x e hx
    have hp : 0 < ts.length := by have := (List.getElem?_eq_some_iff.1 hx).1; omega
    obtain ⟨b', off', e', hc⟩ := HR1.out hp
    rw [e] at e'; injection e' with e'; injection e' with e1 _ _
    rw [hX, e1]
    exact World.block_lt_of_cell? w1 _ (hc i x hx)
  have H2 := Lib.hid (rTake_any a c ts l0 w2 HR2.out (by omega) (by omega))
  clear hb2' ha hX H1 HR1 HB
  go_wp2_with fail
  refine H2.out.mono ?_
  rintro e w3 ⟨v, rfl, how, hb3⟩
  have HB3 := Lib.hid (HB2.out.trans (hb3.mono HB2.out.size))
  have HR3 := Lib.hid (HR2.out.keep hb3)
  have HA3 := Lib.hid (HA2.out.keep hb3)
  have HW3 := Lib.hid how
  have HX2 : Hid (X < w2.heap.size) := HA2.out.lt
  have h2n : w2.heap.size ≤ w3.heap.size := hb3.size
  obtain ⟨hv, hh⟩ : ∃ hv, hv = howV (stS l0 ts).1 (stS l0 ts).2 := ⟨_, rfl⟩
  have HH := Lib.hid hh
  rw [← hh]
  obtain ⟨n, hn⟩ : ∃ n, n = ts.length := ⟨_, rfl⟩
  have HN := Lib.hid hn
  have HV : Hid (∃ A cc, v = .slice A n cc ∧ (0 < n → ∃ g, A = some ⟨g, 0, none⟩ ∧ w2.heap.size ≤ g ∧ g < w3.heap.size)) := by
    rcases how.2 with ⟨rfl, h0⟩ | ⟨g, cap, cur, rfl, hg, hgg, _⟩
    · exact ⟨none, 0, by rw [hn, h0], by omega⟩
    · exact ⟨_, cap, by rw [hn], fun _ => ⟨g, rfl, hg, (Array.getElem?_eq_some_iff.1 hgg).1⟩⟩
  obtain ⟨A, cc, rfl, hA⟩ := HV.out
  have HAA := Lib.hid hA
  rw [← hn] at hm t2 hb2 ⊢
  clear hb3 how H2 hh hn hA HV h2n
  go_wp2
  go_loopg [37] n (fun gk i wr => ∃ j : Nat, j ≤ n ∧ i = .int .i64 j ∧ n - j ≤ gk ∧ Hid (RAt wr X (stS l0 (ts.take j)).1 (stS l0 (ts.take j)).2) ∧ Hid (w3.grownBy wr (some X)))
  case atStart => exact ⟨0, Nat.zero_le _, rfl, by omega, HA3.out, World.grownBy.refl _ _⟩
  case round =>
    obtain ⟨j, hj, rfl, hgj, HRA, HG⟩ := hrel
    by_cases hlt : j < n
    · obtain ⟨t, ht⟩ : ∃ t, ts[j]? = some t := ⟨ts[j]'(by have := HN.out; omega), List.getElem?_eq_getElem _⟩
      obtain ⟨b, off, rfl, hc⟩ := HR3.out (by have := HN.out; omega)
      obtain ⟨g, rfl, hg2, hg3⟩ := HAA.out (by omega)
      have hbX : b < X := HXR.out b off j t rfl ht
      have hb3 : b < w3.heap.size := World.block_lt_of_cell? w3 _ (hc j t ht)
      have hX2 := HX2.out
      have ct : wr.cell? ⟨b, off + j, none⟩ = some (.bool t) := HG.out.cell (hc j t ht) (by simp; omega)
      have hit := itS_get (l0 := l0) ht
      have hcl : ∀ i u, i < 3 → (cI (vI t (stS l0 (ts.take j)).1))[i]? = some u → wr.cell? ⟨g, j * 3 + i, none⟩ = some u := by
        intro i u hi hu
        have h1 := HW3.out.cells (g := g) rfl (j * 3 + i) u (by rw [flat_get _ j i _ hit hi]; exact hu)
        rw [add_at] at h1
        exact HG.out.cell h1 (by simp; omega)
      have hst := stS_succ (l0 := l0) ht
      have HST := Lib.hid hst
      obtain ⟨l, hl⟩ : ∃ l, l = (stS l0 (ts.take j)).1 := ⟨_, rfl⟩
      obtain ⟨cb, hcb⟩ : ∃ cb, cb = (stS l0 (ts.take j)).2 := ⟨_, rfl⟩
      rw [← hl] at hcl HRA HST
      rw [← hcb] at HRA HST
      have k0 : wr.cell? ⟨g, j * 3, none⟩ = some (.bool (vI t l).t) := hcl 0 _ (by decide) rfl
      have k1 : wr.cell? ⟨g, j * 3 + 1, none⟩ = some (.int .i64 (vI t l).n) := hcl 1 _ (by decide) rfl
      have k2 : wr.cell? ⟨g, j * 3 + 2, none⟩ = some (.string (st (vI t l).s)) := hcl 2 _ (by decide) rfl
      have hjz : (0 : Int) ≤ (j : Int) := by omega
      have hjn : (j : Int) < (n : Int) := by omega
      have hbw : b < wr.heap.size := Nat.lt_of_lt_of_le hb3 HG.out.size
      clear hc hcl hit hst hl hcb ht
      cases t with
      | true =>
        have j0 : wr.cell? ⟨g, j * 3, none⟩ = some (.bool true) := k0
        have j1 : wr.cell? ⟨g, j * 3 + 1, none⟩ = some (.int .i64 0) := k1
        have j2 : wr.cell? ⟨g, j * 3 + 2, none⟩ = some (.string (st (tt l))) := k2
        clear k0 k1 k2
        go_upto_region 8 with fail
        obtain ⟨W0, hW0⟩ : ∃ W0, W0 = wr.alloc (.cells #[.bool true, .int .i64 0, .string (st (tt l))] 30) := ⟨_, rfl⟩
        have HAL := Lib.hid (Blk.new wr 30 #[.bool true, .int .i64 0, .string (st (tt l))])
        have HRA0 := Lib.hid (HRA.out.alloc (.cells #[.bool true, .int .i64 0, .string (st (tt l))] 30))
        have HG0 := Lib.hid (Go.Lib.grownBy_allocR HG.out (.cells #[.bool true, .int .i64 0, .string (st (tt l))] 30))
        have ct0 : (wr.alloc (.cells #[.bool true, .int .i64 0, .string (st (tt l))] 30)).cell? ⟨b, off + j, none⟩ = some (.bool true) := by rw [World.cell?_alloc_lt _ _ _ hbw]; exact ct
        rw [← hW0] at HAL HRA0 HG0 ct0 ⊢
        obtain ⟨Y, hY⟩ : ∃ Y, Y = wr.heap.size := ⟨_, rfl⟩
        have hXwr : X < wr.heap.size := HRA.out.lt
        have hne : X ≠ Y := by omega
        have hbX2 : b ≠ X := by omega
        have HY := Lib.hid hY
        rw [← hY] at HAL ⊢
        have HT := Lib.hid (rText_any X l cb W0.drew HRA0.out)
        have y2 : W0.cell? ⟨Y, 2, none⟩ = some (.string (st (tt l))) := HAL.out.cell 2
        clear hW0 hY hXwr ct j0 j1 j2
        go_cut [66] from 38 to 67 (fun tv wx => tv = .bool false ∧ Hid (RAt wx X (vL true l) (cb || vC true l)) ∧ Hid (W0.grownBy wx (some X)))
        case first =>
          first | go_region_with (first
            | (go_at_call 12; refine HT.out.mono ?_; rintro e w6 ⟨rfl, hg, ha⟩; have hbk6 := (show Blk W0.drew Y 30 _ from HAL.out).kept hg (by simpa using Ne.symm hne); have z2 : w6.cell? ⟨Y, 2, none⟩ = some (.string (st (tt l))) := hbk6.cell 2; have z3 : w6.cell? ⟨b, off + j, none⟩ = some (.bool true) := World.grownBy.cell hg (show W0.drew.cell? ⟨b, off + j, none⟩ = _ from ct0) (by simpa using hbX2); have HG6 := Lib.hid hg; have HA6 := Lib.hid ha; clear hg ha hbk6)) | fail
          all_goals
            go_wp2
            go_meet
            exact ⟨rfl, HA6.out, ⟨HG6.out.os, HG6.out.tape, HG6.out.output, HG6.out.size, HG6.out.block⟩⟩
        case rest =>
          obtain ⟨rfl, HA6, HG6⟩ := hcut
          go_wp2
          go_roundg (n - (j + 1))
          case measure => omega
          case rel => exact ⟨j + 1, by omega, by go_num, by omega, by rw [HST.out]; exact HA6.out, Go.Lib.grownBy_trans HG0.out HG6.out⟩
      | false =>
        have j0 : wr.cell? ⟨g, j * 3, none⟩ = some (.bool false) := k0
        have j1 : wr.cell? ⟨g, j * 3 + 1, none⟩ = some (.int .i64 (sg (numL (tk 8 l)))) := k1
        have j2 : wr.cell? ⟨g, j * 3 + 2, none⟩ = some (.string (st [])) := k2
        clear k0 k1 k2
        go_upto_region 8 with fail
        obtain ⟨W0, hW0⟩ : ∃ W0, W0 = wr.alloc (.cells #[.bool false, .int .i64 (sg (numL (tk 8 l))), .string (st [])] 30) := ⟨_, rfl⟩
        have HAL := Lib.hid (Blk.new wr 30 #[.bool false, .int .i64 (sg (numL (tk 8 l))), .string (st [])])
        have HRA0 := Lib.hid (HRA.out.alloc (.cells #[.bool false, .int .i64 (sg (numL (tk 8 l))), .string (st [])] 30))
        have HG0 := Lib.hid (Go.Lib.grownBy_allocR HG.out (.cells #[.bool false, .int .i64 (sg (numL (tk 8 l))), .string (st [])] 30))
        have ct0 : (wr.alloc (.cells #[.bool false, .int .i64 (sg (numL (tk 8 l))), .string (st [])] 30)).cell? ⟨b, off + j, none⟩ = some (.bool false) := by rw [World.cell?_alloc_lt _ _ _ hbw]; exact ct
        rw [← hW0] at HAL HRA0 HG0 ct0 ⊢
        obtain ⟨Y, hY⟩ : ∃ Y, Y = wr.heap.size := ⟨_, rfl⟩
        have hXwr : X < wr.heap.size := HRA.out.lt
        have hne : X ≠ Y := by omega
        have hbX2 : b ≠ X := by omega
        have HY := Lib.hid hY
        rw [← hY] at HAL ⊢
        have HT := Lib.hid (rInt_any X l cb W0.drew HRA0.out)
        have y2 : W0.cell? ⟨Y, 1, none⟩ = some (.int .i64 (sg (numL (tk 8 l)))) := HAL.out.cell 1
        clear hW0 hY hXwr ct j0 j1 j2
        go_cut [66] from 38 to 67 (fun tv wx => tv = .bool false ∧ Hid (RAt wx X (vL false l) (cb || vC false l)) ∧ Hid (W0.grownBy wx (some X)))
        case first =>
          first | go_region_with (first
            | (go_at_call 13; refine HT.out.mono ?_; rintro e w6 ⟨rfl, hg, ha⟩; have hbk6 := (show Blk W0.drew Y 30 _ from HAL.out).kept hg (by simpa using Ne.symm hne); have z2 : w6.cell? ⟨Y, 1, none⟩ = some (.int .i64 (sg (numL (tk 8 l)))) := hbk6.cell 1; have z3 : w6.cell? ⟨b, off + j, none⟩ = some (.bool false) := World.grownBy.cell hg (show W0.drew.cell? ⟨b, off + j, none⟩ = _ from ct0) (by simpa using hbX2); have HG6 := Lib.hid hg; have HA6 := Lib.hid ha; clear hg ha hbk6)) | fail
          all_goals
            go_wp2
            go_meet
            exact ⟨rfl, HA6.out, ⟨HG6.out.os, HG6.out.tape, HG6.out.output, HG6.out.size, HG6.out.block⟩⟩
        case rest =>
          obtain ⟨rfl, HA6, HG6⟩ := hcut
          go_wp2
          go_roundg (n - (j + 1))
          case measure => omega
          case rel => exact ⟨j + 1, by omega, by go_num, by omega, by rw [HST.out]; exact HA6.out, Go.Lib.grownBy_trans HG0.out HG6.out⟩
    · have e : j = n := by omega
      subst e
      have hra := HRA.out
      rw [List.take_of_length_le (by have := HN.out; omega)] at hra
      obtain ⟨l, hl⟩ : ∃ l, l = (stS l0 ts).1 := ⟨_, rfl⟩
      obtain ⟨cb, hcb⟩ : ∃ cb, cb = (stS l0 ts).2 := ⟨_, rfl⟩
      have hh := HH.out
      rw [← hl, ← hcb] at hra hh
      have hBr := Below.of_grown HB3.out HG.out HB3.out.size HXw.out
      have HBr := Lib.hid hBr
      have HRA1 := Lib.hid hra
      have H1 := Lib.hid (wInt_nil 1 wr)
      have HH2 := Lib.hid hh
      clear hra hl hcb hBr HRA HG HH hh
      go_wp2_with fail
      refine H1.out.mono ?_
      rintro e w5 ⟨rfl, hb5⟩
      have HB5 := Lib.hid (HBr.out.trans (hb5.mono HBr.out.size))
      have HRA5 := Lib.hid (HRA1.out.keep hb5)
      have H2 := Lib.hid (wText_nil [97] w5 (by decide))
      clear hb5 H1
      go_wp2_with fail
      refine H2.out.mono ?_
      rintro e w6 ⟨rfl, hb6⟩
      have HB6 := Lib.hid (HB5.out.trans (hb6.mono HB5.out.size))
      have HRA6 := Lib.hid (HRA5.out.keep hb6)
      have H3 := Lib.hid (bytes_nil w6)
      clear hb6 H2
      go_wp2_with fail
      refine H3.out.mono ?_
      rintro e w7 ⟨rfl, rfl⟩
      clear H3
      have hw6 : w.heap.size ≤ w6.heap.size := HB6.out.size
      have e0 : st [] = (⟨#[]⟩ : ByteArray) := rfl
      obtain ⟨hN, ev, e1, hN3, e2, hcel⟩ := how_sym l cb
      have e3 := HH2.out.trans e1
      subst e3
      have hN0 : (0 : Int) ≤ (hN : Int) := by omega
      have hNi : (hN : Int) < 3 := by omega
      have HE : ∀ W, RAt W X l cb → Hid (Calls Try.prog 14 #[.pointer (some ⟨X, 0, none⟩)] W fun e w' => e = .returned (.int .i64 ev) ∧ W = w') := fun W hW => by
        have := rEnd_any X l cb W hW
        rw [e2] at this
        exact this
      clear e1 e2 HH2
      go_wp2
      go_region_with (first
        | (go_at_call 14; with_reducible refine (HE _ (by first | exact HRA6.out.drew1 | exact HRA6.out.drew1.alloc1 _ | exact (HRA6.out.alloc1 _).drew1)).out.mono ?_; rintro e w8 ⟨rfl, rfl⟩)
        | (go_at_call 14; with_reducible refine (rEnd_nil _).mono ?_; rintro e w9 ⟨rfl, rfl⟩)
        | (go_at_call 13; with_reducible refine (rInt_nil _).mono ?_; rintro e w9 ⟨rfl, rfl⟩)
        | (go_at_call 12; with_reducible refine (rText_nil _).mono ?_; rintro e w8 ⟨rfl, hb8⟩; have HB8 := Lib.hid hb8; clear hb8))
      all_goals
        go_wp2
        go_ret
        first | exact ⟨rfl, tail_below HB6.out hw6 HB8.out⟩ | exact ⟨rfl, tail_below2 HB6.out hw6 HB8.out⟩
end Go.Proofs.Ytfafgpkfpmfmgaa
