/-
  Contracts of soukref01's Times and Div.
-/
import Derived.Test.YtkflakeocdlinaaGreatDoorWideDMP
namespace Go.Proofs.YtkflakeocdlinaaGreatDoor
open Go.RowKit

theorem trim_wb {w wr : World} {v : Value} {bs : List Bool} {nn : Prop} (h : WB wr v bs) (hb : Below w.heap.size w wr) (hn : bs.length ≤ 1000000) (hnn : nn → 0 < bs.length) :
    Calls Tryz.prog 83 #[v] wr (CPost w (val bs) bs.length nn) := by
  obtain ⟨A, c, rfl, h1, h2, h3, hcells⟩ := h
  refine (trim_any A c bs wr h1 h2 h3 hcells hn).mono ?_
  rintro e w' ⟨k, hk, rfl, hv, hc, rfl⟩
  have hl : (bs.take k).length = k := by rw [List.length_take]; omega
  refine ⟨A, c, bs.take k, by rw [hl], ⟨A, c, rfl, by rw [hl]; omega, h2, fun ha => by have := h3 ha; rw [hl]; omega, hcells.take k⟩, hv, hc, by rw [hl]; exact hk, fun hnn' ha => ?_, hb⟩
  have := hnn hnn'
  have := (h3 ha).1
  omega

theorem bools_one (bs : List Bool) : ∀ u ∈ bs.map Value.bool, u.oneCell' = true := by
  intro u hu
  rw [List.mem_map] at hu
  obtain ⟨b, _, rfl⟩ := hu
  rfl

/-- what a new row with a bit ahead reads as -/
theorem WB.cons {w : World} {base : Nat} {v : Value} {x : Bool} {bs : List Bool} (h : w.ownsRow base 4 1 v (1 + bs.length) (.bool x :: bs.map Value.bool)) : WB w v (x :: bs) := by
  refine WB.of_own (base := base) ?_
  rw [List.length_cons, List.map_cons, Nat.add_comm]
  exact h

/-- a slice of bits, taken apart -/
theorem WB.parts {w : World} {v : Value} {bs : List Bool} (h : WB w v bs) : ∃ A c, v = .slice A bs.length c ∧ (A = none → bs.length = 0 ∧ c = 0) ∧ Cells w A (bs.map Value.bool) := by
  obtain ⟨A, c, e, _, _, h3, h4⟩ := h
  exact ⟨A, c, e, h3, h4⟩

structure TimesAt (w wr : World) (xs ys : List Bool) (v : Value) (k : Nat) (bs : List Bool) : Prop where
  wb : WB wr v bs
  below : Below w.heap.size w wr
  len : bs.length ≤ xs.length + 2 * (ys.length - k)
  eq : val bs = val xs * val (ys.drop k)

theorem times_end {w : World} {xs ys : List Bool} {A : Option Addr} {c : Nat} {bs : List Bool} {e : Ending} {w' : World} (he : e = .returned (.slice A bs.length c)) (h1 : WB w' (.slice A bs.length c) bs) (h2 : val bs = val xs * val ys) (h3 : Canon bs) (h6 : Below w.heap.size w w') :
    CPost w (val xs * val ys) (xs.length + ys.length) False e w' := by
  refine ⟨A, c, bs, he, h1, h2, h3, ?_, fun h => h.elim, h6⟩
  refine canon_len h3 ?_
  rw [h2, Nat.pow_add]
  exact Nat.mul_lt_mul'' (val_lt xs) (val_lt ys)

set_option maxHeartbeats 3200000 in
theorem times_any (v v' : Value) (xs ys : List Bool) (w : World) (h : WB w v xs) (h' : WB w v' ys) (hn : xs.length ≤ 1000) (hn' : ys.length ≤ 1000) :
    Calls Tryz.prog 78 #[v, v'] w (CPost w (val xs * val ys) (xs.length + ys.length) False) := by
  have HX := Lib.hid h
  clear h
  obtain ⟨A', cb, rfl, hq1, hq2, hq3, hq4⟩ := h'
  by_cases h0 : ys = []
  · subst h0
    have HTR := Lib.hid (trim_wb (nn := False) (WB.nil w) (Below.refl _ w) (by simp) (fun h => h.elim))
    simp only [List.length_nil]
    clear hq1 hq2 hq3 hq4
    have t1 : decide ((0 : Int) ≤ ((0 : Nat) : Int) - 1) = false := by decide
    go_enter Tryz.func78, Tryz.ntmps78
    go_wp2
    refine wp_loop_rounds 1 ?_
    rw [rounds_succ]
    go_wp2_with fail
    refine HTR.out.mono ?_
    rintro e w' ⟨A2, c2, bs2, rfl, h1, h2, h3, h4, h5, h6⟩
    have HE := Lib.hid (times_end (xs := xs) (ys := []) (w := w) rfl h1 (by rw [h2]; rfl) h3 h6)
    clear h1 h2 h3 h4 h5 h6 HTR
    go_wp2
    go_ret
    exact HE.out
  have hp : 0 < ys.length := List.length_pos_iff.mpr h0
  obtain ⟨b, off, rfl, hc⟩ := hq4.bool hp
  have HC := Lib.hid hc
  obtain ⟨m, hn2⟩ : ∃ n, n = ys.length := ⟨_, rfl⟩
  have HM := Lib.hid hn2
  rw [show Value.slice (some ⟨b, off, none⟩) ys.length cb = Value.slice (some ⟨b, off, none⟩) m cb by rw [hn2]]
  rw [← hn2] at hn' hp
  clear hn2 hq1 hq2 hq3 hq4 hc h0
  go_enter Tryz.func78, Tryz.ntmps78
  go_wp2
  go_loopg [5, 6] m (fun gk v i wr => ∃ (k : Nat) (bs : List Bool), i = .int .i64 ((k : Int) - 1) ∧ k ≤ m ∧ k ≤ gk ∧ Hid (TimesAt w wr xs ys v k bs))
  case atStart => exact ⟨m, [], rfl, Nat.le_refl _, Nat.le_refl _, ⟨WB.nil w, Below.refl _ _, by simp, by rw [HM.out, List.drop_length]; simp [val]⟩⟩
  case round =>
    obtain ⟨k, bs, rfl, hk, hgk, HT⟩ := hrel
    by_cases hk0 : k = 0
    · subst hk0
      have t1 : decide ((0 : Int) ≤ ((0 : Nat) : Int) - 1) = false := by decide
      have hlb : bs.length ≤ 1000000 := by have := HT.out.len; have := HM.out; omega
      have HTR := Lib.hid (trim_wb (nn := False) HT.out.wb HT.out.below hlb (fun h => h.elim))
      rw [HT.out.eq, List.drop_zero] at HTR
      go_wp2_with fail
      refine HTR.out.mono ?_
      rintro e w' ⟨A2, c2, bs2, rfl, h1, h2, h3, h4, h5, h6⟩
      have HE := Lib.hid (times_end (xs := xs) (ys := ys) (w := w) rfl h1 h2 h3 h6)
      clear h1 h2 h3 h4 h5 h6 HTR HT
      go_wp2
      go_ret
      exact HE.out
    · obtain ⟨p, rfl⟩ : ∃ p, k = p + 1 := ⟨k - 1, by omega⟩
      have e1 : ((p + 1 : Nat) : Int) - 1 = (p : Int) := by omega
      rw [e1]
      clear e1 hk0
      have t1 : decide ((0 : Int) ≤ (p : Int)) = true := decide_eq_true (by omega)
      have hcell : w.cell? ⟨b, off + p, none⟩ = some (.bool (ys.getD p false)) := HC.out p (by have := HM.out; omega)
      have HDR : Hid (val (ys.drop p) = (ys.getD p false).toNat + 2 * val (ys.drop (p + 1))) := val_drop_step ys p (by have := HM.out; omega)
      obtain ⟨y, hy⟩ : ∃ y, y = ys.getD p false := ⟨_, rfl⟩
      rw [← hy] at hcell HDR
      clear hy
      obtain ⟨Ao, co, hv, ha, hcc⟩ := HT.out.wb.parts
      have hv' := hv
      subst hv'
      have hlb : bs.length ≤ 3000 := by have := HT.out.len; have := HM.out; omega
      have HHA := Lib.hid ha
      have HCC := Lib.hid hcc
      have hcell2 : ∀ w', Below w.heap.size w w' → w'.cell? ⟨b, off + p, none⟩ = some (.bool y) := fun w' hb => by
        rw [hb.cell (p := ⟨b, off + p, none⟩) (World.block_lt_of_cell? w _ hcell)]; exact hcell
      have HC2 := Lib.hid hcell2
      clear ha hcc hv hcell hcell2
      cases y
      · go_wp2_with (at_builtin; refine wpList_append_behind rfl (.tmp 14) (.tmp 15) 123 rfl w.heap.size 4 (.bool false) 1 Tryz.underlying123 infoBool rfl _ (.bool false) Ao co bs.length (bs.map Value.bool) (by simp) rfl rfl HHA.out HCC.out (bools_one bs) HT.out.below.size (by unfold maxLen; omega) (by omega) ?_; intro v1 w1 hown1 hbel1; have hcl := HC2.out w1 (HT.out.below.trans hbel1); have HO := Lib.hid hown1; have HB := Lib.hid hbel1; clear hown1 hbel1)
        go_roundg p
        case measure => omega
        case rel =>
          refine ⟨p, false :: bs, by go_num, by omega, Nat.le_refl _, ⟨WB.cons HO.out, HT.out.below.trans HB.out, ?_, ?_⟩⟩
          · have := HT.out.len; have := HM.out; rw [List.length_cons]; omega
          · rw [HDR.out, val, HT.out.eq]; simp [Nat.mul_left_comm]
      · go_wp2_with (at_builtin; refine wpList_append_behind rfl (.tmp 14) (.tmp 15) 123 rfl w.heap.size 4 (.bool false) 1 Tryz.underlying123 infoBool rfl _ (.bool false) Ao co bs.length (bs.map Value.bool) (by simp) rfl rfl HHA.out HCC.out (bools_one bs) HT.out.below.size (by unfold maxLen; omega) (by omega) ?_; intro v1 w1 hown1 hbel1; have hcl := HC2.out w1 (HT.out.below.trans hbel1); have HO := Lib.hid hown1; have HB := Lib.hid hbel1; clear hown1 hbel1)
        have HPL := Lib.hid (plus_any v1 v (false :: bs) xs w1 (WB.cons HO.out) (HX.out.keep (HT.out.below.trans HB.out)) (by rw [List.length_cons]; omega) (by omega))
        refine HPL.out.mono ?_
        rintro e w2 ⟨v2, bs2, rfl, h1, h2, h3, h4⟩
        have HB2 : Hid (Below w.heap.size w w2) := (HT.out.below.trans HB.out).trans (h4.mono (HT.out.below.trans HB.out).size)
        have H1 := Lib.hid h1
        have H2 := Lib.hid h2
        have H3 := Lib.hid h3
        clear h1 h2 h3 h4 HPL
        go_wp2
        go_roundg p
        case measure => omega
        case rel =>
          refine ⟨p, bs2, by go_num, by omega, Nat.le_refl _, ⟨H1.out, HB2.out, ?_, ?_⟩⟩
          · have := HT.out.len; have := HM.out; have h3 := H3.out; rw [List.length_cons] at h3; omega
          · rw [HDR.out, H2.out, val, HT.out.eq, Nat.mul_add]; simp [Nat.mul_left_comm]; omega
end Go.Proofs.YtkflakeocdlinaaGreatDoor
