/-
  Contract of block.Unpack.
-/
import Derived.Test.YtbpklikmldpeiaaBlkFMA
import Derived.WalkMore
namespace Go.Proofs.Ytbpklikmldpeiaa
open Go.RowKit

/-- what a list of blocks begins with: a record's blocks, with these pieces of its payload -/
def Begins (number : Nat) (ls ds : List (List UInt8)) : Prop :=
  1 ≤ ds.length ∧ ds.length ≤ ls.length ∧ ds.length ≤ 255 ∧ ∀ i l d, ls[i]? = some l → ds[i]? = some d → IsBlk number i ds.length l d

/-- how many blocks a block tells of -/
def cntOf (l : List UInt8) : Nat := if l.length = 64 then (l.getD 5 0).toNat else 0
theorem cntOf_le (l : List UInt8) : cntOf l ≤ 255 := by
  unfold cntOf; split
  · have := UInt8.toNat_lt (l.getD 5 0); omega
  · omega
theorem count_any (l : List UInt8) (w : World) :
    Calls Try.prog 55 #[.string (st l)] w fun e w' => e = .returned (.int .i64 (cntOf l : Nat)) ∧ w = w' := by
  unfold cntOf
  by_cases h : l.length = 64
  · rw [if_pos h]; exact count_yes l _ w h rfl
  · rw [if_neg h]; exact count_no l w h

theorem IsBlk.inj {number place count : Nat} {l d d' : List UInt8} (h : IsBlk number place count l d) (h' : IsBlk number place count l d') : d = d' := by
  obtain ⟨_, _, a, _, e⟩ := h
  obtain ⟨_, _, a', _, e'⟩ := h'
  have n1 := blkL_get6 number place count d a
  have n2 := blkL_get6 number place count d' a'
  rw [← e] at n1
  rw [← e'] at n2
  have m1 := blkL_data number place count d
  have m2 := blkL_data number place count d'
  rw [← e] at m1
  rw [← e'] at m2
  rw [← m1, ← m2, ← n1, ← n2]

theorem Begins.told {number : Nat} {ls ds : List (List UInt8)} (h : Begins number ls ds) (l : List UInt8) (hl : ls[0]? = some l) : ds.length = cntOf l := by
  obtain ⟨h1, h2, h3, h4⟩ := h
  obtain ⟨d, hd⟩ : ∃ d, ds[0]? = some d := ⟨_, List.getElem?_eq_getElem (by omega)⟩
  have hb := h4 0 l d hl hd
  have hlen : l.length = 64 := by rw [hb.2.2.2.2]; exact blkL_length _ _ _ _ hb.2.2.1
  unfold cntOf
  rw [if_pos hlen]
  rw [hb.2.2.2.2, blkL_get5 _ _ _ _ h3]

theorem Begins.inj {number : Nat} {ls ds ds' : List (List UInt8)} (h : Begins number ls ds) (h' : Begins number ls ds') : ds = ds' := by
  have h1 := h.1
  have h2 := h.2.1
  obtain ⟨l, hl⟩ : ∃ l, ls[0]? = some l := ⟨_, List.getElem?_eq_getElem (by omega)⟩
  have e : ds.length = ds'.length := (h.told l hl).trans (h'.told l hl).symm
  apply List.ext_getElem?
  intro i
  by_cases hi : i < ds.length
  · have g1 := List.getElem?_eq_getElem hi
    obtain ⟨x, g2⟩ : ∃ x, ds'[i]? = some x := ⟨_, List.getElem?_eq_getElem (by omega)⟩
    have g3 := List.getElem?_eq_getElem (show i < ls.length by omega)
    have b1 := h.2.2.2 i _ _ g3 g1
    have b2 := h'.2.2.2 i _ _ g3 g2
    rw [← e] at b2
    rw [g1, g2, b1.inj b2]
  · rw [List.getElem?_eq_none (by omega), List.getElem?_eq_none (by omega)]

/-- what Unpack answers -/
def Unp (number : Nat) (ls : List (List UInt8)) (e : Ending) : Prop :=
  (∃ ds, Begins number ls ds ∧ e = .returned (.tuple #[.string (st ds.flatten), .int .i64 (ds.length : Nat), .int .i64 0])) ∨ ((∀ ds, ¬ Begins number ls ds) ∧ e = .returned (.tuple #[.string (st []), .int .i64 0, .int .i64 5]))

set_option maxRecDepth 100000 in
theorem unpack_none (number : Int) (a : Option Addr) (c : Nat) (w : World) :
    Calls Try.prog 37 #[.int .i64 number, .slice a 0 c] w fun e w' => e = .returned (.tuple #[.string (st []), .int .i64 0, .int .i64 4]) ∧ w = w' := by
  have e0 : (⟨#[]⟩ : ByteArray) = st [] := rfl
  go_enter Try.func37, Try.ntmps37
  go_wp2
  go_step3
  go_wp2
  try rw [Exit.noGoto_ret]
  go_ret3
  exact ⟨rfl, rfl⟩

set_option maxRecDepth 100000 in
theorem unpack_num (number : Int) (a : Option Addr) (n c : Nat) (w : World) (h0 : 0 < n) (hn : ¬ (0 ≤ number ∧ number ≤ 4294967294)) :
    Calls Try.prog 37 #[.int .i64 number, .slice a n c] w fun e w' => e = .returned (.tuple #[.string (st []), .int .i64 0, .int .i64 1]) ∧ w = w' := by
  have e0 : (⟨#[]⟩ : ByteArray) = st [] := rfl
  have H1 := Lib.hid (isNum_no number w hn)
  have t1 : ((n : Int) == 0) = false := by rw [beq_eq_false_iff_ne]; omega
  clear hn
  go_enter Try.func37, Try.ntmps37
  go_wp2
  go_step3
  go_wp2_with fail
  refine H1.out.mono ?_
  rintro e w1 ⟨rfl, rfl⟩
  go_wp2
  try rw [Exit.noGoto_ret]
  go_ret3
  exact ⟨rfl, rfl⟩

/-- the first k blocks are a record's, with these pieces -/
def Part (number count k : Nat) (ls ds : List (List UInt8)) : Prop :=
  ds.length = k ∧ (0 < k → k < count) ∧ ∀ i l d, ls[i]? = some l → ds[i]? = some d → IsBlk number i count l d

theorem Part.step {number count k : Nat} {ls ds : List (List UInt8)} {l d : List UInt8} (h : Part number count k ls ds) (hl : ls[k]? = some l) (hb : IsBlk number k count l d) (hne : k + 1 ≠ count) : Part number count (k + 1) ls (ds ++ [d]) := by
  obtain ⟨h1, h2, h3⟩ := h
  have hlt := hb.1
  refine ⟨by simp [h1], fun _ => by omega, fun i l' d' hl' hd' => ?_⟩
  by_cases hi : i < ds.length
  · rw [List.getElem?_append_left hi] at hd'
    exact h3 i l' d' hl' hd'
  · have hik : i = k := by
      have := (List.getElem?_eq_some_iff.1 hd').1
      simp at this; omega
    subst hik
    rw [List.getElem?_append_right (by omega), h1, Nat.sub_self] at hd'
    simp at hd'
    subst hd'
    rw [hl] at hl'
    injection hl' with hl'
    subst hl'
    exact hb

theorem Part.done {number count k : Nat} {ls ds : List (List UInt8)} {l d : List UInt8} (h : Part number count k ls ds) (hl : ls[k]? = some l) (hb : IsBlk number k count l d) (he : k + 1 = count) (hc : count ≤ 255) : Begins number ls (ds ++ [d]) := by
  obtain ⟨h1, h2, h3⟩ := h
  have hkl := (List.getElem?_eq_some_iff.1 hl).1
  have hlen : (ds ++ [d]).length = count := by simp [h1, he]
  refine ⟨by omega, by omega, by omega, fun i l' d' hl' hd' => ?_⟩
  rw [hlen]
  by_cases hi : i < ds.length
  · rw [List.getElem?_append_left hi] at hd'
    exact h3 i l' d' hl' hd'
  · have hik : i = k := by
      have := (List.getElem?_eq_some_iff.1 hd').1
      omega
    subst hik
    rw [List.getElem?_append_right (by omega), h1, Nat.sub_self] at hd'
    simp at hd'
    subst hd'
    rw [hl] at hl'
    injection hl' with hl'
    subst hl'
    exact hb

theorem none_at {number count k : Nat} {ls ds : List (List UInt8)} {l0 l : List UInt8} (h : Part number count k ls ds) (h0 : ls[0]? = some l0) (hc : count = cntOf l0) (hl : ls[k]? = some l) (hno : ∀ d, ¬ IsBlk number k count l d) : ∀ ds, ¬ Begins number ls ds := by
  intro ds' hb
  have e := hb.told l0 h0
  rw [← hc] at e
  have hk : k < count := by
    rcases Nat.eq_zero_or_pos k with h1 | h1
    · have := hb.1; omega
    · exact h.2.1 h1
  obtain ⟨x, g2⟩ : ∃ x, ds'[k]? = some x := ⟨_, List.getElem?_eq_getElem (by omega)⟩
  have := hb.2.2.2 k l x hl g2
  rw [e] at this
  exact hno x this

theorem none_end {number count k : Nat} {ls ds : List (List UInt8)} {l0 : List UInt8} (h : Part number count k ls ds) (h0 : ls[0]? = some l0) (hc : count = cntOf l0) (hk : k = ls.length) : ∀ ds, ¬ Begins number ls ds := by
  intro ds' hb
  have e := hb.told l0 h0
  have h2 := hb.2.1
  have h1 := (List.getElem?_eq_some_iff.1 h0).1
  have := h.2.1 (by omega)
  omega

set_option maxHeartbeats 2000000 in
set_option maxRecDepth 100000 in
theorem unpack_any (number : Nat) (a : Option Addr) (c : Nat) (ls : List (List UInt8)) (w : World) (hr : RowS w a ls) (hn : number ≤ 4294967294) (h0 : 0 < ls.length) (hm : ls.length ≤ 9223372036854775807) :
    Calls Try.prog 37 #[.int .i64 number, .slice a ls.length c] w fun e w' => Unp number ls e ∧ Below w.heap.size w w' := by
  obtain ⟨b, off, rfl, hc⟩ := hr h0
  obtain ⟨l0, hl0⟩ : ∃ l0, ls[0]? = some l0 := ⟨_, List.getElem?_eq_getElem h0⟩
  have c0 : w.cell? ⟨b, off, none⟩ = some (.string (st l0)) := hc 0 l0 hl0
  obtain ⟨k, hk⟩ : ∃ k, k = cntOf l0 := ⟨_, rfl⟩
  have hk255 : k ≤ 255 := by rw [hk]; exact cntOf_le _
  have H1 := Lib.hid (isNum_yes number w (by omega) (by omega))
  have H2 := Lib.hid (count_any l0 w)
  rw [← hk] at H2
  have HK := Lib.hid hk
  have HL0 := Lib.hid hl0
  have HC := Lib.hid hc
  obtain ⟨n, hnn⟩ : ∃ n, n = ls.length := ⟨_, rfl⟩
  rw [← hnn] at h0 hm ⊢
  have HN := Lib.hid hnn
  have t1 : ((n : Int) == 0) = false := by rw [beq_eq_false_iff_ne]; omega
  obtain ⟨B, hB⟩ : ∃ B, B = w.heap.size := ⟨_, rfl⟩
  have hbB : b < B := by rw [hB]; exact World.block_lt_of_cell? w _ c0
  have HB0 : Hid (BdAt (w.alloc (.cells #[.pointer none, .slice none 0 0] 92)) B B []) := by rw [hB]; exact BdAt.new w
  have HBW : Hid (Below B w (w.alloc (.cells #[.pointer none, .slice none 0 0] 92))) := by rw [hB]; exact (Below.refl _ w).alloc (Nat.le_refl _) _
  have HBE := Lib.hid hB
  have HBS : Hid (B ≤ w.heap.size) := by show B ≤ _; omega
  have e0 : (⟨#[]⟩ : ByteArray) = st [] := rfl
  clear hc hl0 hk hnn hr hB
  go_enter Try.func37, Try.ntmps37
  go_wp2
  go_step3
  go_wp2_with fail
  refine H1.out.mono ?_
  rintro e w1 ⟨rfl, rfl⟩
  go_wp2_with fail
  refine H2.out.mono ?_
  rintro e w1 ⟨rfl, rfl⟩
  clear H1 H2
  go_wp2
  go_step3
  go_wp2
  rw [← HBE.out]
  go_loopg [9, 10, 11, 12, 27] n (fun gk _ _ _ _ i wr => ∃ (j : Nat) (ds : List (List UInt8)), j ≤ n ∧ i = .int .i64 j ∧ n - j ≤ gk ∧ Hid (Part number k j ls ds) ∧ Hid (BdAt wr B B ds.flatten) ∧ Hid (ds.flatten.length ≤ j * 49) ∧ Hid (Below B w wr))
  case atStart => exact ⟨0, [], Nat.zero_le _, rfl, by omega, ⟨rfl, fun h => absurd h (by omega), fun i l d _ hd => by simp at hd⟩, HB0.out, by show _ ≤ _; simp, HBW.out⟩
  case round =>
    obtain ⟨j, ds, hj, rfl, hgk, HP, HD, HLN, HW⟩ := hrel
    by_cases hlt : j < n
    · obtain ⟨l, hl⟩ : ∃ l, ls[j]? = some l := ⟨_, List.getElem?_eq_getElem (by have := HN.out; omega)⟩
      have cj : wr.cell? ⟨b, off + j, none⟩ = some (.string (st l)) := by rw [HW.out.cell (p := ⟨b, off + j, none⟩) hbB]; exact HC.out j l hl
      have HL := Lib.hid hl
      have hBs : B ≤ wr.heap.size := Nat.le_trans HBS.out HW.out.size
      have hj255 : j ≤ 255 := by
        rcases Nat.eq_zero_or_pos j with h1 | h1
        · omega
        · have := HP.out.2.1 h1; omega
      have hjz : (0 : Int) ≤ (j : Int) := by omega
      have hjn : (j : Int) < (n : Int) := by omega
      by_cases hex : ∃ d, IsBlk number j k l d
      · obtain ⟨d, hb⟩ := hex
        have H3 := Lib.hid (dataIn_yes number j k l d wr hn hk255 hb)
        have HBK := Lib.hid hb
        have hjk : j < k := hb.1
        have hdl : d.length ≤ 49 := hb.2.2.1
        have HDL := Lib.hid hdl
        clear hl hb hdl
        go_wp2_with fail
        refine H3.out.mono ?_
        rintro e w1 ⟨rfl, hb1⟩
        have HD1 : Hid (BdAt w1 B B ds.flatten) := HD.out.keep hb1
        have HW1 := Lib.hid (HW.out.trans (hb1.mono hBs))
        have hBs1 : B ≤ w1.heap.size := Nat.le_trans HBS.out HW1.out.size
        have H4 := Lib.hid (bdWrite_any B B ds.flatten d w1 HD1.out (by have := HLN.out; have := HDL.out; omega) hBs1)
        clear hb1 H3
        go_wp2_with fail
        refine H4.out.mono ?_
        rintro e w2 ⟨rfl, hbd, hb2⟩
        have HD2 : Hid (BdAt w2 B B (ds ++ [d]).flatten) := by show BdAt _ _ _ _; rw [List.flatten_append]; simpa using hbd
        have HW2 := Lib.hid (HW1.out.trans hb2)
        have hBs2 : B ≤ w2.heap.size := Nat.le_trans HBS.out HW2.out.size
        clear hbd hb2 H4
        by_cases hend : j + 1 = k
        · have hj2 : (j : Int) = (k : Int) - 1 := by omega
          have t3 : ((j : Int) == (k : Int) - 1) = true := by rw [beq_iff_eq]; exact hj2
          have HDone := Lib.hid (HP.out.done HL.out HBK.out hend hk255)
          have H5 := Lib.hid (bdString_any B B (ds ++ [d]).flatten w2 HD2.out hBs2)
          have hlen : (ds ++ [d]).length = k := by have := HP.out.1; simp; omega
          have HLen := Lib.hid hlen
          clear hj2 hend hlen
          go_wp2_with fail
          refine H5.out.mono ?_
          rintro e w3 ⟨rfl, hb3⟩
          have HW3 := Lib.hid (HW2.out.trans hb3)
          clear hb3 H5
          go_wp2
          try rw [Exit.noGoto_ret]
          go_ret3
          refine ⟨.inl ⟨_, HDone.out, ?_⟩, by rw [← HBE.out]; exact HW3.out⟩
          rw [HLen.out, show (ds ++ [d]).flatten = ds.flatten ++ d by simp]
          rfl
        · have t3 : ((j : Int) == (k : Int) - 1) = false := by rw [beq_eq_false_iff_ne]; omega
          have hne : ¬ (j : Int) = (k : Int) - 1 := by omega
          have HPs := Lib.hid (HP.out.step HL.out HBK.out hend)
          clear hend
          go_wp2
          go_roundg (n - (j + 1))
          case measure => omega
          case rel => exact ⟨j + 1, ds ++ [d], by omega, by go_num, by omega, HPs.out, HD2.out, by show _ ≤ _; have := HLN.out; have := HDL.out; rw [List.flatten_append, List.length_append, show [d].flatten = d by simp]; omega, HW2.out⟩
      · have hno : ∀ d, ¬ IsBlk number j k l d := fun d hd => hex ⟨d, hd⟩
        have H3 := Lib.hid (dataIn_no number j k l wr hn hk255 hno)
        have HNO := Lib.hid (none_at HP.out HL0.out HK.out hl hno)
        clear hl hno hex
        go_wp2_with fail
        refine H3.out.mono ?_
        rintro e w1 ⟨rfl, hb1⟩
        have HD1 : Hid (BdAt w1 B B ds.flatten) := HD.out.keep hb1
        have HW1 := Lib.hid (HW.out.trans (hb1.mono hBs))
        have hBs1 : B ≤ w1.heap.size := Nat.le_trans HBS.out HW1.out.size
        have H4 := Lib.hid (bdWrite_any B B ds.flatten [] w1 HD1.out (by have := HLN.out; rw [List.length_nil]; omega) hBs1)
        clear hb1 H3
        go_wp2_with fail
        refine H4.out.mono ?_
        rintro e w2 ⟨rfl, hbd, hb2⟩
        have HW2 := Lib.hid (HW1.out.trans hb2)
        clear hbd hb2 H4
        go_wp2
        try rw [Exit.noGoto_ret]
        go_ret3
        exact ⟨.inr ⟨HNO.out, rfl⟩, by rw [← HBE.out]; exact HW2.out⟩
    · have e : j = n := by omega
      subst e
      have HNO := Lib.hid (none_end HP.out HL0.out HK.out HN.out)
      clear hgk
      go_wp2
      try rw [Exit.noGoto_ret]
      go_ret3
      exact ⟨.inr ⟨HNO.out, rfl⟩, by rw [← HBE.out]; exact HW.out⟩
end Go.Proofs.Ytbpklikmldpeiaa
