/-
  The walk of souklaw03.OctetPuts.
-/
import Derived.Test.YtfafgpkfpmfmgaaOctO
namespace Go.Proofs.Ytfafgpkfpmfmgaa
open Go.RowKit

def wstep (o : Option (List (List UInt8))) (x : Itm) : Option (List (List UInt8)) :=
  if x.t then (if x.s.length > 65535 then none else o.map (txt x.s :: ·)) else o.map (lowL 8 (wd x.n) :: ·)
def wst (l : List Itm) : Option (List (List UInt8)) := l.foldl wstep (some [])

theorem wst_succ {ls : List Itm} {k : Nat} {x : Itm} (h : ls[k]? = some x) : wst (ls.take (k + 1)) = wstep (wst (ls.take k)) x := by
  obtain ⟨hlt, he⟩ := List.getElem?_eq_some_iff.1 h
  unfold wst
  rw [List.take_succ_eq_append_getElem hlt, List.foldl_append, he]
  rfl

theorem wstep_eq (o : Option (List (List UInt8))) (x : Itm) : wstep o x = if okI x then o.map (itB x :: ·) else none := by
  unfold wstep okI itB
  cases x.t with
  | false => simp
  | true =>
    by_cases h : x.s.length > 65535
    · have h2 : ¬ x.s.length ≤ 65535 := by omega
      simp [h, h2]
    · have h2 : x.s.length ≤ 65535 := by omega
      simp [h, h2]

theorem wst_gen : ∀ (l : List Itm) (o : Option (List (List UInt8))), l.foldl wstep o = if okB l then o.map ((l.map itB).reverse ++ ·) else none
  | [], o => by cases o <;> simp [okB]
  | x :: r, o => by
    rw [List.foldl_cons, wst_gen r, wstep_eq]
    cases h1 : okI x <;> cases h2 : okB r <;> cases o <;> simp_all [okB]

theorem wst_eq (l : List Itm) : wst l = if okB l then some ((l.map itB).reverse) else none := by
  unfold wst; rw [wst_gen]; simp

theorem flat_rev : ∀ (l : List Itm), flat ((l.map itB).reverse) = encB l
  | [] => rfl
  | x :: r => by
    rw [List.map_cons, List.reverse_cons, flat_append, flat_rev r]
    simp [flat, encB]

/-- what the reader gives of what was put -/
theorem get_text (s l : List UInt8) (h : s.length ≤ 65535) : tt (txt s ++ l) = s ∧ tl (txt s ++ l) = l ∧ tc (txt s ++ l) = false := by
  have hl2 : (lowL 2 s.length).length = 2 := lowL_length _ _
  have e1 : tk 2 (txt s ++ l) = lowL 2 s.length := by
    unfold tk txt
    rw [if_neg (by simp [hl2]), List.append_assoc, List.take_append_of_le_length (by omega), List.take_of_length_le (by omega)]
  have e2 : lf 2 (txt s ++ l) = s ++ l := by
    unfold lf txt
    rw [if_neg (by simp [hl2]), List.append_assoc, List.drop_append_of_le_length (by omega), List.drop_of_length_le (by omega)]
    rfl
  have e3 : numL (lowL 2 s.length) = s.length := numL_lowL 2 s.length (by have : (256 : Nat) ^ 2 = 65536 := by decide
                                                                          omega)
  unfold tt tl tc
  rw [e1, e2, e3]
  refine ⟨?_, ?_, ?_⟩
  · unfold tk; rw [if_neg (by simp)]; simp
  · unfold lf; rw [if_neg (by simp)]; simp
  · simp [txt, hl2]

theorem i64_of_wf {z : Int} (h : (Lit.int .i64 z).wf = true) : -9223372036854775808 ≤ z ∧ z ≤ 9223372036854775807 := by
  simp [Lit.wf, IntKind.min, IntKind.max, IntKind.signed, IntKind.bits] at h
  omega

theorem sg_wd (z : Int) (h : (Lit.int .i64 z).wf = true) : sg (wd z) = z := by
  have h1 := i64_of_wf h
  unfold sg wd
  split <;> omega

theorem get_num (z : Int) (l : List UInt8) (h : (Lit.int .i64 z).wf = true) : sg (numL (tk 8 (lowL 8 (wd z) ++ l))) = z ∧ lf 8 (lowL 8 (wd z) ++ l) = l ∧ decide ((lowL 8 (wd z) ++ l).length < 8) = false := by
  have hl : (lowL 8 (wd z)).length = 8 := lowL_length _ _
  have e1 : tk 8 (lowL 8 (wd z) ++ l) = lowL 8 (wd z) := by
    unfold tk
    rw [if_neg (by simp [hl]), List.take_append_of_le_length (by omega), List.take_of_length_le (by omega)]
  have e2 : lf 8 (lowL 8 (wd z) ++ l) = l := by
    unfold lf
    rw [if_neg (by simp [hl]), List.drop_append_of_le_length (by omega), List.drop_of_length_le (by omega)]
    rfl
  refine ⟨?_, e2, by simp [hl]⟩
  rw [e1, numL_lowL 8 _ (by rw [pow_256_8]; unfold wd; omega), sg_wd z h]

theorem drop_cons {ls : List Itm} {k : Nat} {x : Itm} (h : ls[k]? = some x) : encB (ls.drop k) = itB x ++ encB (ls.drop (k + 1)) := by
  obtain ⟨hlt, he⟩ := List.getElem?_eq_some_iff.1 h
  rw [List.drop_eq_getElem_cons hlt, he]; rfl

theorem okI_of {ls : List Itm} (h : okB ls = true) {k : Nat} {x : Itm} (hx : ls[k]? = some x) : okI x = true := by
  cases e : okI x with
  | true => rfl
  | false => rw [okB_bad hx e] at h; cases h

set_option maxHeartbeats 4000000 in
theorem puts_walk (a : Option Addr) (c : Nat) (ls : List Itm) (w : World) (hr : RowT w a ls) (hs : ∀ x ∈ ls, x.s.length ≤ 281474976710656) (hwf : ∀ x ∈ ls, (Lit.int .i64 x.n).wf = true) (hm : ls.length ≤ 9223372036854775807) :
    Calls Try.prog 3 #[.slice a ls.length c] w fun e w' => e = .returned (.bool true) ∧ Below w.heap.size w w' := by
  have HL := Lib.hid (lives3_any w)
  have HR := Lib.hid hr
  have HS := Lib.hid hs
  have HWF := Lib.hid hwf
  clear hr hs hwf
  by_cases hbad : 200 < ls.length ∨ 200000 < bulk ls
  · go_enter Try.func3, Try.ntmps3
    go_wp2_with fail
    refine HL.out.mono ?_
    rintro e w1 ⟨rfl, hb⟩
    have HB := Lib.hid hb
    have HR1 := HR.out.keep hb
    have HSM : Hid (Calls Try.prog 6 #[.slice a ls.length c] w1 fun e w' => e = .returned (.bool false) ∧ Below w1.heap.size w1 w') := by
      by_cases h2 : 200 < ls.length
      · exact small_many a c ls w1 HR1 h2 hm
      · have := small_few a c ls w1 HR1 HS.out (by omega)
        rw [decide_eq_false (by omega)] at this
        exact this
    clear hb HR1
    go_wp2_with fail
    refine HSM.out.mono ?_
    rintro e w2 ⟨rfl, hb2⟩
    have HB2 := Lib.hid (HB.out.trans (hb2.mono HB.out.size))
    have HL2 := Lib.hid (lives3_any w2)
    clear hb2 HSM
    go_wp2_with fail
    refine HL2.out.mono ?_
    rintro e w3 ⟨rfl, hb3⟩
    have HB3 := Lib.hid (HB2.out.trans (hb3.mono HB2.out.size))
    clear hb3
    go_wp2
    go_ret
    exact ⟨rfl, HB3.out⟩
  have hl : ls.length ≤ 200 := by omega
  have hbk : bulk ls ≤ 200000 := by omega
  clear hbad
  go_enter Try.func3, Try.ntmps3
  go_wp2_with fail
  refine HL.out.mono ?_
  rintro e w1 ⟨rfl, hb⟩
  have HB := Lib.hid hb
  have HR1 := Lib.hid (HR.out.keep hb)
  have hsm := small_few a c ls w1 HR1.out HS.out hl
  rw [decide_eq_true hbk] at hsm
  have HSM := Lib.hid hsm
  clear hb hsm HL
  go_wp2_with fail
  refine HSM.out.mono ?_
  rintro e w2 ⟨rfl, hb2⟩
  have HB2 := Lib.hid (HB.out.trans (hb2.mono HB.out.size))
  have HR2 := Lib.hid (HR1.out.keep hb2)
  have HW2 := Lib.hid (new_writer w2)
  obtain ⟨n, hn⟩ : ∃ n, n = ls.length := ⟨_, rfl⟩
  have HN := Lib.hid hn
  obtain ⟨B, hB⟩ : ∃ B, B = w2.heap.size := ⟨_, rfl⟩
  rw [← hB] at HW2
  have HBE := Lib.hid hB
  have HA := Lib.hid ((Below.refl B w2).alloc (Nat.le_of_eq hB) (.cells #[.pointer none, .bool false] 28))
  rw [← hn] at hl ⊢
  clear hb2 HSM HR HR1 hn hB hm
  go_wp2
  rw [← HBE.out]
  go_loopg [3, 25] n (fun gk p i wr => ∃ k : Nat, k ≤ n ∧ i = .int .i64 k ∧ p = .pointer (some ⟨B, 0, none⟩) ∧ n - k ≤ gk ∧ Hid (WAt wr B B (wst (ls.take k))) ∧ Hid (Below B w2 wr))
  case atStart => exact ⟨0, Nat.zero_le _, rfl, rfl, by omega, HBE.out ▸ HW2.out, HA.out⟩
  case round =>
    obtain ⟨k, hk, rfl, rfl, hgk, HWA, HBR⟩ := hrel
    by_cases hlt : k < n
    · obtain ⟨x, hx⟩ : ∃ x, ls[k]? = some x := ⟨ls[k]'(by have := HN.out; omega), List.getElem?_eq_getElem _⟩
      obtain ⟨b, off, rfl, hc⟩ := HR2.out (by have := HN.out; omega)
      have hblk : b < w2.heap.size := World.block_lt_of_cell? w2 _ (hc k x hx).1
      have hblk2 : b < B := by rw [HBE.out]; exact hblk
      have c0 : wr.cell? ⟨b, off + k * 3, none⟩ = some (.bool x.t) := by rw [HBR.out.cell (p := ⟨b, off + k * 3, none⟩) hblk2]; exact (hc k x hx).1
      have c1 : wr.cell? ⟨b, off + k * 3 + 1, none⟩ = some (.int .i64 x.n) := by rw [HBR.out.cell (p := ⟨b, off + k * 3 + 1, none⟩) hblk2]; exact (hc k x hx).2.1
      have c2 : wr.cell? ⟨b, off + k * 3 + 2, none⟩ = some (.string (st x.s)) := by rw [HBR.out.cell (p := ⟨b, off + k * 3 + 2, none⟩) hblk2]; exact (hc k x hx).2.2
      have hkz : (0 : Int) ≤ (k : Int) := by omega
      have hkn : (k : Int) < (n : Int) := by omega
      have HX := Lib.hid hx
      have hBsz : B ≤ wr.heap.size := Nat.le_trans (Nat.le_of_eq HBE.out) HBR.out.size
      have hbx := (Below.refl wr.heap.size wr).alloc (Nat.le_refl _) (.cells #[.bool x.t, .int .i64 x.n, .string (st x.s)] 30)
      have HBX := Lib.hid (HBR.out.alloc hBsz (.cells #[.bool x.t, .int .i64 x.n, .string (st x.s)] 30))
      have HWX := Lib.hid (HWA.out.keep hbx)
      have HBS : Hid (B ≤ (wr.alloc (.cells #[.bool x.t, .int .i64 x.n, .string (st x.s)] 30)).heap.size) := Nat.le_trans hBsz hbx.size
      have H1 := Lib.hid (wText_any B B (wst (ls.take k)) x.s _ HWX.out HBS.out)
      have H2 := Lib.hid (wInt_any B B (wst (ls.take k)) x.n _ HWX.out HBS.out)
      clear hc hx hblk hbx
      cases hxt : x.t with
      | true =>
        rw [hxt] at c0 H1 HBX HBS
        have hstep : wst (ls.take (k + 1)) = if x.s.length > 65535 then none else (wst (ls.take k)).map (txt x.s :: ·) := by
          rw [wst_succ HX.out]; unfold wstep; rw [hxt]; rfl
        rw [← hstep] at H1
        go_wp2_with fail
        refine H1.out.mono ?_
        rintro e w' ⟨rfl, hg, ha⟩
        have HG := Lib.hid (Below.of_grown HBX.out hg HBS.out (Nat.le_refl _))
        have HA1 := Lib.hid ha
        clear hg ha H1 H2
        go_wp2
        go_roundg (n - (k + 1))
        case measure => omega
        case rel => exact ⟨k + 1, by omega, by go_num, rfl, by omega, HA1.out, HG.out⟩
      | false =>
        rw [hxt] at c0 H2 HBX HBS
        have hstep : wst (ls.take (k + 1)) = (wst (ls.take k)).map (lowL 8 (wd x.n) :: ·) := by
          rw [wst_succ HX.out]; unfold wstep; rw [hxt]; rfl
        rw [← hstep] at H2
        go_wp2_with fail
        refine H2.out.mono ?_
        rintro e w' ⟨rfl, hg, ha⟩
        have HG := Lib.hid (Below.of_grown HBX.out hg HBS.out (Nat.le_refl _))
        have HA1 := Lib.hid ha
        clear hg ha H1 H2
        go_wp2
        go_roundg (n - (k + 1))
        case measure => omega
        case rel => exact ⟨k + 1, by omega, by go_num, rfl, by omega, HA1.out, HG.out⟩
    · have e : k = n := by omega
      subst e
      have hwa := HWA.out
      rw [List.take_of_length_le (by have := HN.out; omega), wst_eq] at hwa
      have HRr := Lib.hid (HR2.out.keep (by rw [← HBE.out]; exact HBR.out))
      have HBr := Lib.hid (HB2.out.trans (HBR.out.mono (by rw [HBE.out]; exact HB2.out.size)))
      have hbB : B ≤ wr.heap.size := Nat.le_trans (Nat.le_of_eq HBE.out) HBR.out.size
      have hwsz : w.heap.size ≤ B := by rw [HBE.out]; exact HB2.out.size
      cases hok : okB ls with
      | false =>
        rw [hok] at hwa
        have H1 := Lib.hid (bytes_long B B wr hwa)
        have hpp := rPut_any a c ls wr HRr.out (by have := HN.out; omega) hbk HWF.out
        rw [putB, hok, ← HN.out] at hpp
        have H2 := Lib.hid hpp
        clear hwa hpp
        go_wp2_with fail
        refine H1.out.mono ?_
        rintro e w' ⟨rfl, rfl⟩
        go_wp2_with fail
        refine H2.out.mono ?_
        rintro e w3 ⟨rfl, hb3⟩
        have HB3 := Lib.hid (HBr.out.trans (hb3.mono HBr.out.size))
        have e0 : st [] = (⟨#[]⟩ : ByteArray) := rfl
        clear hb3 H1 H2
        go_wp2
        go_ret
        exact ⟨rfl, HB3.out⟩
      | true =>
        rw [hok] at hwa
        have H1 := bytes_any B B ((ls.map itB).reverse) wr hwa (by rw [flat_rev]; have := encB_le ls; omega)
        rw [flat_rev] at H1
        have H1 := Lib.hid H1
        have HOK := Lib.hid hok
        clear hwa hok
        go_wp2_with fail
        refine H1.out.mono ?_
        rintro e w3 ⟨rfl, hb3⟩
        have HR3 := Lib.hid (HRr.out.keep hb3)
        have HQ3 := Lib.hid (HBR.out.trans (hb3.mono hbB))
        have hpp := rPut_any a c ls w3 HR3.out (by have := HN.out; omega) hbk HWF.out
        rw [putB, HOK.out, ← HN.out] at hpp
        have H2 := Lib.hid hpp
        clear hb3 hpp H1
        go_wp2_with fail
        refine H2.out.mono ?_
        rintro e w4 ⟨rfl, hb4⟩
        have HQ4 := Lib.hid (HQ3.out.trans (hb4.mono (Nat.le_trans (Nat.le_of_eq HBE.out) HQ3.out.size)))
        have H3 := Lib.hid (read_any (st (encB ls)) w4)
        rw [st_toList] at H3
        clear hb4 H2
        go_wp2_with fail
        refine H3.out.mono ?_
        rintro e w5 ⟨rfl, hb5, ha5⟩
        have HQ5 := Lib.hid (HQ4.out.trans (hb5.mono (Nat.le_trans (Nat.le_of_eq HBE.out) HQ4.out.size)))
        have HA5 := Lib.hid ha5
        obtain ⟨X, hX⟩ : ∃ X, X = w4.heap.size := ⟨_, rfl⟩
        rw [← hX] at HA5 ⊢
        have HXB : Hid (B ≤ X) := by rw [hX]; exact Nat.le_trans (Nat.le_of_eq HBE.out) HQ4.out.size
        clear hb5 ha5 H3 hX HR3 HRr HBR HBr hbB hgk HWA HQ4 HQ3
        go_wp2
        go_loopg [69] k (fun gk i wr => ∃ j : Nat, j ≤ k ∧ i = .int .i64 j ∧ k - j ≤ gk ∧ Hid (RAt wr X (encB (ls.drop j)) false) ∧ Hid (Below B w2 wr))
        case atStart => exact ⟨0, Nat.zero_le _, rfl, by omega, HA5.out, HQ5.out⟩
        case round =>
          obtain ⟨j, hj, rfl, hgj, HRA, HBj⟩ := hrel
          by_cases hlt2 : j < k
          · obtain ⟨x, hx⟩ : ∃ x, ls[j]? = some x := ⟨ls[j]'(by have := HN.out; omega), List.getElem?_eq_getElem _⟩
            obtain ⟨b, off, rfl, hc⟩ := HR2.out (by have := HN.out; omega)
            have hblk2 : b < B := by rw [HBE.out]; exact World.block_lt_of_cell? w2 _ (hc j x hx).1
            have c0 : wr.cell? ⟨b, off + j * 3, none⟩ = some (.bool x.t) := by rw [HBj.out.cell (p := ⟨b, off + j * 3, none⟩) hblk2]; exact (hc j x hx).1
            have c1 : wr.cell? ⟨b, off + j * 3 + 1, none⟩ = some (.int .i64 x.n) := by rw [HBj.out.cell (p := ⟨b, off + j * 3 + 1, none⟩) hblk2]; exact (hc j x hx).2.1
            have c2 : wr.cell? ⟨b, off + j * 3 + 2, none⟩ = some (.string (st x.s)) := by rw [HBj.out.cell (p := ⟨b, off + j * 3 + 2, none⟩) hblk2]; exact (hc j x hx).2.2
            have hjz : (0 : Int) ≤ (j : Int) := by omega
            have hjk : (j : Int) < (k : Int) := by omega
            have hokx := okI_of HOK.out hx
            have hwfx := HWF.out x (List.mem_of_getElem? hx)
            have hdr := drop_cons hx
            have hX5 : X < wr.heap.size := HRA.out.lt
            have hwsz2 : B ≤ wr.heap.size := Nat.le_trans (Nat.le_of_eq HBE.out) HBj.out.size
            have HAL := Lib.hid (Blk.new wr 30 #[.bool x.t, .int .i64 x.n, .string (st x.s)])
            have HRA0 := Lib.hid (HRA.out.alloc (.cells #[.bool x.t, .int .i64 x.n, .string (st x.s)] 30))
            have HBj0 := Lib.hid (HBj.out.alloc hwsz2 (.cells #[.bool x.t, .int .i64 x.n, .string (st x.s)] 30))
            clear hc hx
            cases hxt : x.t with
            | true =>
              rw [hxt] at c0 HAL HRA0 HBj0
              have hle : x.s.length ≤ 65535 := by
                unfold okI at hokx; rw [hxt] at hokx; simpa using hokx
              have hit : itB x = txt x.s := by unfold itB; rw [hxt]; rfl
              obtain ⟨g1, g2, g3⟩ := get_text x.s (encB (ls.drop (j + 1))) hle
              rw [← hit, ← hdr] at g1 g2 g3
              go_wp2
              obtain ⟨W0, hW0⟩ : ∃ W0, W0 = wr.alloc (.cells #[.bool true, .int .i64 x.n, .string (st x.s)] 30) := ⟨_, rfl⟩
              rw [← hW0] at HAL HRA0 HBj0 ⊢
              obtain ⟨Y, hY⟩ : ∃ Y, Y = wr.heap.size := ⟨_, rfl⟩
              have HY := Lib.hid hY
              rw [← hY] at HAL ⊢
              have HT := rText_any X (encB (ls.drop j)) false W0.drew HRA0.out
              rw [g1, g2, g3] at HT
              have HT := Lib.hid HT
              have y0 : W0.cell? ⟨Y, 0, none⟩ = some (.bool true) := HAL.out.cell 0
              have y2 : W0.cell? ⟨Y, 2, none⟩ = some (.string (st x.s)) := HAL.out.cell 2
              have hne : X ≠ Y := by omega
              clear hW0 hY g1 g2 g3 c0 c1 c2 hX5
              first | go_region_with (first
                | (go_at_call 12; refine HT.out.mono ?_; rintro e w6 ⟨rfl, hg, ha⟩; have hbk6 := (show Blk W0.drew Y 30 _ from HAL.out).kept hg (by simpa using Ne.symm hne); have k0 : w6.cell? ⟨Y, 0, none⟩ = some (.bool true) := hbk6.cell 0; have k2 : w6.cell? ⟨Y, 2, none⟩ = some (.string (st x.s)) := hbk6.cell 2; have HG6 := Lib.hid hg; have HA6 := Lib.hid ha; clear hg ha hbk6)) | fail
              all_goals
                go_wp2
                go_roundg (k - (j + 1))
                case measure => omega
                case rel =>
                  have hgg : W0.grownBy w6 (some X) := ⟨HG6.out.os, HG6.out.tape, HG6.out.output, HG6.out.size, HG6.out.block⟩
                  exact ⟨j + 1, by omega, by go_num, by omega, HA6.out, Below.of_grown HBj0.out hgg (Nat.le_trans (Nat.le_of_eq HBE.out) HBj0.out.size) HXB.out⟩
            | false =>
              rw [hxt] at c0 HAL HRA0 HBj0
              have hit : itB x = lowL 8 (wd x.n) := by unfold itB; rw [hxt]; rfl
              obtain ⟨g1, g2, g3⟩ := get_num x.n (encB (ls.drop (j + 1))) hwfx
              rw [← hit, ← hdr] at g1 g2 g3
              go_wp2
              obtain ⟨W0, hW0⟩ : ∃ W0, W0 = wr.alloc (.cells #[.bool false, .int .i64 x.n, .string (st x.s)] 30) := ⟨_, rfl⟩
              rw [← hW0] at HAL HRA0 HBj0 ⊢
              obtain ⟨Y, hY⟩ : ∃ Y, Y = wr.heap.size := ⟨_, rfl⟩
              have HY := Lib.hid hY
              rw [← hY] at HAL ⊢
              have HT := rInt_any X (encB (ls.drop j)) false W0.drew HRA0.out
              rw [g1, g2, g3] at HT
              have HT := Lib.hid HT
              have y0 : W0.cell? ⟨Y, 0, none⟩ = some (.bool false) := HAL.out.cell 0
              have y1 : W0.cell? ⟨Y, 1, none⟩ = some (.int .i64 x.n) := HAL.out.cell 1
              have hne : X ≠ Y := by omega
              clear hW0 hY g1 g2 g3 c0 c1 c2 hX5
              first | go_region_with (first
                | (go_at_call 13; refine HT.out.mono ?_; rintro e w6 ⟨rfl, hg, ha⟩; have hbk6 := (show Blk W0.drew Y 30 _ from HAL.out).kept hg (by simpa using Ne.symm hne); have k0 : w6.cell? ⟨Y, 0, none⟩ = some (.bool false) := hbk6.cell 0; have k1 : w6.cell? ⟨Y, 1, none⟩ = some (.int .i64 x.n) := hbk6.cell 1; have HG6 := Lib.hid hg; have HA6 := Lib.hid ha; clear hg ha hbk6)) | fail
              all_goals
                go_wp2
                go_roundg (k - (j + 1))
                case measure => omega
                case rel =>
                  have hgg : W0.grownBy w6 (some X) := ⟨HG6.out.os, HG6.out.tape, HG6.out.output, HG6.out.size, HG6.out.block⟩
                  exact ⟨j + 1, by omega, by go_num, by omega, HA6.out, Below.of_grown HBj0.out hgg (Nat.le_trans (Nat.le_of_eq HBE.out) HBj0.out.size) HXB.out⟩
          · have e : j = k := by omega
            subst e
            have hra := HRA.out
            rw [List.drop_of_length_le (by have := HN.out; omega)] at hra
            have H4 := Lib.hid (rEnd_any X [] false wr hra)
            clear hra
            go_wp2_with fail
            refine H4.out.mono ?_
            rintro e w7 ⟨rfl, rfl⟩
            go_wp2
            go_ret
            exact ⟨rfl, HB2.out.trans (HBj.out.mono (by rw [HBE.out]; exact HB2.out.size))⟩
end Go.Proofs.Ytfafgpkfpmfmgaa
