/-
  Contract of disk.Disk.Write.
-/
import Derived.Test.YtbpklikmldpeiaaDskBMA
import Derived.Test.YtbpklikmldpeiaaOrdMA
namespace Go.Proofs.Ytbpklikmldpeiaa
open Go.RowKit Go.Lib

/-- room for one pending write more -/
def Room (n : Nat) : Prop := (n + 1 + (n + 1) / 4 + 192) * 72 ≤ 281474976710656

def wA (x : Value) : Array Value := (x :: List.replicate 64 (Value.int .u8 0)).toArray
theorem built_w (x : Int) : Try.prog.built 84 [(0, .int .i64 x)] = some (wA (.int .i64 x)) := by kernel_rfl

theorem write_nil (k : Int) (d : List UInt8) (w : World) :
    Calls Try.prog 23 #[.pointer none, .int .i64 k, .string (st d)] w fun e w' => e = .returned (.int .i64 1) ∧ w = w' := by
  go_enter Try.func23, Try.ntmps23
  go_wp2_with (go_at_call 45; refine (refusal_nil _ _).mono ?_; rintro e w' ⟨rfl, rfl⟩)
  go_ret
  exact ⟨rfl, rfl⟩

set_option maxHeartbeats 1000000 in
set_option maxRecDepth 100000 in
theorem write_yes (B b : Nat) (s : DS) (fp : List Nat) (m : Nat) (d : List UInt8) (w : World) (h : PD w B b s fp) (hr : s.refusal m = 0) (hd : d.length = 64) (hroom : Room s.pe.length) :
    Calls Try.prog 23 #[.pointer (some ⟨b, 0, none⟩), .int .i64 m, .string (st d)] w fun e w' => e = .returned (.int .i64 (bit7 (s.pend m d).thing.2)) ∧ After fp w w' (PD w' B b (s.pend m d).thing.1) := by
  have HREF := Lib.hid (refusal_any B b s fp m w h)
  rw [hr] at HREF
  have hsd : (st d).size = 64 := by rw [st_size, hd]
  have hi1 : (Try.prog.info? 84).map (·.size) = some (wA (.int .i64 m)).size := by rw [show (wA (.int .i64 m)).size = 65 by simp [wA]]; exact (info_zero infoDkWrite).2.1
  have hz1 : zW.size = (wA (.int .i64 m)).size := by simp [wA, zW]
  have ho1 : ∀ u ∈ (wA (.int .i64 m)).toList, u.oneCell' = true := by
    intro u hu
    simp [wA] at hu
    rcases hu with rfl | ⟨_, rfl⟩ <;> rfl
  have HI1 := Lib.hid hi1
  have HZ1 := Lib.hid hz1
  have HO1 := Lib.hid ho1
  have hU1 : (Try.prog.info? 5).map (·.size) = some 1 := (info_zero infoU8d).2.1
  have hn1 : ((wA (.int .i64 m)).toList.take 1 ++ byteCells (st d).data.toList ++ (wA (.int .i64 m)).toList.drop (1 + (st d).size)).toArray = (cW (m, d)).toArray := by
    rw [hsd, st_toList, List.drop_of_length_le (by simp [wA]), List.append_nil]
    rfl
  have HU1 := Lib.hid hU1
  have HN1 := Lib.hid hn1
  have hf1 : 1 + (st d).size ≤ (wA (.int .i64 m)).size := by rw [hsd]; simp [wA]
  have HF1 := Lib.hid hf1
  have HSD := Lib.hid (Nat.le_of_eq hsd)
  clear hi1 hz1 ho1 hU1 hn1 hf1
  obtain ⟨g, n, v, fz, bs, h, rfl⟩ := h
  have hbel : Below w.heap.size w (w.alloc (.cells (cW (m, d)).toArray 84)).drew := ((Below.refl _ _).alloc (Nat.le_refl _) _).drew
  have hbl : Blk (w.alloc (.cells (cW (m, d)).toArray 84)).drew w.heap.size 84 (cW (m, d)).toArray := Blk.new w _ _
  have hsz : w.heap.size < (w.alloc (.cells (cW (m, d)).toArray 84)).drew.heap.size := hbl.lt
  have hi2 : (Try.prog.info? 84).map (·.size) = some (cW (m, d)).length := by rw [cW_length (by exact hd)]; exact (info_zero infoDkWrite).2.1
  have hcs : (cW (m, d)).toArray.size = 65 := by rw [List.size_toArray, cW_length (by exact hd)]
  have hone : ∀ u ∈ (cW (m, d)).toArray.toList, u.oneCell' = true := by
    intro u hu
    rw [List.toList_toArray, cW] at hu
    rcases List.mem_cons.1 hu with rfl | hu
    · rfl
    · exact bv_one _ u hu
  have HI2 := Lib.hid hi2
  have HCS := Lib.hid hcs
  have HONE := Lib.hid hone
  have HX := Lib.hid h
  have HROOM := Lib.hid hroom
  clear hi2 hcs hone h hroom
  go_enter Try.func23, Try.ntmps23
  go_wp2_with (first | (go_at_call 45; refine HREF.out.mono ?_; rintro e w' ⟨rfl, rfl⟩) | (refine wpList_build_is rfl 84 0 _ rfl (.int .i64 m) rfl (wA (.int .i64 m)) (built_w _) ?_) | (refine wpList_alloc_z rfl 84 rfl zW 65 72 infoDkWrite ?_) | (refine wpList_store_new rfl 84 _ _ rfl rfl _ rfl _ _ HI1.out HZ1.out HO1.out ?_) | (refine wpList_copy_str_new rfl _ _ 50 9 5 rfl Try.underlying50 HU1.out 1 64 64 rfl _ rfl _ _ HSD.out HF1.out _ HN1.out ?_))
  refine wp_region_E (fun w' => w'.cell? ⟨b, 1, none⟩ = some v ∧ w'.rangeAt w.heap.size 0 (cW (m, d))) [10] (by kernel_rfl) ?_
  generalize (w.alloc (.cells (cW (m, d)).toArray 84)).drew = W at hbel hbl hsz ⊢
  have HBEL := Lib.hid hbel
  have HBL := Lib.hid hbl
  have HSZ := Lib.hid hsz
  have HXW := Lib.hid (HX.out.box.since hbel)
  have HOW := Lib.hid (own_stp HX.out.own (Stp.of_below (fp := []) hbel) (fun k _ hk => by cases hk))
  have HS0 : Hid (W.cell? ⟨b, 1, none⟩ = some v ∧ W.rangeAt w.heap.size 0 (cW (m, d))) := ⟨HXW.out.cell 1, range_of_blk (xs := []) (zs := []) (by rw [List.append_nil]; exact hbl)⟩
  clear hbel hbl hsz
  refine wpAnyE_take 0 (some 24) (.pointer (some ⟨b, 0, none⟩)) rfl rfl (by kernel_rfl) (by kernel_rfl) (by kernel_rfl) (by kernel_rfl) (fun _ _ _ h => h) (yields_move rfl _ rfl _ rfl) HS0.out ?_
  simp only [Act.put, List.setIfInBounds_toArray, List.set_cons_zero, List.set_cons_succ]
  refine wpAnyE_take 1 (some 25) (.pointer (some ⟨b, 0, none⟩)) rfl rfl (by kernel_rfl) (by kernel_rfl) (by kernel_rfl) (by kernel_rfl) (fun _ _ _ h => h) (yields_move rfl _ rfl _ rfl) HS0.out ?_
  simp only [Act.put, List.setIfInBounds_toArray, List.set_cons_zero, List.set_cons_succ]
  refine wpAnyE_take 2 (some 26) (.pointer (some ⟨b, 0, none⟩)) rfl rfl (by kernel_rfl) (by kernel_rfl) (by kernel_rfl) (by kernel_rfl) (fun _ _ _ h => h) (yields_nilCheck rfl _ rfl _ rfl) HS0.out ?_
  simp only [Act.put, List.setIfInBounds_toArray, List.set_cons_zero, List.set_cons_succ]
  refine wpAnyE_take 3 (some 27) (.pointer (some ⟨b, 1, none⟩)) rfl rfl (by kernel_rfl) (by kernel_rfl) (by kernel_rfl) (by kernel_rfl) (fun _ _ _ h => h) (Or.inl ⟨by rfl, fun w _ => by go_simp⟩) HS0.out ?_
  simp only [Act.put, List.setIfInBounds_toArray, List.set_cons_zero, List.set_cons_succ]
  refine wpAnyE_take 4 (some 28) (v) rfl rfl (by kernel_rfl) (by kernel_rfl) (by kernel_rfl) (by kernel_rfl) (fun _ _ _ h => h) (yields_load rfl 62 _ rfl Try.underlying62 rfl _ rfl _ (fun w h => h.1)) HS0.out ?_
  simp only [Act.put, List.setIfInBounds_toArray, List.set_cons_zero, List.set_cons_succ]
  refine wpAnyE_take 5 (some 29) (.agg (cW (m, d)).toArray) rfl rfl (by kernel_rfl) (by kernel_rfl) (by kernel_rfl) (by kernel_rfl) (fun _ _ _ h => h) (yieldsIf_load_mid rfl 84 _ rfl w.heap.size 0 rfl _ _ (fun w h => h.2) Try.underlying84 rfl HI2.out) HS0.out ?_
  simp only [Act.put, List.setIfInBounds_toArray, List.set_cons_zero, List.set_cons_succ]
  refine wpAnyE_one (i := 6) (by kernel_rfl) rfl rfl ?_
  refine wp_buildSlice_one (some 30) rfl 62 84 _ rfl (.agg zW) 65 72 Try.underlying62 infoDkWrite (by omega) (by omega) (cW (m, d)).toArray rfl HCS.out ?_
  simp only [Act.put, List.setIfInBounds_toArray, List.set_cons_zero, List.set_cons_succ]
  have HB2 : Hid (Below w.heap.size w (W.alloc (.cells (cW (m, d)).toArray 84))) := HBEL.out.alloc HBEL.out.size _
  have HBL2 : Hid (Blk (W.alloc (.cells (cW (m, d)).toArray 84)) w.heap.size 84 (cW (m, d)).toArray) := HBL.out.alloc _
  have HBN2 : Hid (Blk (W.alloc (.cells (cW (m, d)).toArray 84)) W.heap.size 84 (cW (m, d)).toArray) := Blk.new W _ _
  generalize W.alloc (.cells (cW (m, d)).toArray 84) = W2 at HB2 HBL2 HBN2 ⊢
  have HX2 := Lib.hid (HX.out.box.since HB2.out)
  have HO2 := Lib.hid (own_stp HX.out.own (Stp.of_below (fp := []) HB2.out) (fun k _ hk => by cases hk))
  refine ⟨⟨HX2.out.cell 1, range_of_blk (xs := []) (zs := []) (by rw [List.append_nil]; exact HBL2.out)⟩, ?_⟩
  refine wpAnyE_one (i := 7) (by kernel_rfl) rfl rfl ?_
  refine wp_append_wide (some 31) rfl (.tmp 28) (.tmp 30) 62 84 rfl B (.agg zW) 65 72 Try.underlying62 infoDkWrite rfl (by omega) v s.pe.length _ rfl W.heap.size 1 rfl HO2.out _ HBN2.out HCS.out HONE.out (by have := HROOM.out; unfold Room at this; unfold maxLen; omega) HROOM.out (Nat.le_trans HX.out.hb (Nat.le_trans (Nat.le_of_lt HX.out.box.lt) HB2.out.size)) ?_
  intro v' W3 hown3 hgr3 hat3
  simp only [Act.put, List.setIfInBounds_toArray, List.set_cons_zero, List.set_cons_succ]
  have hvb : ∀ k, v.ownBlock = some k → k ≠ b ∧ k ≠ g ∧ k < w.heap.size := fun k hk => by
    obtain ⟨cur, hcur⟩ := own_blk_of HX.out.own hk
    exact ⟨fun e => by subst e; exact absurd rfl (HX.out.box.ne hcur (by decide)), fun e => by subst e; exact absurd rfl (HX.out.row.ne hcur (by decide)), hcur.lt⟩
  have HX3 := Lib.hid (HX2.out.kept hgr3 (fun e => (hvb b e.symm).1 rfl))
  have HR3 := Lib.hid ((HX.out.row.since HB2.out).kept hgr3 (fun e => (hvb g e.symm).2.1 rfl))
  have HBL3 := Lib.hid (HBL2.out.kept hgr3 (fun e => by have := (hvb _ e.symm).2.2; omega))
  have HST3 : Hid (Stp (fpP b g v) w W3) := (Stp.of_below (fp := fpP b g v) HB2.out).trans (fp' := fpP b g v) (Stp.of_grown_row hgr3 (fun k hk => mem_fpP.2 (.inr (.inr hk)))) (fun k hk => .inl hk)
  have HAT3 : Hid (∀ k, v'.ownBlock = some k → v.ownBlock = some k ∨ w.heap.size ≤ k) := fun k hk => by
    rcases hat3 with e | e
    · exact .inl (by rw [← e]; exact hk)
    · rw [e] at hk
      injection hk with hk
      have := HB2.out.size
      exact .inr (by omega)
  have HO3 := Lib.hid hown3
  clear hgr3 hown3 hat3
  have HS3 : Hid (W3.cell? ⟨b, 1, none⟩ = some v ∧ W3.rangeAt w.heap.size 0 (cW (m, d))) := ⟨HX3.out.cell 1, range_of_blk (xs := []) (zs := []) (by rw [List.append_nil]; exact HBL3.out)⟩
  refine ⟨HS3.out, ?_⟩
  refine wpAnyE_step 8 (some 32) (.pointer (some ⟨b, 0, none⟩)) (by kernel_rfl) rfl rfl (yields_nilCheck rfl _ rfl _ rfl) HS3.out ?_
  simp only [Act.put, List.setIfInBounds_toArray, List.set_cons_zero, List.set_cons_succ]
  refine wpAnyE_step 9 (some 33) (.pointer (some ⟨b, 1, none⟩)) (by kernel_rfl) rfl rfl (Or.inl ⟨by rfl, fun w _ => by go_simp⟩) HS3.out ?_
  simp only [Act.put, List.setIfInBounds_toArray, List.set_cons_zero, List.set_cons_succ]
  obtain ⟨va, vc, hvv⟩ := own_slice3 HO3.out
  refine wpAnyE_end (i := 10) (by kernel_rfl) rfl rfl rfl ?_
  refine wp_store_one none rfl 62 _ _ rfl (by kernel_rfl) ⟨b, 1, none⟩ rfl v' v rfl (by rw [hvv]; rfl) (HX3.out.cell 1) (HX3.out.frozen 1) ?_
  simp only [Act.put]
  refine wpAnyE_done (by kernel_rfl) ?_ _
  obtain ⟨np, hnp⟩ : ∃ np, np = s.pe.length := ⟨_, rfl⟩
  have HNP := Lib.hid hnp
  subst hvv
  rw [← hnp] at HO3 HAT3
  have HX4 : Hid (Blk (W3.setCell ⟨b, 1, none⟩ (.slice va (np + 1) vc)) b 64 #[.slice (some ⟨g, 0, none⟩) n n, .slice va (np + 1) vc, .bool (decide (0 ≤ s.fu)), .int .i64 fz, .bool s.dead]) := by
    rw [hnp]; exact HX3.out.set 1 _
  have HR4 : Hid (Blk (W3.setCell ⟨b, 1, none⟩ (.slice va (np + 1) vc)) g 80 (bs.flatMap cB).toArray) := HR3.out.other (a := ⟨b, 1, none⟩) (HX.out.box.ne HX.out.row (by decide)).symm _
  have hvb' : ∀ k, (Value.slice va (np + 1) vc).ownBlock = some k → k ≠ b ∧ k ≠ g := fun k hk => by
    obtain ⟨cur, hcur⟩ := own_blk_of HO3.out hk
    exact ⟨fun e => by subst e; exact absurd rfl (HX3.out.ne hcur (by decide)), fun e => by subst e; exact absurd rfl (HR3.out.ne hcur (by decide))⟩
  have HVB := Lib.hid hvb'
  have HO4 : Hid ((W3.setCell ⟨b, 1, none⟩ (.slice va (np + 1) vc)).ownsRow B 84 65 (.slice va (np + 1) vc) (np + 1) (s.pe.flatMap cW ++ cW (m, d))) :=
    own_stp HO3.out ((Stp.refl [b] W3).setCell (x := ⟨b, 1, none⟩) (.inl (by simp)) _) (fun k hk => by simpa using (hvb' k hk).1)
  have HST4 : Hid (Stp (fpP b g v) w (W3.setCell ⟨b, 1, none⟩ (.slice va (np + 1) vc))) := HST3.out.setCell (.inl (mem_fpP.2 (.inl rfl))) _
  rw [← hnp]
  clear hvb hvb' hnp
  generalize W3.setCell ⟨b, 1, none⟩ (.slice va (np + 1) vc) = W4 at HX4 HR4 HO4 HST4 ⊢
  have c0 : W4.cell? ⟨b, 0, none⟩ = some (.slice (some ⟨g, 0, none⟩) n n) := HX4.out.cell 0
  have c1 : W4.cell? ⟨b, 1, none⟩ = some (.slice va (np + 1) vc) := HX4.out.cell 1
  have hml : m < bs.length := by
    have := (DS.refusal_zero hr).2.2
    rw [HX.out.blen, HX.out.num]; omega
  obtain ⟨x, hx⟩ : ∃ x, bs[m]? = some x := ⟨_, List.getElem?_eq_getElem hml⟩
  have cl : W4.cell? ⟨g, m * 65 + 64, none⟩ = some (.int .i64 (x.2 : Nat)) := by
    rw [HR4.out.cell, List.getElem?_toArray, flatMap_get cB 65 bs (row_len HX.out.lens) m 64 x hx (by omega), cB, List.getElem?_append_right (by rw [bv_length, HX.out.lens x (List.mem_of_getElem? hx)]; exact Nat.le_refl _), bv_length, HX.out.lens x (List.mem_of_getElem? hx)]
    rfl
  have fl : W4.frozen? ⟨g, m * 65 + 64, none⟩ = false := HR4.out.frozen _
  have hmn : (m : Int) < (n : Int) := by rw [HX.out.num, ← HX.out.map, List.length_map]; omega
  have hn : n ≤ 65536 := by rw [HX.out.num]; exact HX.out.ok.len
  have hnp : np ≤ 4611686018427387904 := by have := HROOM.out; rw [← HNP.out] at this; unfold Room at this; omega
  have HXX := Lib.hid hx
  have HR5 := Lib.hid (row_set HR4.out HX.out.lens hx (np + 1))
  have HML := Lib.hid hml
  have HRF := Lib.hid hr
  clear hx hml hr
  go_wp2
  go_region
  have HPD : Hid (PD (W4.setCell ⟨g, m * 65 + 64, none⟩ (.int .i64 ((np : Int) + 1))).drew B b (s.pend m d) (fpP b g (.slice va (np + 1) vc))) := by
    have hne := HX4.out.ne HR4.out (by decide)
    have hin : m < s.bl.length := by rw [← HX.out.map, List.length_map]; exact HML.out
    refine ⟨g, n, .slice va (np + 1) vc, fz, bs.set m (x.1, np + 1), ⟨HX.out.ok.pend hin hd, ?_, ?_, HX.out.num, HX4.out.other (a := ⟨g, m * 65 + 64, none⟩) hne _, HX.out.fz, HR5.out, ?_, HX.out.hb, HX.out.hg⟩, rfl⟩
    · rw [List.map_set]
      show (bs.map Prod.fst).set m x.1 = s.bl
      rw [HX.out.map]
      have hm : s.bl[m]? = some x.1 := (HX.out.stands HXX.out).1
      apply List.ext_getElem?
      intro i
      by_cases e : m = i
      · subst e; rw [List.getElem?_set_self hin, hm]
      · rw [List.getElem?_set_ne e]
    · intro k y hy
      show y.2 = lastOf (s.pe ++ [(m, d)]) k
      rw [lastOf_snoc]
      by_cases e : m = k
      · subst e
        rw [List.getElem?_set_self HML.out] at hy
        injection hy with hy
        rw [if_pos rfl, ← hy, HNP.out]
      · rw [List.getElem?_set_ne e] at hy
        rw [if_neg e]
        exact HX.out.last k y hy
    · have h5 := own_stp HO4.out ((Stp.refl [g] W4).setCell (x := ⟨g, m * 65 + 64, none⟩) (.inl (by simp)) (.int .i64 ((np : Int) + 1))) (fun k hk => by simpa using (HVB.out k hk).2)
      have e1 : (s.pend m d).pe.length = np + 1 := by rw [HNP.out]; simp [DS.pend]
      have e2 : (s.pend m d).pe.flatMap cW = s.pe.flatMap cW ++ cW (m, d) := by simp [DS.pend]
      rw [e1, e2]
      exact h5
  have HTH := Lib.hid (thing_any B b (s.pend m d) _ _ HPD.out)
  have HST5 : Hid (Stp (fpP b g v) w (W4.setCell ⟨g, m * 65 + 64, none⟩ (.int .i64 ((np : Int) + 1))).drew) := (HST4.out.setCell (.inl (mem_fpP.2 (.inr (.inl rfl)))) _).drew
  have HFR : Hid (∀ k ∈ fpP b g (.slice va (np + 1) vc), k ∈ fpP b g v ∨ w.heap.size ≤ k) := fun k hk => by
    rcases mem_fpP.1 hk with e | e | e
    · exact .inl (mem_fpP.2 (.inl e))
    · exact .inl (mem_fpP.2 (.inr (.inl e)))
    · rcases HAT3.out k e with h | h
      · exact .inl (mem_fpP.2 (.inr (.inr h)))
      · exact .inr h
  go_wp2_with fail
  refine HTH.out.mono ?_
  rintro e w' ⟨rfl, haf⟩
  have HAF := Lib.hid haf
  clear haf
  go_wp2
  go_ret
  exact ⟨rfl, After.step HST5.out HFR.out HAF.out⟩

theorem write_no (B b : Nat) (s : DS) (fp : List Nat) (k : Int) (d : List UInt8) (w : World) (h : PD w B b s fp) (hr : s.refusal k ≠ 0) :
    Calls Try.prog 23 #[.pointer (some ⟨b, 0, none⟩), .int .i64 k, .string (st d)] w fun e w' => e = .returned (.int .i64 (s.refusal k)) ∧ w = w' := by
  have HREF := Lib.hid (refusal_any B b s fp k w h)
  obtain ⟨f, hf⟩ : ∃ f, f = s.refusal k := ⟨_, rfl⟩
  rw [← hf] at HREF hr ⊢
  have tf : (f == 0) = false := by rw [beq_eq_false_iff_ne]; exact hr
  clear h hf
  go_enter Try.func23, Try.ntmps23
  go_wp2_with ((go_at_call 45; refine HREF.out.mono ?_; rintro e w' ⟨rfl, rfl⟩))
  go_ret
  exact ⟨rfl, rfl⟩

theorem write_arg (B b : Nat) (s : DS) (fp : List Nat) (k : Int) (d : List UInt8) (w : World) (h : PD w B b s fp) (hr : s.refusal k = 0) (hd : d.length ≠ 64) :
    Calls Try.prog 23 #[.pointer (some ⟨b, 0, none⟩), .int .i64 k, .string (st d)] w fun e w' => e = .returned (.int .i64 1) ∧ w = w' := by
  have HREF := Lib.hid (refusal_any B b s fp k w h)
  rw [hr] at HREF
  have hsd := st_size d
  have td : ((d.length : Int) == 64) = false := by rw [beq_eq_false_iff_ne]; omega
  clear h hr
  go_enter Try.func23, Try.ntmps23
  go_wp2_with ((go_at_call 45; refine HREF.out.mono ?_; rintro e w' ⟨rfl, rfl⟩))
  go_ret
  exact ⟨rfl, rfl⟩

/-- Write, whatever comes. -/
theorem write_any (B b : Nat) (s : DS) (fp : List Nat) (k : Int) (d : List UInt8) (w : World) (h : PD w B b s fp) (hroom : Room s.pe.length) :
    Calls Try.prog 23 #[.pointer (some ⟨b, 0, none⟩), .int .i64 k, .string (st d)] w fun e w' => e = .returned (.int .i64 (s.write k d).2) ∧ After fp w w' (PD w' B b (s.write k d).1) := by
  by_cases hr : s.refusal k = 0
  · obtain ⟨_, h0, _⟩ := DS.refusal_zero hr
    by_cases hd : d.length = 64
    · obtain ⟨m, hm⟩ : ∃ m : Nat, k = (m : Int) := ⟨k.toNat, by omega⟩
      subst hm
      have e : s.write m d = ((s.pend m d).thing.1, bit7 (s.pend m d).thing.2) := by
        unfold DS.write
        rw [if_neg (by rw [hr]; decide), if_neg (by simpa using hd), Int.toNat_natCast]
      rw [e]
      exact write_yes B b s fp m d w h hr hd hroom
    · have e : s.write k d = (s, 1) := by
        unfold DS.write
        rw [if_neg (by rw [hr]; decide), if_pos hd]
      rw [e]
      refine (write_arg B b s fp k d w h hr hd).mono ?_
      rintro e w' ⟨rfl, rfl⟩
      exact ⟨rfl, After.of (Stp.refl _ _) h⟩
  · have e : s.write k d = (s, s.refusal k) := by
      unfold DS.write
      rw [if_pos hr]
    rw [e]
    refine (write_no B b s fp k d w h hr).mono ?_
    rintro e w' ⟨rfl, rfl⟩
    exact ⟨rfl, After.of (Stp.refl _ _) h⟩
end Go.Proofs.Ytbpklikmldpeiaa
