/-
  Contracts of Lots.Add.
-/
import Derived.Test.YtoiiaicjlefclaaLotN
import Derived.Test.YtoiiaicjlefclaaLawA
import Derived.Test.YtoiiaicjlefclaaOrd
import Derived.BigRegion
import Derived.Deep.WholeRow
namespace Go.Proofs.Ytoiiaicjlefclaa
open Go.RowKit Go.Deep Go.Lib

set_option maxHeartbeats 800000 in
theorem add_nil (p c : List UInt8) (m d : Int) (w : World) :
    Calls Try.prog 11 #[.pointer none, .agg #[.string (st p), .string (st c), .int .i64 m, .int .i64 d]] w fun e w' => e = .returned (.int .i64 1) ∧ Below w.heap.size w w' := by
  have HB : Hid (∀ o, Below w.heap.size w (w.alloc o)) := fun o => (Below.refl _ w).alloc (Nat.le_refl _) o
  go_enter Try.func11, Try.ntmps11
  go_wp2
  go_ret
  exact ⟨rfl, HB.out _⟩

set_option maxHeartbeats 1600000 in
theorem add_bad (b : Nat) (p c : List UInt8) (m d : Int) (w : World) (hbad : badLt (p, c, m, d) = true) :
    Calls Try.prog 11 #[.pointer (some ⟨b, 0, none⟩), .agg #[.string (st p), .string (st c), .int .i64 m, .int .i64 d]] w fun e w' => e = .returned (.int .i64 1) ∧ Below w.heap.size w w' := by
  have HB : Hid (∀ o, Below w.heap.size w (w.alloc o)) := fun o => (Below.refl _ w).alloc (Nat.le_refl _) o
  have hb := of_decide_eq_true hbad
  simp only at hb
  clear hbad
  by_cases h1 : p.length = 0
  · have e1 := st_empty h1
    clear hb h1
    go_enter Try.func11, Try.ntmps11
    go_wp2
    go_ret
    exact ⟨rfl, HB.out _⟩
  have e1 := st_full h1
  by_cases h2 : c.length = 0
  · have e2 := st_empty h2
    clear hb h1 h2
    go_enter Try.func11, Try.ntmps11
    go_wp2
    go_ret
    exact ⟨rfl, HB.out _⟩
  have e2 := st_full h2
  by_cases h3 : m < 0
  · clear hb h1 h2
    go_enter Try.func11, Try.ntmps11
    go_wp2
    go_ret
    exact ⟨rfl, HB.out _⟩
  have h4 : d < 0 := by omega
  clear hb h1 h2
  go_enter Try.func11, Try.ntmps11
  go_wp2
  go_ret
  exact ⟨rfl, HB.out _⟩

set_option maxHeartbeats 1600000 in
theorem add_zero (b : Nat) (p c : List UInt8) (m d : Int) (w : World) (hbad : badLt (p, c, m, d) = false) (hm : ¬ 0 < m) :
    Calls Try.prog 11 #[.pointer (some ⟨b, 0, none⟩), .agg #[.string (st p), .string (st c), .int .i64 m, .int .i64 d]] w fun e w' => e = .returned (.int .i64 0) ∧ Below w.heap.size w w' := by
  have HB : Hid (∀ o, Below w.heap.size w (w.alloc o)) := fun o => (Below.refl _ w).alloc (Nat.le_refl _) o
  have hb := of_decide_eq_false hbad
  simp only at hb
  have e1 := st_full (p := p) (by omega)
  have e2 := st_full (p := c) (by omega)
  have h4 : ¬ d < 0 := by omega
  obtain rfl : m = 0 := by omega
  clear hbad hb hm
  go_enter Try.func11, Try.ntmps11
  go_wp2
  go_ret
  exact ⟨rfl, HB.out _⟩

/-- one more, behind all -/
def AddP (B b : Nat) (l : List Lt) (v : Value) (x : Lt) (w : World) (e : Ending) (w' : World) : Prop :=
  e = .returned (.int .i64 0) ∧ ∃ v', LotsP B w' b (l ++ [x]) v' ∧ Stp (fpL b v) w w' ∧ ∀ k, v'.ownBlock = some k → v.ownBlock = some k ∨ w.heap.size ≤ k

theorem range_lot {w : World} {b : Nat} {x : Lt} (h : Blk w b 30 (cLt x).toArray) : w.rangeAt b 0 (cLt x) := fun j v hv => by
  rw [Nat.zero_add, h.cell j, List.getElem?_toArray]
  exact hv

set_option maxHeartbeats 1600000 in
set_option maxRecDepth 100000 in
theorem add_yes (B b : Nat) (l : List Lt) (v : Value) (p c : List UInt8) (m d : Int) (w : World) (h : LotsP B w b l v) (hbad : badLt (p, c, m, d) = false) (hm : 0 < m) (hl : l.length ≤ 1000000) :
    Calls Try.prog 11 #[.pointer (some ⟨b, 0, none⟩), .agg #[.string (st p), .string (st c), .int .i64 m, .int .i64 d]] w (AddP B b l v (p, c, m, d) w) := by
  have hb := of_decide_eq_false hbad
  simp only at hb
  have e1 := st_full (p := p) (by omega)
  have e2 := st_full (p := c) (by omega)
  have h3 : ¬ m < 0 := by omega
  have h4 : ¬ d < 0 := by omega
  obtain ⟨x, hx⟩ : ∃ x : Lt, x = (p, c, m, d) := ⟨_, rfl⟩
  have HXE := Lib.hid hx
  have HC : Hid ((cLt x).toArray = #[.string (st p), .string (st c), .int .i64 m, .int .i64 d]) := by show _ = _; rw [hx]; rfl
  have hbel : Below w.heap.size w (w.alloc (.cells #[.string (st p), .string (st c), .int .i64 m, .int .i64 d] 30)).drew := ((Below.refl _ _).alloc (Nat.le_refl _) _).drew
  have hbl : Blk (w.alloc (.cells #[.string (st p), .string (st c), .int .i64 m, .int .i64 d] 30)).drew w.heap.size 30 (cLt x).toArray := by rw [HC.out]; exact Blk.new w _ _
  have hi2 : (Try.prog.info? 30).map (·.size) = some (cLt x).length := (info_zero infoLot).2.1
  have hone : ∀ u ∈ (cLt x).toArray.toList, u.oneCell' = true := by
    intro u hu
    rw [List.toList_toArray] at hu
    simp only [cLt, List.mem_cons, List.not_mem_nil, or_false] at hu
    rcases hu with rfl | rfl | rfl | rfl <;> rfl
  have HI2 := Lib.hid hi2
  have HONE := Lib.hid hone
  have HX := Lib.hid h
  have HL := Lib.hid hl
  have HBEL := Lib.hid hbel
  have HBL := Lib.hid hbl
  rw [← hx]
  clear hbad hb hi2 hone h hl hbel hbl hx
  go_enter Try.func11, Try.ntmps11
  go_wp2_with fail
  refine wp_region_E (fun w' => w'.cell? ⟨b, 0, none⟩ = some v ∧ w'.rangeAt w.heap.size 0 (cLt x)) [10] (by kernel_rfl) ?_
  generalize (w.alloc (.cells #[.string (st p), .string (st c), .int .i64 m, .int .i64 d] 30)).drew = W at HBEL HBL ⊢
  have HSZ : Hid (w.heap.size < W.heap.size) := HBL.out.lt
  have HXW := Lib.hid (HX.out.box.since HBEL.out)
  have HS0 : Hid (W.cell? ⟨b, 0, none⟩ = some v ∧ W.rangeAt w.heap.size 0 (cLt x)) := ⟨HXW.out.cell 0, range_lot HBL.out⟩
  refine wpAnyE_take 0 (some 30) (.pointer (some ⟨b, 0, none⟩)) rfl rfl (by kernel_rfl) (by kernel_rfl) (by kernel_rfl) (by kernel_rfl) (fun _ _ _ h => h) (yields_move rfl _ rfl _ rfl) HS0.out ?_
  simp only [Act.put, List.setIfInBounds_toArray, List.set_cons_zero, List.set_cons_succ]
  refine wpAnyE_take 1 (some 31) (.pointer (some ⟨b, 0, none⟩)) rfl rfl (by kernel_rfl) (by kernel_rfl) (by kernel_rfl) (by kernel_rfl) (fun _ _ _ h => h) (yields_move rfl _ rfl _ rfl) HS0.out ?_
  simp only [Act.put, List.setIfInBounds_toArray, List.set_cons_zero, List.set_cons_succ]
  refine wpAnyE_take 2 (some 32) (.pointer (some ⟨b, 0, none⟩)) rfl rfl (by kernel_rfl) (by kernel_rfl) (by kernel_rfl) (by kernel_rfl) (fun _ _ _ h => h) (yields_nilCheck rfl _ rfl _ rfl) HS0.out ?_
  simp only [Act.put, List.setIfInBounds_toArray, List.set_cons_zero, List.set_cons_succ]
  refine wpAnyE_take 3 (some 33) (.pointer (some ⟨b, 0, none⟩)) rfl rfl (by kernel_rfl) (by kernel_rfl) (by kernel_rfl) (by kernel_rfl) (fun _ _ _ h => h) (Or.inl ⟨by rfl, fun w _ => by go_simp⟩) HS0.out ?_
  simp only [Act.put, List.setIfInBounds_toArray, List.set_cons_zero, List.set_cons_succ]
  refine wpAnyE_take 4 (some 34) (v) rfl rfl (by kernel_rfl) (by kernel_rfl) (by kernel_rfl) (by kernel_rfl) (fun _ _ _ h => h) (yields_load rfl 25 _ rfl Try.underlying25 rfl _ rfl _ (fun w h => h.1)) HS0.out ?_
  simp only [Act.put, List.setIfInBounds_toArray, List.set_cons_zero, List.set_cons_succ]
  refine wpAnyE_take 5 (some 35) (.agg (cLt x).toArray) rfl rfl (by kernel_rfl) (by kernel_rfl) (by kernel_rfl) (by kernel_rfl) (fun _ _ _ h => h) (yieldsIf_load_mid rfl 30 _ rfl w.heap.size 0 rfl _ _ (fun w h => h.2) Try.underlying30 rfl HI2.out) HS0.out ?_
  simp only [Act.put, List.setIfInBounds_toArray, List.set_cons_zero, List.set_cons_succ]
  refine wpAnyE_one (i := 6) (by kernel_rfl) rfl rfl ?_
  refine wp_buildSlice_one (some 36) rfl 25 30 _ rfl _ 4 48 Try.underlying25 infoLot (by omega) (by omega) (cLt x).toArray rfl rfl ?_
  simp only [Act.put, List.setIfInBounds_toArray, List.set_cons_zero, List.set_cons_succ]
  have HB2 : Hid (Below w.heap.size w (W.alloc (.cells (cLt x).toArray 30))) := HBEL.out.alloc HBEL.out.size _
  have HBL2 : Hid (Blk (W.alloc (.cells (cLt x).toArray 30)) w.heap.size 30 (cLt x).toArray) := HBL.out.alloc _
  have HBN2 : Hid (Blk (W.alloc (.cells (cLt x).toArray 30)) W.heap.size 30 (cLt x).toArray) := Blk.new W _ _
  generalize W.alloc (.cells (cLt x).toArray 30) = W2 at HB2 HBL2 HBN2 ⊢
  have HX2 := Lib.hid (HX.out.keep HB2.out)
  refine ⟨⟨HX2.out.cell, range_lot HBL2.out⟩, ?_⟩
  refine wpAnyE_one (i := 7) (by kernel_rfl) rfl rfl ?_
  refine wp_append_wide (some 37) rfl (.tmp 34) (.tmp 36) 25 30 rfl B _ 4 48 Try.underlying25 infoLot rfl (by omega) v l.length _ rfl W.heap.size 1 rfl HX2.out.own _ HBN2.out rfl HONE.out (by have := HL.out; unfold maxLen; omega) (by have := HL.out; omega) (Nat.le_trans HX2.out.hb (Nat.le_of_lt HX2.out.box.lt)) ?_
  intro v' W3 hown3 hgr3 hat3
  simp only [Act.put, List.setIfInBounds_toArray, List.set_cons_zero, List.set_cons_succ]
  have HNE := Lib.hid HX.out.ne
  have HX3 := Lib.hid (HX2.out.box.kept hgr3 (fun e => (HNE.out b e.symm).1 rfl))
  have HBL3 := Lib.hid (HBL2.out.kept hgr3 (fun e => by have := (HNE.out _ e.symm).2.2; omega))
  have HST3 : Hid (Stp (fpL b v) w W3) := (Stp.of_below (fp := fpL b v) HB2.out).trans (fp' := fpL b v) (Stp.of_grown_row hgr3 (fun k hk => mem_fpL.2 (.inr hk))) (fun k hk => .inl hk)
  have HAT3 : Hid (∀ k, v'.ownBlock = some k → v.ownBlock = some k ∨ w.heap.size ≤ k) := fun k hk => by
    rcases hat3 with e | e
    · exact .inl (by rw [← e]; exact hk)
    · rw [e] at hk
      injection hk with hk
      have := HB2.out.size
      exact .inr (by omega)
  have HO3 := Lib.hid hown3
  clear hgr3 hown3 hat3
  have HS3 : Hid (W3.cell? ⟨b, 0, none⟩ = some v ∧ W3.rangeAt w.heap.size 0 (cLt x)) := ⟨HX3.out.cell 0, range_lot HBL3.out⟩
  refine ⟨HS3.out, ?_⟩
  refine wpAnyE_step 8 (some 38) (.pointer (some ⟨b, 0, none⟩)) (by kernel_rfl) rfl rfl (yields_nilCheck rfl _ rfl _ rfl) HS3.out ?_
  simp only [Act.put, List.setIfInBounds_toArray, List.set_cons_zero, List.set_cons_succ]
  refine wpAnyE_step 9 (some 39) (.pointer (some ⟨b, 0, none⟩)) (by kernel_rfl) rfl rfl (Or.inl ⟨by rfl, fun w _ => by go_simp⟩) HS3.out ?_
  simp only [Act.put, List.setIfInBounds_toArray, List.set_cons_zero, List.set_cons_succ]
  obtain ⟨va, vc, hvv⟩ := own_sliceG HO3.out
  refine wpAnyE_end (i := 10) (by kernel_rfl) rfl rfl rfl ?_
  refine wp_store_one none rfl 25 _ _ rfl (by kernel_rfl) ⟨b, 0, none⟩ rfl v' v rfl (by rw [hvv]; rfl) (HX3.out.cell 0) (HX3.out.frozen 0) ?_
  simp only [Act.put]
  refine wpAnyE_done (by kernel_rfl) ?_ _
  have HFIN : Hid (AddP B b l v x w (.returned (.int .i64 0)) (W3.setCell ⟨b, 0, none⟩ v')) := by
    refine ⟨rfl, v', ⟨HX.out.hb, HX3.out.set 0 _, ?_⟩, HST3.out.setCell (.inl (mem_fpL.2 (.inl rfl))) _, HAT3.out⟩
    have hne : ∀ k, v'.ownBlock = some k → k ∉ [b] := fun k hk hm => by
      obtain ⟨cur, hcur⟩ := own_blkG HO3.out hk
      rw [List.mem_singleton] at hm
      subst hm
      exact absurd rfl (HX3.out.ne hcur (by decide))
    have := own_stp HO3.out ((Stp.refl [b] W3).setCell (x := ⟨b, 0, none⟩) (.inl (by simp)) v') hne
    rw [List.length_append, List.flatMap_append]
    simpa using this
  generalize W3.setCell ⟨b, 0, none⟩ v' = W4 at HFIN ⊢
  clear HST3 HAT3 HO3 HS3 HX3 HBL3 HX2 HB2 HBL2 HBN2 hvv
  go_wp2
  go_ret
  exact HFIN.out
end Go.Proofs.Ytoiiaicjlefclaa
