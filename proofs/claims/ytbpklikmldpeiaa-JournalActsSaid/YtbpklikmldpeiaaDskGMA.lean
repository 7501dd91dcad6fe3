/-
  Contract of disk.Disk.All.
-/
import Derived.Test.YtbpklikmldpeiaaDskBMA
import Derived.Test.YtbpklikmldpeiaaMA02
namespace Go.Proofs.Ytbpklikmldpeiaa
open Go.RowKit Go.Lib

/-- the row of texts, the first k of which are laid -/
def laidS (bl : List (List UInt8)) (k : Nat) : List Value := sv (bl.take k) ++ List.replicate (bl.length - k) (.string ⟨#[]⟩)

theorem laidS_length (bl : List (List UInt8)) (k : Nat) (h : k ≤ bl.length) : (laidS bl k).length = bl.length := by
  unfold laidS; rw [List.length_append, sv_length, List.length_take, List.length_replicate]; omega

theorem laidS_step (bl : List (List UInt8)) (k : Nat) (x : List UInt8) (h : bl[k]? = some x) : (laidS bl k).set k (.string (st x)) = laidS bl (k + 1) := by
  obtain ⟨hlt, he⟩ := List.getElem?_eq_some_iff.1 h
  unfold laidS
  have hl : (sv (bl.take k)).length = k := by rw [sv_length, List.length_take]; omega
  rw [List.set_append_right _ _ (by omega), hl, Nat.sub_self, show bl.length - k = (bl.length - (k + 1)) + 1 by omega, List.replicate_succ, List.set_cons_zero, List.take_succ_eq_append_getElem hlt, he]
  simp [sv]

theorem laidS_all (bl : List (List UInt8)) : laidS bl bl.length = sv bl := by unfold laidS; simp

theorem all_nil (w : World) :
    Calls Try.prog 17 #[.pointer none] w fun e w' => e = .returned (.slice none 0 0) ∧ w = w' := by
  go_enter Try.func17, Try.ntmps17
  go_wp2
  go_ret
  exact ⟨rfl, rfl⟩

set_option maxHeartbeats 2000000 in
set_option maxRecDepth 100000 in
theorem all_any (B b : Nat) (s : DS) (fp : List Nat) (w : World) (h : PD w B b s fp) :
    Calls Try.prog 17 #[.pointer (some ⟨b, 0, none⟩)] w fun e w' => ∃ g n, n = s.bl.length ∧ e = .returned (.slice (some ⟨g, 0, none⟩) n n) ∧ w'.ownsRow w.heap.size 9 1 (.slice (some ⟨g, 0, none⟩) n n) n (sv s.bl) ∧ Below w.heap.size w w' := by
  obtain ⟨g, n, v, fz, bs, h, rfl⟩ := h
  have c0 : w.cell? ⟨b, 0, none⟩ = some (.slice (some ⟨g, 0, none⟩) n n) := h.box.cell 0
  have hn := h.ok.len
  rw [← h.num] at hn
  obtain ⟨i0, hi, hz0, hz1, hz2⟩ := info_parts infoStr
  obtain ⟨w1, hmk, hown, hgr⟩ := run_make_full (P := Try.prog) w w.heap.size 22 9 i0 (.string ⟨#[]⟩) 1 Try.underlying22 hi hz0 hz1 .i64 .i64 n (by rw [hz2]; omega) (by unfold maxLen; omega) (Nat.le_refl _)
  have e0 : (madeCells (Value.string ⟨#[]⟩).cells (n * 1)).toList = laidS s.bl 0 := by
    rw [Nat.mul_one]
    exact (toList_madeCells_one (.string ⟨#[]⟩) n).trans (by simp [laidS, sv, h.num])
  rw [e0] at hown
  have HB1 := Lib.hid (show Below w.heap.size w w1 from (Below.refl _ w).grown hgr (Nat.le_refl _) (fun k hk => by cases hk))
  have d0 : w1.cell? ⟨b, 0, none⟩ = some (.slice (some ⟨g, 0, none⟩) n n) := (h.box.since HB1.out).cell 0
  obtain ⟨G, hG⟩ : ∃ G, G = w.heap.size := ⟨_, rfl⟩
  rw [← hG] at hmk hown HB1 ⊢
  have HG := Lib.hid hG
  have HO := Lib.hid hown
  have H1 := Lib.hid h
  clear h hown hgr hi hz0 hz1 hz2 e0 hG
  go_enter Try.func17, Try.ntmps17
  go_wp2
  clear hmk
  go_loopg [19] n (fun gk i wr => ∃ j : Nat, j ≤ n ∧ i = .int .i64 j ∧ n - j ≤ gk ∧ Hid (wr.ownsRow G 9 1 (.slice (some ⟨G, 0, none⟩) n n) n (laidS s.bl j)) ∧ Hid (Below G w wr))
  case atStart => exact ⟨0, Nat.zero_le _, rfl, by omega, HO.out, HB1.out⟩
  case round =>
    obtain ⟨j, hj, rfl, hgk, HR, HB⟩ := hrel
    by_cases hlt : j < n
    · obtain ⟨x, hx⟩ : ∃ x, bs[j]? = some x := ⟨_, List.getElem?_eq_getElem (by rw [H1.out.blen]; exact hlt)⟩
      obtain ⟨hs1, h64, _, _⟩ := H1.out.stands hx
      have hrw := H1.out.row.below HB.out (by rw [HG.out]; exact H1.out.row.lt)
      have hall := row_len H1.out.lens
      have hcl : (cB x).length = 65 := cB_length h64
      have hrg : wr.rangeAt g (j * 65) (cB x) := fun i u hu => by
        have hi := (List.getElem?_eq_some_iff.1 hu).1
        rw [hrw.cell, List.getElem?_toArray, flatMap_get cB 65 bs hall j i x hx (by omega)]
        exact hu
      have hi2 : (Try.prog.info? 80).map (·.size) = some (cB x).length := by rw [hcl]; exact (info_zero infoDkBlock).2.1
      have hi3 : (Try.prog.info? 80).map (·.size) = some (cB x).toArray.size := by rw [List.size_toArray]; exact hi2
      have hz3 : zB.size = (cB x).toArray.size := by
        have e1 : (cB x).toArray.size = 65 := by rw [List.size_toArray, hcl]
        rw [e1]; rfl
      have ho3 : ∀ u ∈ (cB x).toArray.toList, u.oneCell' = true := fun u hu => by
        rw [List.toList_toArray, cB] at hu
        rcases List.mem_append.1 hu with hu | hu
        · exact bv_one _ u hu
        · rw [List.mem_singleton] at hu; rw [hu]; rfl
      have hbl : Blk (wr.alloc (.cells (cB x).toArray 80)) wr.heap.size 80 ([] ++ bv x.1 ++ [Value.int .i64 (x.2 : Nat)]).toArray := Blk.new wr _ _
      have hrg2 : (wr.alloc (.cells (cB x).toArray 80)).rangeAt wr.heap.size 0 (bv x.1) := range_of_blk hbl
      have hc := conv_range hrg2 (n := 64) h64.symm 64
      have hown2 := HR.out.alloc (.cells (cB x).toArray 80)
      have hcell : (wr.alloc (.cells (cB x).toArray 80)).cell? ⟨G, j, none⟩ = some ((laidS s.bl j)[j]'(by rw [laidS_length _ _ (by rw [← H1.out.num]; omega), ← H1.out.num]; exact hlt)) := by
        have := hown2.cells (g := G) rfl j _ (List.getElem?_eq_getElem (by rw [laidS_length _ _ (by rw [← H1.out.num]; omega), ← H1.out.num]; exact hlt))
        rwa [Addr.add_mid, Nat.zero_add] at this
      have hfz := hown2.frozenAt j
      have hst := hown2.stored j (.string (st x.1))
      rw [laidS_step s.bl j x.1 hs1] at hst
      have HS1 := Lib.hid hst.1
      have HS2 := Lib.hid ((HB.out.alloc (Nat.le_trans (Nat.le_of_eq HG.out) HB.out.size) (.cells (cB x).toArray 80)).grown hst.2 (by have := HB.out.size; have := HG.out; simp; omega) (fun k hk => by injection hk with hk; omega))
      have HRG := Lib.hid hrg
      have HI2 := Lib.hid hi2
      have HI3 := Lib.hid hi3
      have HZ3 := Lib.hid hz3
      have HO3 := Lib.hid ho3
      have hjz : (0 : Int) ≤ (j : Int) := by omega
      have hjn : (j : Int) < (n : Int) := by omega
      obtain ⟨u0, hu0⟩ : ∃ u0, (wr.alloc (.cells (cB x).toArray 80)).cell? ⟨G, j, none⟩ = some u0 := ⟨_, hcell⟩
      clear hrw hall hcl hrg hi2 hi3 hz3 ho3 hbl hrg2 hown2 hcell hst hs1 h64 hx
      go_wp2_with (first | (refine wpList_load_mid rfl 80 _ rfl g (j * 65) rfl _ _ HRG.out Try.underlying80 rfl HI2.out ?_) | (refine wpList_alloc_z rfl 80 rfl zB 65 72 infoDkBlock ?_) | (refine wpList_store_new rfl 80 _ _ rfl rfl _ rfl _ _ HI3.out HZ3.out HO3.out ?_))
      go_roundg (n - (j + 1))
      case measure => omega
      case rel => exact ⟨j + 1, by omega, by go_num, by omega, HS1.out, HS2.out⟩
    · have e : j = n := by omega
      subst e
      have hown := HR.out
      rw [H1.out.num, laidS_all, ← H1.out.num] at hown
      have HR2 := Lib.hid hown
      clear hgk hown
      go_wp2
      go_ret
      exact ⟨G, j, H1.out.num, rfl, HR2.out, HB.out⟩
end Go.Proofs.Ytbpklikmldpeiaa
