/-
  Contract of disk.Disk.settle.
-/
import Derived.Test.YtbpklikmldpeiaaDskBMA
namespace Go.Proofs.Ytbpklikmldpeiaa
open Go.RowKit Go.Lib

/-- a write's first bytes stand; the block has no last write -/
def settleB (bs : List (List UInt8 × Nat)) (p : Nat × List UInt8) (k : Nat) : List (List UInt8 × Nat) := bs.set p.1 (p.2.take k ++ ((bs.getD p.1 ([], 0)).1).drop k, 0)

theorem row_copy {bs : List (List UInt8 × Nat)} (hl : ∀ x ∈ bs, x.1.length = 64) {i : Nat} {x : List UInt8 × Nat} (hx : bs[i]? = some x) (d : List UInt8) (k : Nat) (hd : d.length = 64) (hk : k ≤ 64) :
    splice (bs.flatMap cB) (i * 65) ((bv d).take k) = (bs.set i (d.take k ++ x.1.drop k, x.2)).flatMap cB := by
  have hlt := (List.getElem?_eq_some_iff.1 hx).1
  have h64 := hl x (List.mem_of_getElem? hx)
  have h1 := flatMap_set cB 65 bs (row_len hl) i (d.take k ++ x.1.drop k, x.2) hlt
  have h0 := flatMap_set cB 65 bs (row_len hl) i x hlt
  have hsame : bs.set i x = bs := by
    apply List.ext_getElem?
    intro j
    by_cases e : i = j
    · subst e; rw [List.getElem?_set_self hlt, hx]
    · rw [List.getElem?_set_ne e]
  rw [hsame] at h0
  have hA : ((bs.flatMap cB).take (i * 65)).length = i * 65 := by rw [List.length_take, flatMap_length cB 65 bs (row_len hl)]; have : i * 65 ≤ bs.length * 65 := Nat.mul_le_mul_right _ (Nat.le_of_lt hlt); omega
  have hc : ((bv d).take k).length = k := by rw [List.length_take, bv_length]; omega
  rw [h1]
  unfold splice
  rw [hc]
  have hdr : (bs.flatMap cB).drop (i * 65 + k) = bv (x.1.drop k) ++ [.int .i64 (x.2 : Nat)] ++ (bs.flatMap cB).drop (i * 65 + 65) := by
    conv => lhs; rw [h0]
    generalize (bs.flatMap cB).take (i * 65) = A at hA ⊢
    generalize (bs.flatMap cB).drop (i * 65 + 65) = D
    rw [List.append_assoc, List.drop_append, List.drop_of_length_le (by omega), List.nil_append, hA, Nat.add_sub_cancel_left, List.drop_append_of_le_length (by simp [cB, bv_length, h64]; omega), cB, List.drop_append_of_le_length (by rw [bv_length]; omega)]
    simp [bv, List.map_drop]
  rw [hdr]
  simp [cB, bv, List.map_take, List.map_drop, List.append_assoc]

set_option maxHeartbeats 1000000 in
set_option maxRecDepth 100000 in
theorem settle_any (b g n k : Nat) (cs : Array Value) (bs : List (List UInt8 × Nat)) (p : Nat × List UInt8) (w : World) (hb : Blk w b 64 cs) (hcs : cs[0]? = some (.slice (some ⟨g, 0, none⟩) n n)) (hn : n = bs.length) (hr : Blk w g 80 (bs.flatMap cB).toArray)
    (hl : ∀ x ∈ bs, x.1.length = 64) (hp1 : p.1 < n) (hp2 : p.2.length = 64) (hk : k ≤ 64) :
    Calls Try.prog 38 #[.pointer (some ⟨b, 0, none⟩), .agg (cW p).toArray, .int .i64 k] w fun e w' => e = .returned (.tuple #[]) ∧ Stp [g] w w' ∧ Blk w' g 80 ((settleB bs p k).flatMap cB).toArray := by
  obtain ⟨i, d⟩ := p
  simp only at hp1 hp2
  obtain ⟨x, hx⟩ : ∃ x, bs[i]? = some x := ⟨_, List.getElem?_eq_getElem (by omega)⟩
  have hne := hb.ne hr (by decide)
  have HRW := Lib.hid hr
  have hb1 := hb.alloc (.cells (cW (i, d)).toArray 84)
  have hr1 := hr.alloc (.cells (cW (i, d)).toArray 84)
  have hbl : Blk (w.alloc (.cells (cW (i, d)).toArray 84)) w.heap.size 84 (cW (i, d)).toArray := Blk.new w _ _
  have hst : Stp [g] w (w.alloc (.cells (cW (i, d)).toArray 84)) := (Stp.refl [g] w).alloc _
  have hrow := row_copy hl hx d k hp2 hk
  have HROW := Lib.hid hrow
  have HL := Lib.hid hl
  have HX := Lib.hid hx
  have hin : (i : Int) < (n : Int) := by omega
  have HN := Lib.hid hn
  have hH : w.heap.size ≠ g := fun e => by have := hr.lt; omega
  have c0 : (w.alloc (.cells (cW (i, d)).toArray 84)).cell? ⟨b, 0, none⟩ = some (.slice (some ⟨g, 0, none⟩) n n) := by rw [hb1.cell 0]; exact hcs
  have cH : (w.alloc (.cells (cW (i, d)).toArray 84)).cell? ⟨w.heap.size, 0, none⟩ = some (.int .i64 (i : Nat)) := by rw [hbl.cell 0]; simp [cW]
  have hks : ((bv d).take k).length = k := by rw [List.length_take, bv_length]; omega
  have hk2 : k ≤ ((bv d).take k).length := by omega
  have hone : ∀ u ∈ (bv d).take k, u.oneCell' = true := fun u hu => bv_one d u (List.mem_of_mem_take hu)
  have hfit : i * 65 + ((bv d).take k).length ≤ (bs.flatMap cB).length := by
    rw [hks, flatMap_length cB 65 bs (row_len hl)]
    have : (i + 1) * 65 ≤ bs.length * 65 := Nat.mul_le_mul_right _ (by omega)
    omega
  have hU1 : (Try.prog.info? 5).map (·.size) = some 1 := (info_zero infoU8d).2.1
  have HKS := Lib.hid hks
  have HONE := Lib.hid hone
  have HFIT := Lib.hid hfit
  have HU1 := Lib.hid hU1
  have HKL := Lib.hid hk
  have hk0 : (k : Int) ≤ 64 := by omega
  clear hrow hl hx hb hr hn hks hk2 hone hfit hU1
  go_enter Try.func38, Try.ntmps38
  go_wp2_with (refine wpList_box_agg rfl 84 _ rfl (cW (i, d)).toArray rfl ?_)
  obtain ⟨H0, hH0⟩ : ∃ H0, H0 = w.heap.size := ⟨_, rfl⟩
  rw [← hH0] at cH hbl hH ⊢
  clear hH0
  generalize w.alloc (.cells (cW (i, d)).toArray 84) = W at c0 cH hb1 hr1 hbl hst ⊢
  have HB1 := Lib.hid hb1
  have HR1 := Lib.hid hr1
  have HBL := Lib.hid hbl
  have HST := Lib.hid hst
  clear hb1 hr1 hbl hst
  go_quiet (fail)
  go_wp2
  refine wp_region_still_tail 7 (by kernel_rfl) (by kernel_rfl) ?_
  show wpStill _ _ (W.drewN nq).drew (fun a' => wpList _ _ _ _ a' (W.drewN nq).drew) _ _
  have HB2 : Hid (Blk (W.drewN nq).drew b 64 cs) := HB1.out
  have HR2 : Hid (Blk (W.drewN nq).drew g 80 (bs.flatMap cB).toArray) := HR1.out
  have HBL2 : Hid (Blk (W.drewN nq).drew H0 84 (cW (i, d)).toArray) := HBL.out
  have HST2 : Hid (Stp [g] w (W.drewN nq).drew) := HST.out.drewN nq |>.drew
  generalize (W.drewN nq).drew = W2 at HB2 HR2 HBL2 HST2 ⊢
  have HSRC : Hid (∀ j u, ((bv d).take k)[j]? = some u → W2.cell? ((⟨H0, 1, none⟩ : Addr).add j) = some u) := fun j u hu => by
    rw [Addr.add_mid, HBL2.out.cell]
    rw [List.getElem?_take] at hu
    split at hu
    · rw [List.getElem?_toArray, cW, Nat.add_comm, List.getElem?_cons_succ]; exact hu
    · cases hu
  simp only [List.take_succ_cons, List.take_zero, List.drop_succ_cons, List.drop_zero]
  still_step
  still_step
  still_step
  still_step
  still_step
  still_step
  still_step
  refine wpStill_nil ?_
  refine wpList_copy_cells rfl (.tmp 17) (.tmp 20) 50 50 5 rfl Try.underlying50 HU1.out g (i * 65) 64 64 rfl ⟨H0, 1, none⟩ k 64 rfl (bs.flatMap cB) 80 HR2.out ((bv d).take k) HKS.out.symm HKL.out HSRC.out HFIT.out HONE.out ?_
  have HR3 : Hid (Blk (W2.setRow g (splice (bs.flatMap cB) (i * 65) ((bv d).take k)).toArray) g 80 ((bs.set i (d.take k ++ x.1.drop k, x.2)).flatMap cB).toArray) := by
    rw [← HROW.out]
    exact setRow_heap W2 g _ _ _ _ HR2.out
  have HST3 : Hid (Stp [g] w (W2.setRow g (splice (bs.flatMap cB) (i * 65) ((bv d).take k)).toArray)) := HST2.out.setRow (.inl (by simp)) _
  generalize W2.setRow g (splice (bs.flatMap cB) (i * 65) ((bv d).take k)).toArray = W3 at HR3 HST3 ⊢
  have hlt := (List.getElem?_eq_some_iff.1 HX.out).1
  have hl3 : ∀ y ∈ bs.set i (d.take k ++ x.1.drop k, x.2), y.1.length = 64 := fun y hy => by
    rcases List.mem_or_eq_of_mem_set hy with hy | rfl
    · exact HL.out y hy
    · have := HL.out x (List.mem_of_getElem? HX.out)
      simp [hp2, this]; omega
  have hg3 : (bs.set i (d.take k ++ x.1.drop k, x.2))[i]? = some (d.take k ++ x.1.drop k, x.2) := List.getElem?_set_self hlt
  have cl : W3.cell? ⟨g, i * 65 + 64, none⟩ = some (.int .i64 (x.2 : Nat)) := by
    have hy := hl3 _ (List.mem_of_getElem? hg3)
    simp only at hy
    rw [HR3.out.cell, List.getElem?_toArray, flatMap_get cB 65 _ (row_len hl3) i 64 _ hg3 (by omega), cB, List.getElem?_append_right (by rw [bv_length, hy]; exact Nat.le_refl _), bv_length, hy]
    rfl
  have fl : W3.frozen? ⟨g, i * 65 + 64, none⟩ = false := HR3.out.frozen _
  have HR4 := Lib.hid (row_set HR3.out hl3 hg3 0)
  have HE : Hid ((bs.set i (d.take k ++ x.1.drop k, x.2)).set i (d.take k ++ x.1.drop k, 0) = settleB bs (i, d) k) := by
    show _ = _
    rw [List.set_set, settleB, List.getD_eq_getElem?_getD, HX.out]; rfl
  clear hl3 hg3 hlt
  go_wp2
  go_end0
  refine ⟨rfl, HST3.out.setCell (.inl (by simp)) _, ?_⟩
  rw [← HE.out]
  exact HR4.out
end Go.Proofs.Ytbpklikmldpeiaa
