/-
  Contract of Book.keep.
-/
import Derived.Test.YteclhcjfnmkkjaaBkH
import Derived.Shelf.SlMaps.Clone
namespace Go.Proofs.Yteclhcjfnmkkjaa
open Go.RowKit Go.Lib

def nzO : Option Int → Option Int
  | none => none
  | some n => if n = 0 then none else some n
/-- what is kept, those that have come -/
def KeepAt (g f : Ac → Option Int) (left : Ac → Bool) (f' : Ac → Option Int) : Prop := ∀ a, f' a = if (g a).isSome = true ∧ left a = false then nzO (g a) else f a
/-- all of them -/
def KeepAll (g f f' : Ac → Option Int) : Prop := ∀ a, f' a = match g a with | none => f a | some n => if n = 0 then none else some n

theorem KeepAt.start (g f : Ac → Option Int) : KeepAt g f (fun a => (g a).isSome) f := fun a => by
  have h : ¬ ((g a).isSome = true ∧ (g a).isSome = false) := fun h => by rw [h.1] at h; cases h.2
  show f a = if (g a).isSome = true ∧ (g a).isSome = false then nzO (g a) else f a
  rw [if_neg h]
theorem KeepAt.step {g f : Ac → Option Int} {left : Ac → Bool} {f' : Ac → Option Int} (h : KeepAt g f left f') {x : Ac} {v : Int} (hg : g x = some v) (u : Option Int) (hu : u = if v = 0 then none else some v) : KeepAt g f (fun d => left d && !decide (d = x)) (upd f' x u) := fun a => by
  by_cases e : a = x
  · rw [e, upd_same, hg, hu]; simp [nzO]
  · rw [upd_other _ _ e, h a]; simp [e]
theorem KeepAt.all {g f : Ac → Option Int} {left : Ac → Bool} {f' : Ac → Option Int} (h : KeepAt g f left f') (hl : NoLeft left) : KeepAll g f f' := fun a => by
  rw [h a, hl a]
  cases g a with
  | none => simp
  | some n => simp [nzO]

/-- a boxed account, and the book's field -/
structure BoxK (p : Nat) (x : Ac) (bb bm : Nat) (w : World) : Prop where
  k : w.cell? ⟨p, 0, none⟩ = some (.string (st x.1))
  q : w.cell? ⟨p, 1, none⟩ = some (.string (st x.2.1))
  c : w.cell? ⟨p, 2, none⟩ = some (.string (st x.2.2))
  m : w.cell? ⟨bb, 0, none⟩ = some (.map (some bm))
theorem BoxK.of {p : Nat} {x : Ac} {bb bm : Nat} {w : World} (h1 : Blk w p 40 #[.string (st x.1), .string (st x.2.1), .string (st x.2.2)]) (h2 : Blk w bb 51 #[.map (some bm)]) : BoxK p x bb bm w := ⟨h1.cell 0, h1.cell 1, h1.cell 2, h2.cell 0⟩

/-- what is kept: the map, and what it holds -/
def KeptTo (bb : Nat) (mb : Option Nat) (nb n : Nat) (g f : Ac → Option Int) (w w' : World) : Prop :=
  ∃ (bm n' : Nat) (f' : Ac → Option Int), Blk w' bb 51 #[.map (some bm)] ∧ MA w' bm n' f' ∧ n' ≤ nb + n ∧ KeepAll g f f' ∧ (mb = some bm ∨ (mb = none ∧ w.heap.size ≤ bm)) ∧ Stp (bb :: mb.toList) w w'

set_option maxHeartbeats 8000000 in
set_option maxRecDepth 100000 in
theorem keep_any (bb : Nat) (mb : Option Nat) (nb : Nat) (f : Ac → Option Int) (bc n : Nat) (g : Ac → Option Int) (w : World) (hb : Blk w bb 51 #[.map mb]) (hm : PMap w mb nb f) (hg : MA w bc n g) (hne : mb ≠ some bc) (hn : nb + n ≤ 4194304) :
    Calls Try.prog 24 #[.pointer (some ⟨bb, 0, none⟩), .map (some bc)] w fun e w' => e = .returned (.tuple #[]) ∧ KeptTo bb mb nb n g f w w' := by
  have hq := fun w => run_eql_map_nil_sl (P := Try.prog) w 49 _ _ mb Try.underlying49
  have HNE := Lib.hid hne
  have HBB : Hid (bb ≠ bc) := by
    show bb ≠ bc
    rintro rfl
    obtain ⟨D, ⟨es, clock, h1, _⟩, _⟩ := hg
    have := (show w.heap[bb]? = _ from hb).symm.trans h1
    simp at this
  cases mb with
  | none =>
    have hf : ∀ a, f a = none := by
      rcases hm with ⟨_, h⟩ | ⟨_, e, _⟩
      · exact h
      · cases e
    have e0 : f = fun _ => none := funext hf
    obtain ⟨bm, hbm⟩ : ∃ bm, bm = w.heap.size := ⟨_, rfl⟩
    have HW0 : Hid (w.heap.size ≤ bm) := by rw [hbm]; exact Nat.le_refl _
    obtain ⟨W0, hW0⟩ : ∃ W0, W0 = (w.alloc (.map #[] 0)).setCell ⟨bb, 0, none⟩ (.map (some w.heap.size)) := ⟨_, rfl⟩
    have hlt := hb.lt
    have HNM : Hid (bb ≠ bm) := by show bb ≠ bm; omega
    have HNC : Hid (bc ≠ bm) := by have := hg.lt; show bc ≠ bm; omega
    have HM0 : Hid (MA W0 bm nb f) := by
      rw [hW0, hbm, e0]
      exact ((MapF.made w).mono (Nat.zero_le nb)).heap (Below.heap_setCell _ ⟨bb, 0, none⟩ _ _ (by rw [← hbm]; exact fun e => HNM.out e.symm))
    have HBK0 : Hid (Blk W0 bb 51 #[.map (some bm)]) := by
      rw [hW0, hbm]
      exact (hb.alloc _).set 0 _
    have HG0 : Hid (MA W0 bc n g) := by
      rw [hW0]
      exact (hg.alloc _).heap (Below.heap_setCell _ ⟨bb, 0, none⟩ _ _ (fun e => HBB.out e.symm))
    have HST0 : Hid (Stp [bb] w W0) := by
      rw [hW0]
      exact ((Stp.refl [bb] w).alloc _).setCell (x := ⟨bb, 0, none⟩) (.inl (by simp)) _
    have hcell := hb.cell 0
    have hfz := hb.frozen 0
    have hmm := @run_makeMap Try.prog
    have hcellN : ∀ ob : Obj, (w.alloc ob).cell? ⟨bb, 0, none⟩ = some (.map none) := fun ob => (hb.alloc ob).cell 0
    have hfzN : ∀ ob : Obj, (w.alloc ob).frozen? ⟨bb, 0, none⟩ = false := fun ob => (hb.alloc ob).frozen 0
    have HWX := Lib.hid hW0
    have HBM := Lib.hid hbm
    clear hb hm hg hf e0 hlt hW0 hne hbm
    go_enter Try.func24, Try.ntmps24
    have HG1 : Hid (MA ((w.alloc (.map #[] 0)).setCell ⟨bb, 0, none⟩ (.map (some w.heap.size))) bc n g) := by rw [← HWX.out]; exact HG0.out
    go_wp2_with (first | (at_range; refine wpList_rangeF _ KA rfl (.tmp 15) rfl bc n g rfl HG1.out ?_; intro w1 cnt hrg hcn hb1; rw [← HWX.out] at hrg hb1 ⊢; have HRG := Lib.hid hrg; have HB1 := Lib.hid hb1; clear hrg hb1; go_frame) | fail)
    have HM1 : Hid (MA w1 bm nb f) := HM0.out.since HB1.out
    have HBK1 : Hid (Blk w1 bb 51 #[.map (some bm)]) := HBK0.out.since HB1.out
    have HST1 : Hid (Stp [bb] w w1) := HST0.out.trans (fp' := []) (Stp.of_below HB1.out) (fun _ h => by cases h)
    have HSZ : Hid (w.heap.size ≤ W0.heap.size) := HST0.out.size
    obtain ⟨r0, hr0⟩ : ∃ r0, r0 = W0.heap.size := ⟨_, rfl⟩
    have HR0 : Hid (bm ≠ r0 ∧ bb ≠ r0 ∧ w.heap.size ≤ r0) := ⟨by have := HM0.out.lt; omega, by have := HBK0.out.lt; omega, by rw [hr0]; exact HSZ.out⟩
    rw [← hr0] at HRG ⊢
    clear HG1 hcell hfz hcellN hfzN hmm HWX HBM hr0 HM0 HBK0 HST0 HG0 HB1 HSZ
    go_loopg [4, 5] cnt (fun gk _ _ w2 => ∃ (left : Ac → Bool) (cn q : Nat), cn ≤ gk ∧ q + cn ≤ cnt ∧ Hid (RA w2 bc r0 n g left cn) ∧ Hid (∃ f', MA w2 bm (nb + q) f' ∧ KeepAt g f left f') ∧ Hid (Blk w2 bb 51 #[.map (some bm)]) ∧ Hid (Stp [bb] w w2))
    case atStart => exact ⟨_, cnt, 0, Nat.le_refl _, by omega, HRG.out, ⟨f, HM1.out, KeepAt.start g f⟩, HBK1.out, HST1.out⟩
    case round =>
      clear HRG HM1 HBK1 HST1
      obtain ⟨left, cn, q, hcg, hqc, HRG2, HMF, HBK2, HST2⟩ := hrel
      go_wp2_with (first | (at_next; refine wpList_nextB _ KA rfl (.tmp 16) rfl bc r0 n g left cn rfl HRG2.out ?_ ?_) | fail)
      · intro hl0
        obtain ⟨f', hm', hk'⟩ := HMF.out
        have HX : Hid (KeptTo bb none nb n g f w wr) := ⟨bm, nb + q, f', HBK2.out, hm', by omega, hk'.all hl0.out, .inr ⟨rfl, HW0.out⟩, HST2.out⟩
        clear hl0 hm' hk'
        go_wp2
        go_end0
        exact ⟨rfl, HX.out⟩
      · intro xb v w3 cn2 came hlt3 hen
        obtain ⟨x⟩ := xb
        have HG := Lib.hid came.val
        have HC : Hid (OkA x) := came.oks
        have HV : Hid (Amt v) := came.amt
        have HRG3 : Hid (RA w3 bc r0 n g (fun d => left d && !decide (d = x)) cn2) := came.rng
        obtain ⟨f', hm', hk'⟩ := HMF.out
        have HK := Lib.hid hk'
        have HM3 : Hid (MA w3 bm (nb + q) f') := hm'.stp came.stp (by simpa using HR0.out.1)
        have HBK3 : Hid (Blk w3 bb 51 #[.map (some bm)]) := HBK2.out.stp came.stp (by simpa using HR0.out.2.1)
        have HST3 : Hid (Stp [bb] w w3) := HST2.out.trans came.stp (fun z hz => by rw [List.mem_singleton] at hz; rw [hz]; exact .inr HR0.out.2.2)
        have HBX : Hid (Blk (w3.alloc (.cells #[.string (st x.1), .string (st x.2.1), .string (st x.2.2)] 40)).drew w3.heap.size 40 #[.string (st x.1), .string (st x.2.1), .string (st x.2.2)]) := Blk.new w3 _ _
        have HMd : Hid (MA (w3.alloc (.cells #[.string (st x.1), .string (st x.2.1), .string (st x.2.2)] 40)).drew bm (nb + q) f') := (HM3.out.alloc _).heap rfl
        have HBd : Hid (Blk (w3.alloc (.cells #[.string (st x.1), .string (st x.2.1), .string (st x.2.2)] 40)).drew bb 51 #[.map (some bm)]) := HBK3.out.alloc _
        have HRd : Hid (RA (w3.alloc (.cells #[.string (st x.1), .string (st x.2.1), .string (st x.2.2)] 40)).drew bc r0 n g (fun d => left d && !decide (d = x)) cn2) := (HRG3.out.alloc _).since ((Below.refl _ _).drew)
        have HSd : Hid (Stp [bb] w (w3.alloc (.cells #[.string (st x.1), .string (st x.2.1), .string (st x.2.2)] 40)).drew) := (HST3.out.alloc _).drew
        have HNB : Hid (bm ≠ w3.heap.size) := by have := HM3.out.lt; show bm ≠ _; omega
        clear hm' hk' came HRG2 HMF HBK2 HST2 HRG3 HM3 HBK3 HST3
        unfold kv at hen
        by_cases hv : v = 0
        · subst hv
          go_wp2_with fail
          refine wp_region_E (BoxK w3.heap.size x bb bm) [] (by kernel_rfl) ?_
          have HSB : Hid (BoxK w3.heap.size x bb bm (w3.alloc (.cells #[.string (st x.1), .string (st x.2.1), .string (st x.2.2)] 40)).drew) := BoxK.of HBX.out HBd.out
          generalize (w3.alloc (.cells #[.string (st x.1), .string (st x.2.1), .string (st x.2.2)] 40)).drew = wd at HSB HBX HMd HBd HRd HSd ⊢
          refine wpAnyE_take 0 (some 24) ?_ rfl rfl (by kernel_rfl) (by kernel_rfl) (by kernel_rfl) (by kernel_rfl) (fun _ _ _ h => h) (Or.inl ⟨by rfl, ?_⟩) HSB.out ?_
          rotate_left
          focus (intro wS hSw; have hS0 := hSw.k; have hS1 := hSw.q; have hS2 := hSw.c; have hS3 := hSw.m; clear hSw; go_simp; try (with_reducible rfl))
          simp only [Act.put, List.setIfInBounds_toArray, List.set_cons_zero, List.set_cons_succ]
          refine wpAnyE_take 1 (some 25) ?_ rfl rfl (by kernel_rfl) (by kernel_rfl) (by kernel_rfl) (by kernel_rfl) (fun _ _ _ h => h) (Or.inl ⟨by rfl, ?_⟩) HSB.out ?_
          rotate_left
          focus (intro wS hSw; have hS0 := hSw.k; have hS1 := hSw.q; have hS2 := hSw.c; have hS3 := hSw.m; clear hSw; go_simp; try (with_reducible rfl))
          simp only [Act.put, List.setIfInBounds_toArray, List.set_cons_zero, List.set_cons_succ]
          refine wpAnyE_take 2 (some 26) ?_ rfl rfl (by kernel_rfl) (by kernel_rfl) (by kernel_rfl) (by kernel_rfl) (fun _ _ _ h => h) (Or.inl ⟨by rfl, ?_⟩) HSB.out ?_
          rotate_left
          focus (intro wS hSw; have hS0 := hSw.k; have hS1 := hSw.q; have hS2 := hSw.c; have hS3 := hSw.m; clear hSw; go_simp; try (with_reducible rfl))
          simp only [Act.put, List.setIfInBounds_toArray, List.set_cons_zero, List.set_cons_succ]
          refine wpAnyE_take 3 (some 27) ?_ rfl rfl (by kernel_rfl) (by kernel_rfl) (by kernel_rfl) (by kernel_rfl) (fun _ _ _ h => h) (Or.inl ⟨by rfl, ?_⟩) HSB.out ?_
          rotate_left
          focus (intro wS hSw; have hS0 := hSw.k; have hS1 := hSw.q; have hS2 := hSw.c; have hS3 := hSw.m; clear hSw; go_simp; try (with_reducible rfl))
          simp only [Act.put, List.setIfInBounds_toArray, List.set_cons_zero, List.set_cons_succ]
          refine wpAnyE_take 4 (some 28) ?_ rfl rfl (by kernel_rfl) (by kernel_rfl) (by kernel_rfl) (by kernel_rfl) (fun _ _ _ h => h) (Or.inl ⟨by rfl, ?_⟩) HSB.out ?_
          rotate_left
          focus (intro wS hSw; have hS0 := hSw.k; have hS1 := hSw.q; have hS2 := hSw.c; have hS3 := hSw.m; clear hSw; go_simp; try (with_reducible rfl))
          simp only [Act.put, List.setIfInBounds_toArray, List.set_cons_zero, List.set_cons_succ]
          obtain ⟨w5, hrun, hm5, ht5⟩ := HMd.out.drop KA HC.out 0
          have hs5 := turned_stp ht5
          have HM5 := Lib.hid hm5
          have HBX5 : Hid (Blk w5 w3.heap.size 40 #[.string (st x.1), .string (st x.2.1), .string (st x.2.2)]) := HBX.out.stp hs5 (by simpa using fun e => HNB.out e.symm)
          have HBd5 : Hid (Blk w5 bb 51 #[.map (some bm)]) := HBd.out.stp hs5 (by simpa using HNM.out)
          have HSB5 : Hid (BoxK w3.heap.size x bb bm w5) := BoxK.of HBX5.out HBd5.out
          have HRd5 : Hid (RA w5 bc r0 n g (fun d => left d && !decide (d = x)) cn2) := HRd.out.stp hs5 (by simpa using HNC.out) (by simpa using fun e => HR0.out.1 e.symm)
          have HSd5 : Hid (Stp [bb] w w5) := HSd.out.trans hs5 (fun z hz => by rw [List.mem_singleton] at hz; rw [hz]; exact .inr HW0.out)
          clear hm5 ht5 hs5 HMd HBd HRd HSd HBX
          unfold kv at hrun
          refine wpAnyE_oneG 5 (by kernel_rfl) rfl (by rfl) (fun K hK => ?_)
          go_simp
          try simp only [hrun]
          refine hK.out _ _ HSB5.out ?_
          clear hK K hrun HSB HSB5
          try simp only [Act.put, List.setIfInBounds_toArray, List.set_cons_zero, List.set_cons_succ]
          refine wpAnyE_done (by kernel_rfl) ?_ _
          go_wp2
          go_roundg cn2
          case measure => omega
          case rel => exact ⟨_, cn2, q + 0, Nat.le_refl _, by omega, HRd5.out, ⟨_, HM5.out, HK.out.step HG.out _ (by rw [if_pos rfl])⟩, HBd5.out, HSd5.out⟩
        · have hvb : (v == 0) = false := by simpa using hv
          have HVN := Lib.hid hv
          clear hv
          go_wp2_with fail
          refine wp_region_E (BoxK w3.heap.size x bb bm) [] (by kernel_rfl) ?_
          have HSB : Hid (BoxK w3.heap.size x bb bm (w3.alloc (.cells #[.string (st x.1), .string (st x.2.1), .string (st x.2.2)] 40)).drew) := BoxK.of HBX.out HBd.out
          generalize (w3.alloc (.cells #[.string (st x.1), .string (st x.2.1), .string (st x.2.2)] 40)).drew = wd at HSB HBX HMd HBd HRd HSd ⊢
          refine wpAnyE_take 0 (some 29) ?_ rfl rfl (by kernel_rfl) (by kernel_rfl) (by kernel_rfl) (by kernel_rfl) (fun _ _ _ h => h) (Or.inl ⟨by rfl, ?_⟩) HSB.out ?_
          rotate_left
          focus (intro wS hSw; have hS0 := hSw.k; have hS1 := hSw.q; have hS2 := hSw.c; have hS3 := hSw.m; clear hSw; go_simp; try (with_reducible rfl))
          simp only [Act.put, List.setIfInBounds_toArray, List.set_cons_zero, List.set_cons_succ]
          refine wpAnyE_take 1 (some 30) ?_ rfl rfl (by kernel_rfl) (by kernel_rfl) (by kernel_rfl) (by kernel_rfl) (fun _ _ _ h => h) (Or.inl ⟨by rfl, ?_⟩) HSB.out ?_
          rotate_left
          focus (intro wS hSw; have hS0 := hSw.k; have hS1 := hSw.q; have hS2 := hSw.c; have hS3 := hSw.m; clear hSw; go_simp; try (with_reducible rfl))
          simp only [Act.put, List.setIfInBounds_toArray, List.set_cons_zero, List.set_cons_succ]
          refine wpAnyE_take 2 (some 31) ?_ rfl rfl (by kernel_rfl) (by kernel_rfl) (by kernel_rfl) (by kernel_rfl) (fun _ _ _ h => h) (Or.inl ⟨by rfl, ?_⟩) HSB.out ?_
          rotate_left
          focus (intro wS hSw; have hS0 := hSw.k; have hS1 := hSw.q; have hS2 := hSw.c; have hS3 := hSw.m; clear hSw; go_simp; try (with_reducible rfl))
          simp only [Act.put, List.setIfInBounds_toArray, List.set_cons_zero, List.set_cons_succ]
          refine wpAnyE_take 3 (some 32) ?_ rfl rfl (by kernel_rfl) (by kernel_rfl) (by kernel_rfl) (by kernel_rfl) (fun _ _ _ h => h) (Or.inl ⟨by rfl, ?_⟩) HSB.out ?_
          rotate_left
          focus (intro wS hSw; have hS0 := hSw.k; have hS1 := hSw.q; have hS2 := hSw.c; have hS3 := hSw.m; clear hSw; go_simp; try (with_reducible rfl))
          simp only [Act.put, List.setIfInBounds_toArray, List.set_cons_zero, List.set_cons_succ]
          refine wpAnyE_take 4 (some 33) ?_ rfl rfl (by kernel_rfl) (by kernel_rfl) (by kernel_rfl) (by kernel_rfl) (fun _ _ _ h => h) (Or.inl ⟨by rfl, ?_⟩) HSB.out ?_
          rotate_left
          focus (intro wS hSw; have hS0 := hSw.k; have hS1 := hSw.q; have hS2 := hSw.c; have hS3 := hSw.m; clear hSw; go_simp; try (with_reducible rfl))
          simp only [Act.put, List.setIfInBounds_toArray, List.set_cons_zero, List.set_cons_succ]
          refine wpAnyE_take 5 (some 34) ?_ rfl rfl (by kernel_rfl) (by kernel_rfl) (by kernel_rfl) (by kernel_rfl) (fun _ _ _ h => h) (Or.inl ⟨by rfl, ?_⟩) HSB.out ?_
          rotate_left
          focus (intro wS hSw; have hS0 := hSw.k; have hS1 := hSw.q; have hS2 := hSw.c; have hS3 := hSw.m; clear hSw; go_simp; try (with_reducible rfl))
          simp only [Act.put, List.setIfInBounds_toArray, List.set_cons_zero, List.set_cons_succ]
          obtain ⟨w5, hrun, hm5, ht5⟩ := HMd.out.store KA (by unfold maxLen; omega) HC.out HV.out
          have hs5 := turned_stp ht5
          have HM5 := Lib.hid hm5
          have HBX5 : Hid (Blk w5 w3.heap.size 40 #[.string (st x.1), .string (st x.2.1), .string (st x.2.2)]) := HBX.out.stp hs5 (by simpa using fun e => HNB.out e.symm)
          have HBd5 : Hid (Blk w5 bb 51 #[.map (some bm)]) := HBd.out.stp hs5 (by simpa using HNM.out)
          have HSB5 : Hid (BoxK w3.heap.size x bb bm w5) := BoxK.of HBX5.out HBd5.out
          have HRd5 : Hid (RA w5 bc r0 n g (fun d => left d && !decide (d = x)) cn2) := HRd.out.stp hs5 (by simpa using HNC.out) (by simpa using fun e => HR0.out.1 e.symm)
          have HSd5 : Hid (Stp [bb] w w5) := HSd.out.trans hs5 (fun z hz => by rw [List.mem_singleton] at hz; rw [hz]; exact .inr HW0.out)
          clear hm5 ht5 hs5 HMd HBd HRd HSd HBX
          unfold kv at hrun
          refine wpAnyE_oneG 6 (by kernel_rfl) rfl (by rfl) (fun K hK => ?_)
          go_simp
          refine hK.out _ _ HSB5.out ?_
          clear hK K hrun HSB HSB5
          try simp only [Act.put, List.setIfInBounds_toArray, List.set_cons_zero, List.set_cons_succ]
          refine wpAnyE_done (by kernel_rfl) ?_ _
          go_wp2
          go_roundg cn2
          case measure => omega
          case rel => exact ⟨_, cn2, q + 1, Nat.le_refl _, by omega, HRd5.out, ⟨_, HM5.out, HK.out.step HG.out _ (by rw [if_neg HVN.out])⟩, HBd5.out, HSd5.out⟩
  | some bm =>
    have hmm : MA w bm nb f := by
      rcases hm with ⟨e, _⟩ | ⟨_, e, h⟩
      · cases e
      · injection e with e; rw [e]; exact h
    obtain ⟨W0, hW0⟩ : ∃ W0, W0 = w := ⟨_, rfl⟩
    have HNM : Hid (bb ≠ bm) := by
      show bb ≠ bm
      rintro rfl
      obtain ⟨D, ⟨es, clock, h1, _⟩, _⟩ := hmm
      have := (show w.heap[bb]? = _ from hb).symm.trans h1
      simp at this
    have HNC : Hid (bc ≠ bm) := fun e => HNE.out (by rw [e])
    have HM0 : Hid (MA W0 bm nb f) := by rw [hW0]; exact hmm
    have HBK0 : Hid (Blk W0 bb 51 #[.map (some bm)]) := by rw [hW0]; exact hb
    have HG0 : Hid (MA W0 bc n g) := by rw [hW0]; exact hg
    have HST0 : Hid (Stp [bb, bm] w W0) := by rw [hW0]; exact Stp.refl _ _
    have hcell := hb.cell 0
    clear hb hm hg hmm hne
    subst hW0
    go_enter Try.func24, Try.ntmps24
    go_wp2_with (first | (at_range; refine wpList_rangeF _ KA rfl (.tmp 15) rfl bc n g rfl HG0.out ?_; intro w1 cnt hrg hcn hb1; have HRG := Lib.hid hrg; have HB1 := Lib.hid hb1; clear hrg hb1; go_frame) | fail)
    have HM1 : Hid (MA w1 bm nb f) := HM0.out.since HB1.out
    have HBK1 : Hid (Blk w1 bb 51 #[.map (some bm)]) := HBK0.out.since HB1.out
    have HST1 : Hid (Stp [bb, bm] W0 w1) := HST0.out.trans (fp' := []) (Stp.of_below HB1.out) (fun _ h => by cases h)
    have HSZ : Hid (W0.heap.size ≤ W0.heap.size) := HST0.out.size
    obtain ⟨r0, hr0⟩ : ∃ r0, r0 = W0.heap.size := ⟨_, rfl⟩
    have HR0 : Hid (bm ≠ r0 ∧ bb ≠ r0 ∧ W0.heap.size ≤ r0) := ⟨by have := HM0.out.lt; omega, by have := HBK0.out.lt; omega, by rw [hr0]; exact HSZ.out⟩
    rw [← hr0] at HRG ⊢
    clear hr0 HM0 HBK0 HST0 HG0 HB1 HSZ
    go_loopg [4, 5] cnt (fun gk _ _ w2 => ∃ (left : Ac → Bool) (cn q : Nat), cn ≤ gk ∧ q + cn ≤ cnt ∧ Hid (RA w2 bc r0 n g left cn) ∧ Hid (∃ f', MA w2 bm (nb + q) f' ∧ KeepAt g f left f') ∧ Hid (Blk w2 bb 51 #[.map (some bm)]) ∧ Hid (Stp [bb, bm] W0 w2))
    case atStart => exact ⟨_, cnt, 0, Nat.le_refl _, by omega, HRG.out, ⟨f, HM1.out, KeepAt.start g f⟩, HBK1.out, HST1.out⟩
    case round =>
      clear HRG HM1 HBK1 HST1
      obtain ⟨left, cn, q, hcg, hqc, HRG2, HMF, HBK2, HST2⟩ := hrel
      go_wp2_with (first | (at_next; refine wpList_nextB _ KA rfl (.tmp 16) rfl bc r0 n g left cn rfl HRG2.out ?_ ?_) | fail)
      · intro hl0
        obtain ⟨f', hm', hk'⟩ := HMF.out
        have HX : Hid (KeptTo bb (some bm) nb n g f W0 wr) := ⟨bm, nb + q, f', HBK2.out, hm', by omega, hk'.all hl0.out, .inl rfl, HST2.out⟩
        clear hl0 hm' hk'
        go_wp2
        go_end0
        exact ⟨rfl, HX.out⟩
      · intro xb v w3 cn2 came hlt3 hen
        obtain ⟨x⟩ := xb
        have HG := Lib.hid came.val
        have HC : Hid (OkA x) := came.oks
        have HV : Hid (Amt v) := came.amt
        have HRG3 : Hid (RA w3 bc r0 n g (fun d => left d && !decide (d = x)) cn2) := came.rng
        obtain ⟨f', hm', hk'⟩ := HMF.out
        have HK := Lib.hid hk'
        have HM3 : Hid (MA w3 bm (nb + q) f') := hm'.stp came.stp (by simpa using HR0.out.1)
        have HBK3 : Hid (Blk w3 bb 51 #[.map (some bm)]) := HBK2.out.stp came.stp (by simpa using HR0.out.2.1)
        have HST3 : Hid (Stp [bb, bm] W0 w3) := HST2.out.trans came.stp (fun z hz => by rw [List.mem_singleton] at hz; rw [hz]; exact .inr HR0.out.2.2)
        have HBX : Hid (Blk (w3.alloc (.cells #[.string (st x.1), .string (st x.2.1), .string (st x.2.2)] 40)).drew w3.heap.size 40 #[.string (st x.1), .string (st x.2.1), .string (st x.2.2)]) := Blk.new w3 _ _
        have HMd : Hid (MA (w3.alloc (.cells #[.string (st x.1), .string (st x.2.1), .string (st x.2.2)] 40)).drew bm (nb + q) f') := (HM3.out.alloc _).heap rfl
        have HBd : Hid (Blk (w3.alloc (.cells #[.string (st x.1), .string (st x.2.1), .string (st x.2.2)] 40)).drew bb 51 #[.map (some bm)]) := HBK3.out.alloc _
        have HRd : Hid (RA (w3.alloc (.cells #[.string (st x.1), .string (st x.2.1), .string (st x.2.2)] 40)).drew bc r0 n g (fun d => left d && !decide (d = x)) cn2) := (HRG3.out.alloc _).since ((Below.refl _ _).drew)
        have HSd : Hid (Stp [bb, bm] W0 (w3.alloc (.cells #[.string (st x.1), .string (st x.2.1), .string (st x.2.2)] 40)).drew) := (HST3.out.alloc _).drew
        have HNB : Hid (bm ≠ w3.heap.size) := by have := HM3.out.lt; show bm ≠ _; omega
        clear hm' hk' came HRG2 HMF HBK2 HST2 HRG3 HM3 HBK3 HST3
        unfold kv at hen
        by_cases hv : v = 0
        · subst hv
          go_wp2_with fail
          refine wp_region_E (BoxK w3.heap.size x bb bm) [] (by kernel_rfl) ?_
          have HSB : Hid (BoxK w3.heap.size x bb bm (w3.alloc (.cells #[.string (st x.1), .string (st x.2.1), .string (st x.2.2)] 40)).drew) := BoxK.of HBX.out HBd.out
          generalize (w3.alloc (.cells #[.string (st x.1), .string (st x.2.1), .string (st x.2.2)] 40)).drew = wd at HSB HBX HMd HBd HRd HSd ⊢
          refine wpAnyE_take 0 (some 24) ?_ rfl rfl (by kernel_rfl) (by kernel_rfl) (by kernel_rfl) (by kernel_rfl) (fun _ _ _ h => h) (Or.inl ⟨by rfl, ?_⟩) HSB.out ?_
          rotate_left
          focus (intro wS hSw; have hS0 := hSw.k; have hS1 := hSw.q; have hS2 := hSw.c; have hS3 := hSw.m; clear hSw; go_simp; try (with_reducible rfl))
          simp only [Act.put, List.setIfInBounds_toArray, List.set_cons_zero, List.set_cons_succ]
          refine wpAnyE_take 1 (some 25) ?_ rfl rfl (by kernel_rfl) (by kernel_rfl) (by kernel_rfl) (by kernel_rfl) (fun _ _ _ h => h) (Or.inl ⟨by rfl, ?_⟩) HSB.out ?_
          rotate_left
          focus (intro wS hSw; have hS0 := hSw.k; have hS1 := hSw.q; have hS2 := hSw.c; have hS3 := hSw.m; clear hSw; go_simp; try (with_reducible rfl))
          simp only [Act.put, List.setIfInBounds_toArray, List.set_cons_zero, List.set_cons_succ]
          refine wpAnyE_take 2 (some 26) ?_ rfl rfl (by kernel_rfl) (by kernel_rfl) (by kernel_rfl) (by kernel_rfl) (fun _ _ _ h => h) (Or.inl ⟨by rfl, ?_⟩) HSB.out ?_
          rotate_left
          focus (intro wS hSw; have hS0 := hSw.k; have hS1 := hSw.q; have hS2 := hSw.c; have hS3 := hSw.m; clear hSw; go_simp; try (with_reducible rfl))
          simp only [Act.put, List.setIfInBounds_toArray, List.set_cons_zero, List.set_cons_succ]
          refine wpAnyE_take 3 (some 27) ?_ rfl rfl (by kernel_rfl) (by kernel_rfl) (by kernel_rfl) (by kernel_rfl) (fun _ _ _ h => h) (Or.inl ⟨by rfl, ?_⟩) HSB.out ?_
          rotate_left
          focus (intro wS hSw; have hS0 := hSw.k; have hS1 := hSw.q; have hS2 := hSw.c; have hS3 := hSw.m; clear hSw; go_simp; try (with_reducible rfl))
          simp only [Act.put, List.setIfInBounds_toArray, List.set_cons_zero, List.set_cons_succ]
          refine wpAnyE_take 4 (some 28) ?_ rfl rfl (by kernel_rfl) (by kernel_rfl) (by kernel_rfl) (by kernel_rfl) (fun _ _ _ h => h) (Or.inl ⟨by rfl, ?_⟩) HSB.out ?_
          rotate_left
          focus (intro wS hSw; have hS0 := hSw.k; have hS1 := hSw.q; have hS2 := hSw.c; have hS3 := hSw.m; clear hSw; go_simp; try (with_reducible rfl))
          simp only [Act.put, List.setIfInBounds_toArray, List.set_cons_zero, List.set_cons_succ]
          obtain ⟨w5, hrun, hm5, ht5⟩ := HMd.out.drop KA HC.out 0
          have hs5 := turned_stp ht5
          have HM5 := Lib.hid hm5
          have HBX5 : Hid (Blk w5 w3.heap.size 40 #[.string (st x.1), .string (st x.2.1), .string (st x.2.2)]) := HBX.out.stp hs5 (by simpa using fun e => HNB.out e.symm)
          have HBd5 : Hid (Blk w5 bb 51 #[.map (some bm)]) := HBd.out.stp hs5 (by simpa using HNM.out)
          have HSB5 : Hid (BoxK w3.heap.size x bb bm w5) := BoxK.of HBX5.out HBd5.out
          have HRd5 : Hid (RA w5 bc r0 n g (fun d => left d && !decide (d = x)) cn2) := HRd.out.stp hs5 (by simpa using HNC.out) (by simpa using fun e => HR0.out.1 e.symm)
          have HSd5 : Hid (Stp [bb, bm] W0 w5) := HSd.out.trans hs5 (fun z hz => by rw [List.mem_singleton] at hz; rw [hz]; exact .inl (by simp))
          clear hm5 ht5 hs5 HMd HBd HRd HSd HBX
          unfold kv at hrun
          refine wpAnyE_oneG 5 (by kernel_rfl) rfl (by rfl) (fun K hK => ?_)
          go_simp
          try simp only [hrun]
          refine hK.out _ _ HSB5.out ?_
          clear hK K hrun HSB HSB5
          try simp only [Act.put, List.setIfInBounds_toArray, List.set_cons_zero, List.set_cons_succ]
          refine wpAnyE_done (by kernel_rfl) ?_ _
          go_wp2
          go_roundg cn2
          case measure => omega
          case rel => exact ⟨_, cn2, q + 0, Nat.le_refl _, by omega, HRd5.out, ⟨_, HM5.out, HK.out.step HG.out _ (by rw [if_pos rfl])⟩, HBd5.out, HSd5.out⟩
        · have hvb : (v == 0) = false := by simpa using hv
          have HVN := Lib.hid hv
          clear hv
          go_wp2_with fail
          refine wp_region_E (BoxK w3.heap.size x bb bm) [] (by kernel_rfl) ?_
          have HSB : Hid (BoxK w3.heap.size x bb bm (w3.alloc (.cells #[.string (st x.1), .string (st x.2.1), .string (st x.2.2)] 40)).drew) := BoxK.of HBX.out HBd.out
          generalize (w3.alloc (.cells #[.string (st x.1), .string (st x.2.1), .string (st x.2.2)] 40)).drew = wd at HSB HBX HMd HBd HRd HSd ⊢
          refine wpAnyE_take 0 (some 29) ?_ rfl rfl (by kernel_rfl) (by kernel_rfl) (by kernel_rfl) (by kernel_rfl) (fun _ _ _ h => h) (Or.inl ⟨by rfl, ?_⟩) HSB.out ?_
          rotate_left
          focus (intro wS hSw; have hS0 := hSw.k; have hS1 := hSw.q; have hS2 := hSw.c; have hS3 := hSw.m; clear hSw; go_simp; try (with_reducible rfl))
          simp only [Act.put, List.setIfInBounds_toArray, List.set_cons_zero, List.set_cons_succ]
          refine wpAnyE_take 1 (some 30) ?_ rfl rfl (by kernel_rfl) (by kernel_rfl) (by kernel_rfl) (by kernel_rfl) (fun _ _ _ h => h) (Or.inl ⟨by rfl, ?_⟩) HSB.out ?_
          rotate_left
          focus (intro wS hSw; have hS0 := hSw.k; have hS1 := hSw.q; have hS2 := hSw.c; have hS3 := hSw.m; clear hSw; go_simp; try (with_reducible rfl))
          simp only [Act.put, List.setIfInBounds_toArray, List.set_cons_zero, List.set_cons_succ]
          refine wpAnyE_take 2 (some 31) ?_ rfl rfl (by kernel_rfl) (by kernel_rfl) (by kernel_rfl) (by kernel_rfl) (fun _ _ _ h => h) (Or.inl ⟨by rfl, ?_⟩) HSB.out ?_
          rotate_left
          focus (intro wS hSw; have hS0 := hSw.k; have hS1 := hSw.q; have hS2 := hSw.c; have hS3 := hSw.m; clear hSw; go_simp; try (with_reducible rfl))
          simp only [Act.put, List.setIfInBounds_toArray, List.set_cons_zero, List.set_cons_succ]
          refine wpAnyE_take 3 (some 32) ?_ rfl rfl (by kernel_rfl) (by kernel_rfl) (by kernel_rfl) (by kernel_rfl) (fun _ _ _ h => h) (Or.inl ⟨by rfl, ?_⟩) HSB.out ?_
          rotate_left
          focus (intro wS hSw; have hS0 := hSw.k; have hS1 := hSw.q; have hS2 := hSw.c; have hS3 := hSw.m; clear hSw; go_simp; try (with_reducible rfl))
          simp only [Act.put, List.setIfInBounds_toArray, List.set_cons_zero, List.set_cons_succ]
          refine wpAnyE_take 4 (some 33) ?_ rfl rfl (by kernel_rfl) (by kernel_rfl) (by kernel_rfl) (by kernel_rfl) (fun _ _ _ h => h) (Or.inl ⟨by rfl, ?_⟩) HSB.out ?_
          rotate_left
          focus (intro wS hSw; have hS0 := hSw.k; have hS1 := hSw.q; have hS2 := hSw.c; have hS3 := hSw.m; clear hSw; go_simp; try (with_reducible rfl))
          simp only [Act.put, List.setIfInBounds_toArray, List.set_cons_zero, List.set_cons_succ]
          refine wpAnyE_take 5 (some 34) ?_ rfl rfl (by kernel_rfl) (by kernel_rfl) (by kernel_rfl) (by kernel_rfl) (fun _ _ _ h => h) (Or.inl ⟨by rfl, ?_⟩) HSB.out ?_
          rotate_left
          focus (intro wS hSw; have hS0 := hSw.k; have hS1 := hSw.q; have hS2 := hSw.c; have hS3 := hSw.m; clear hSw; go_simp; try (with_reducible rfl))
          simp only [Act.put, List.setIfInBounds_toArray, List.set_cons_zero, List.set_cons_succ]
          obtain ⟨w5, hrun, hm5, ht5⟩ := HMd.out.store KA (by unfold maxLen; omega) HC.out HV.out
          have hs5 := turned_stp ht5
          have HM5 := Lib.hid hm5
          have HBX5 : Hid (Blk w5 w3.heap.size 40 #[.string (st x.1), .string (st x.2.1), .string (st x.2.2)]) := HBX.out.stp hs5 (by simpa using fun e => HNB.out e.symm)
          have HBd5 : Hid (Blk w5 bb 51 #[.map (some bm)]) := HBd.out.stp hs5 (by simpa using HNM.out)
          have HSB5 : Hid (BoxK w3.heap.size x bb bm w5) := BoxK.of HBX5.out HBd5.out
          have HRd5 : Hid (RA w5 bc r0 n g (fun d => left d && !decide (d = x)) cn2) := HRd.out.stp hs5 (by simpa using HNC.out) (by simpa using fun e => HR0.out.1 e.symm)
          have HSd5 : Hid (Stp [bb, bm] W0 w5) := HSd.out.trans hs5 (fun z hz => by rw [List.mem_singleton] at hz; rw [hz]; exact .inl (by simp))
          clear hm5 ht5 hs5 HMd HBd HRd HSd HBX
          unfold kv at hrun
          refine wpAnyE_oneG 6 (by kernel_rfl) rfl (by rfl) (fun K hK => ?_)
          go_simp
          refine hK.out _ _ HSB5.out ?_
          clear hK K hrun HSB HSB5
          try simp only [Act.put, List.setIfInBounds_toArray, List.set_cons_zero, List.set_cons_succ]
          refine wpAnyE_done (by kernel_rfl) ?_ _
          go_wp2
          go_roundg cn2
          case measure => omega
          case rel => exact ⟨_, cn2, q + 1, Nat.le_refl _, by omega, HRd5.out, ⟨_, HM5.out, HK.out.step HG.out _ (by rw [if_neg HVN.out])⟩, HBd5.out, HSd5.out⟩
end Go.Proofs.Yteclhcjfnmkkjaa
