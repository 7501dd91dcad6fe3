/-
  Contract of disk.Disk.Restart.
-/
import Derived.Test.YtbpklikmldpeiaaDskEMA
import Derived.Test.YtbpklikmldpeiaaMA01
namespace Go.Proofs.Ytbpklikmldpeiaa
open Go.RowKit Go.Lib

theorem settle_at (b g n k : Nat) (kz : Int) (hz : kz = (k : Nat)) (cs : Array Value) (bs : List (List UInt8 × Nat)) (p : Nat × List UInt8) (w : World) (hb : Blk w b 64 cs) (hcs : cs[0]? = some (.slice (some ⟨g, 0, none⟩) n n)) (hn : n = bs.length) (hr : Blk w g 80 (bs.flatMap cB).toArray)
    (hl : ∀ x ∈ bs, x.1.length = 64) (hp1 : p.1 < n) (hp2 : p.2.length = 64) (hk : k ≤ 64) :
    Calls Try.prog 38 #[.pointer (some ⟨b, 0, none⟩), .agg (cW p).toArray, .int .i64 kz] w fun e w' => e = .returned (.tuple #[]) ∧ Stp [g] w w' ∧ Blk w' g 80 ((settleB bs p k).flatMap cB).toArray := by
  subst hz
  exact settle_any b g n k cs bs p w hb hcs hn hr hl hp1 hp2 hk

theorem restart_nil (a : Value) (w : World) :
    Calls Try.prog 20 #[.pointer none, a] w fun e w' => e = .returned (.tuple #[]) ∧ w = w' := by
  go_enter Try.func20, Try.ntmps20
  go_wp2
  exact bodyPost_ret (results_none rfl _ _ _) rfl ⟨rfl, rfl⟩

set_option maxHeartbeats 2000000 in
set_option maxRecDepth 100000 in
theorem restart_any (B b : Nat) (s : DS) (fp : List Nat) (a : Option Addr) (c : Nat) (keep : List Nat) (w : World) (h : PD w B b s fp) (hlen : s.pe.length ≤ 4611686018427387904) (hkl : keep.length ≤ 4611686018427387904) (hrow : RowN w a keep) (hoff : 0 < keep.length → Off a fp) :
    Calls Try.prog 20 #[.pointer (some ⟨b, 0, none⟩), .slice a keep.length c] w fun e w' => e = .returned (.tuple #[]) ∧ After fp w w' (PD w' B b (s.restart keep)) := by
  obtain ⟨g, n, v, fz, bs, h, rfl⟩ := h
  obtain ⟨va, vc, rfl⟩ := h.own_form
  have c1 : w.cell? ⟨b, 1, none⟩ = some (.slice va s.pe.length vc) := h.box.cell 1
  obtain ⟨np, hnp⟩ : ∃ np, np = s.pe.length := ⟨_, rfl⟩
  obtain ⟨nk, hnk⟩ : ∃ nk, nk = keep.length := ⟨_, rfl⟩
  have HNP := Lib.hid hnp
  have HNK := Lib.hid hnk
  rw [← hnp] at c1 hlen
  rw [← hnk] at hkl ⊢
  have H1 := Lib.hid h
  have HROW := Lib.hid hrow
  have HOFF : Hid (0 < keep.length → Off a [g]) := fun h0 A hA hm => hoff h0 A hA (by rw [List.mem_singleton] at hm; rw [hm]; exact mem_fpP.2 (.inr (.inl rfl)))
  clear h hnp hnk hrow hoff
  go_enter Try.func20, Try.ntmps20
  go_wp2
  go_loopg [14] np (fun gk i wr => ∃ j : Nat, j ≤ np ∧ i = .int .i64 j ∧ np - j ≤ gk ∧ Hid (Blk wr g 80 ((settleBN bs s.pe (kOf keep) j).flatMap cB).toArray) ∧ Hid (Stp [g] w wr))
  case atStart => exact ⟨0, Nat.zero_le _, rfl, by omega, H1.out.row, Stp.refl _ _⟩
  case round =>
    obtain ⟨j, hj, rfl, hgk, HR, HST⟩ := hrel
    have hbg : b ≠ g := H1.out.box.ne H1.out.row (by decide)
    have HBX := Lib.hid (H1.out.box.stp HST.out (by simpa using hbg))
    have hvg : ∀ k, (Value.slice va s.pe.length vc).ownBlock = some k → k ∉ [g] := fun k hk => by
      obtain ⟨cur, hcur⟩ := own_blk_of H1.out.own hk
      simp only [List.mem_singleton]
      exact fun e => by subst e; exact absurd rfl (H1.out.row.ne hcur (by decide))
    have HOW := Lib.hid (own_stp H1.out.own HST.out hvg)
    clear hvg hbg
    by_cases hlt : j < np
    · have hp : s.pe[j]? = some (s.pe.getD j (0, [])) := by rw [List.getD_eq_getElem?_getD, List.getElem?_eq_getElem (by rw [← HNP.out]; exact hlt)]; rfl
      generalize hpp : s.pe.getD j (0, []) = p at hp
      obtain ⟨q, c', hv, hq, hd64, hrg, _⟩ := own_range H1.out.ok HOW.out hp
      injection hv with hv1 hv2 hv3
      subst hv1
      have HRG := Lib.hid hrg
      have hi2 : (Try.prog.info? 84).map (·.size) = some (cW p).length := by rw [cW_length hd64]; exact (info_zero infoDkWrite).2.1
      have hi3 : (Try.prog.info? 84).map (·.size) = some (cW p).toArray.size := by rw [List.size_toArray]; exact hi2
      have hz3 : zW.size = (cW p).toArray.size := zW_size.trans (cW_size hd64).symm
      have ho3 : ∀ u ∈ (cW p).toArray.toList, u.oneCell' = true := fun u hu => by
        rw [List.toList_toArray, cW] at hu
        rcases List.mem_cons.1 hu with rfl | hu
        · rfl
        · exact bv_one _ u hu
      have hbl : Blk (wr.alloc (.cells (cW p).toArray 84)) wr.heap.size 84 (cW p).toArray := Blk.new wr _ _
      have hrg2 : (wr.alloc (.cells (cW p).toArray 84)).rangeAt wr.heap.size 0 (cW p) := range_of_blk (xs := []) (zs := []) (by rw [List.append_nil]; exact hbl)
      have HI2 := Lib.hid hi2
      have HI3 := Lib.hid hi3
      have HZ3 := Lib.hid hz3
      have HO3 := Lib.hid ho3
      have HRG2 := Lib.hid hrg2
      have hset := H1.out.settled (kOf keep) (kOf_le keep) j (by rw [← HNP.out]; exact hj)
      have hse := fun (k : Nat) (kz : Int) (hz : kz = (k : Nat)) (hk : k ≤ 64) => settle_at b g n k kz hz _ _ p _ (HBX.out.alloc (.cells (cW p).toArray 84)) rfl hset.1.symm (HR.out.alloc _) hset.2 (by rw [H1.out.num]; exact (H1.out.ok.pe p (List.mem_of_getElem? hp)).1) hd64 hk
      have HPP := Lib.hid hpp
      have hst2 : Stp [g] w (wr.alloc (.cells (cW p).toArray 84)) := HST.out.alloc _
      have HST2 := Lib.hid hst2
      have hrw2 := HROW.out.stp hst2 HOFF.out
      have hjz : (0 : Int) ≤ (j : Int) := by omega
      have hjn : (j : Int) < (np : Int) := by omega
      have h3 : (∃ x, j < nk ∧ keep[j]? = some x ∧ x ≤ 64) ∨ (∃ x, j < nk ∧ keep[j]? = some x ∧ 64 < x) ∨ ¬ j < nk := by
        by_cases hjk : j < nk
        · obtain ⟨x, hx⟩ : ∃ x, keep[j]? = some x := ⟨_, List.getElem?_eq_getElem (by rw [← HNK.out]; exact hjk)⟩
          rcases Nat.lt_or_ge 64 x with h | h
          · exact .inr (.inl ⟨x, hjk, hx, h⟩)
          · exact .inl ⟨x, hjk, hx, h⟩
        · exact .inr (.inr hjk)
      rcases h3 with ⟨x, hjk, hx, hx64⟩ | ⟨x, hjk, hx, hx64⟩ | hjk
      case' inl =>
        obtain ⟨kb, off, ea, hkc⟩ := hrw2 (by rw [← HNK.out]; omega)
        obtain ⟨h255, ck⟩ := hkc j x hx
        have h255i : (x : Int) ≤ 255 := by omega
        have HKX : Hid (kOf keep j = x) := by show _ = _; rw [kOf, List.getD_eq_getElem?_getD, hx]; show min x 64 = x; omega
        have HSE := Lib.hid (hse x x rfl (by omega))
        have hxi : (x : Int) ≤ 64 := by omega
        have hxn : ¬ (64 : Int) < (x : Int) := by omega
        subst ea
        clear hkc hx
      case' inr.inl =>
        obtain ⟨kb, off, ea, hkc⟩ := hrw2 (by rw [← HNK.out]; omega)
        obtain ⟨h255, ck⟩ := hkc j x hx
        have h255i : (x : Int) ≤ 255 := by omega
        have HKX : Hid (kOf keep j = 64) := by show _ = _; rw [kOf, List.getD_eq_getElem?_getD, hx]; show min x 64 = 64; omega
        have HSE := Lib.hid (hse 64 64 rfl (by omega))
        have hxi : ¬ (x : Int) ≤ 64 := by omega
        have hxn : (64 : Int) < (x : Int) := by omega
        subst ea
        clear hkc hx
      case' inr.inr =>
        have hx : keep[j]? = none := List.getElem?_eq_none (by rw [← HNK.out]; omega)
        have HKX : Hid (kOf keep j = 0) := by show _ = _; rw [kOf, List.getD_eq_getElem?_getD, hx]; rfl
        have HSE := Lib.hid (hse 0 0 rfl (by omega))
        clear hx
      all_goals
        clear hrg hi2 hi3 hz3 ho3 hbl hrg2 hset hse hpp hp hst2 hrw2 hq hv2 hv3
        go_wp2_with (first | (refine wpList_load_mid rfl 84 _ rfl q (j * 65) rfl _ _ HRG.out Try.underlying84 rfl HI2.out ?_) | (refine wpList_alloc_z rfl 84 rfl zW 65 72 infoDkWrite ?_) | (refine wpList_store_new rfl 84 _ _ rfl rfl _ rfl _ _ HI3.out HZ3.out HO3.out ?_) | (refine wpList_load_mid rfl 84 _ rfl wr.heap.size 0 rfl _ _ HRG2.out Try.underlying84 rfl HI2.out ?_) | (go_at_call 38; ((with_reducible refine HSE.out.mono ?_); rintro e w2 ⟨rfl, hs2, hr2⟩); have HS2 := Lib.hid hs2; have HR2 := Lib.hid hr2; clear hs2 hr2))
        go_roundg (np - (j + 1))
        case measure => omega
        case rel =>
          refine ⟨j + 1, by omega, by go_num, by omega, ?_, HST2.out.trans HS2.out (fun k hk => .inl hk)⟩
          show Blk w2 g _ ((settleB (settleBN bs s.pe (kOf keep) j) (s.pe.getD j (0, [])) (kOf keep j)).flatMap cB).toArray
          rw [HKX.out, HPP.out]
          exact HR2.out
    · have e : j = np := by omega
      subst e
      have d0 : wr.cell? ⟨b, 0, none⟩ = some (.slice (some ⟨g, 0, none⟩) n n) := HBX.out.cell 0
      have d1 := HBX.out.cell 1
      have d2 := HBX.out.cell 2
      have d3 := HBX.out.cell 3
      have d4 := HBX.out.cell 4
      have f0 := HBX.out.frozen 0
      have f1 := HBX.out.frozen 1
      have f2 := HBX.out.frozen 2
      have f3 := HBX.out.frozen 3
      have f4 := HBX.out.frozen 4
      clear hgk
      go_wp2
      go_end0
      refine ⟨rfl, fpP b g (.slice none 0 0), ⟨g, n, .slice none 0 0, 0, settleBN bs s.pe (kOf keep) j, ⟨H1.out.ok.restart keep, ?_, ?_, ?_, ?_, fun h => by simp [DS.restart] at h, ?_, World.ownsRow_nil _ _ _ _, H1.out.hb, H1.out.hg⟩, rfl⟩, ?_, ?_⟩
      · rw [settleBN_map, H1.out.map, HNP.out]; rfl
      · intro k x hx
        rw [HNP.out] at hx
        exact settleBN_done _ H1.out.last k x hx
      · show n = (settleN _ _ _ _).length
        rw [settleN_length]; exact H1.out.num
      · exact ((((HBX.out.set 0 _).set 1 _).set 2 _).set 3 _).set 4 _
      · have hne : g ≠ b := (H1.out.box.ne H1.out.row (by decide)).symm
        exact ((((HR.out.other (a := ⟨b, 0, none⟩) hne _).other (a := ⟨b, 1, none⟩) hne _).other (a := ⟨b, 2, none⟩) hne _).other (a := ⟨b, 3, none⟩) hne _).other (a := ⟨b, 4, none⟩) hne _
      · have hw : Stp (fpP b g (.slice va s.pe.length vc)) w wr := HST.out.wider (fun k hk => by rw [List.mem_singleton] at hk; rw [hk]; exact mem_fpP.2 (.inr (.inl rfl)))
        have hbm : ∀ i : Nat, (⟨b, i, none⟩ : Addr).block ∈ fpP b g (.slice va s.pe.length vc) ∨ w.heap.size ≤ (⟨b, i, none⟩ : Addr).block := fun i => .inl (mem_fpP.2 (.inl rfl))
        exact ((((hw.setCell (hbm 0) _).setCell (hbm 1) _).setCell (hbm 2) _).setCell (hbm 3) _).setCell (hbm 4) _
      · intro k hk
        rcases mem_fpP.1 hk with e | e | e
        · exact .inl (mem_fpP.2 (.inl e))
        · exact .inl (mem_fpP.2 (.inr (.inl e)))
        · cases e
end Go.Proofs.Ytbpklikmldpeiaa
