/-
  Contracts of soukref05.Disk.Read, Restart.
-/
import Derived.Test.YthckcbnendjmpaaRDskC
import Derived.Test.YthckcbnendjmpaaRowN
namespace Go.Proofs.Ythckcbnendjmpaa
open Go.RowKit Go.Lib

set_option maxHeartbeats 2000000 in
theorem rRead_any (B b : Nat) (s : DS) (fp : List Nat) (k : Int) (w : World) (h : RD w B b s fp) (hlen : s.pe.length ≤ 4611686018427387904) :
    Calls Try.prog 14 #[.pointer (some ⟨b, 0, none⟩), .int .i64 k] w fun e w' => e = .returned (.tuple #[.string (st (s.read k).1), .int .i64 (s.read k).2]) ∧ w = w' := by
  obtain ⟨n, vb, vp, h, rfl⟩ := h
  obtain ⟨ba, bc, rfl⟩ := own_slice2 h.row
  obtain ⟨pa, pc, rfl⟩ := own_slice2 h.own
  obtain ⟨np, hnp⟩ : ∃ np, np = s.pe.length := ⟨_, rfl⟩
  have HNP := Lib.hid hnp
  have c0 : w.cell? ⟨b, 0, none⟩ = some (.slice ba n bc) := h.box.cell 0
  have c1 : w.cell? ⟨b, 1, none⟩ = some (.slice pa np pc) := by rw [hnp]; exact h.box.cell 1
  have c3 : w.cell? ⟨b, 3, none⟩ = some (.bool s.dead) := h.box.cell 3
  have hn := h.ok.len
  rw [← h.num] at hn
  rw [← hnp] at hlen
  have H := Lib.hid h
  obtain ⟨dd, hdd⟩ : ∃ dd, dd = s.dead := ⟨_, rfl⟩
  rw [← hdd] at c3
  have HD := Lib.hid hdd
  have HN := Lib.hid h.num
  clear h hdd hnp
  cases dd with
  | true =>
    have hr : s.refusal k = 7 := by unfold DS.refusal; rw [if_pos HD.out.symm]
    have HE : Hid (s.read k = ([], 7)) := by show _ = _; unfold DS.read; rw [if_pos (by rw [hr]; decide), hr]
    clear hr
    go_enter Try.func14, Try.ntmps14
    go_wp2
    go_ret2
    rw [HE.out]
    exact ⟨rfl, rfl⟩
  | false =>
    by_cases hin : 0 ≤ k ∧ k < (n : Int)
    · obtain ⟨hk0, hk1⟩ := hin
      have hr : s.refusal k = 0 := by unfold DS.refusal; rw [if_neg (by rw [← HD.out]; decide), if_neg (by rw [← HN.out]; omega)]
      obtain ⟨m, hm⟩ : ∃ m : Nat, k = (m : Int) := ⟨k.toNat, by omega⟩
      subst hm
      have hmn : m < s.bl.length := by rw [← HN.out]; omega
      obtain ⟨x, hx⟩ : ∃ x, s.bl[m]? = some x := ⟨_, List.getElem?_eq_getElem hmn⟩
      have HE : Hid (s.read m = (curF x s.pe m, 0)) := by
        show _ = _
        unfold DS.read
        rw [if_neg (by rw [hr]; decide), Int.toNat_natCast, List.getD_eq_getElem?_getD, hx]; rfl
      obtain ⟨g, cg, hvb, _, e3⟩ := RDx.stand H.out.row hx
      injection hvb with hvb1 _ hvb3
      subst hvb1
      clear hr hmn hx hvb3
      go_enter Try.func14, Try.ntmps14
      go_wp2
      go_loopg [6, 7] np (fun gk y i wr => ∃ j : Nat, j ≤ np ∧ i = .int .i64 j ∧ y = .string (st (curF x (s.pe.take j) m)) ∧ np - j ≤ gk ∧ Hid (wr = w))
      case atStart => exact ⟨0, Nat.zero_le _, rfl, by simp [curF, curR], by omega, rfl⟩
      case round =>
        obtain ⟨j, hj, rfl, rfl, hgk, HW⟩ := hrel
        have e := HW.out
        subst e
        by_cases hlt : j < np
        · obtain ⟨p, hp⟩ : ∃ p, s.pe[j]? = some p := ⟨_, List.getElem?_eq_getElem (by rw [← HNP.out]; exact hlt)⟩
          obtain ⟨q, c', hv, e1, e2⟩ := RDx.pend H.out.own hp
          injection hv with hv1 hv2 hv3
          subst hv1
          have hcf : curF x (s.pe.take (j + 1)) m = if p.1 = m then p.2 else curF x (s.pe.take j) m := by
            obtain ⟨hl, he⟩ := List.getElem?_eq_some_iff.1 hp
            rw [List.take_succ_eq_append_getElem hl, he, curF_snoc]
          obtain ⟨i, d⟩ := p
          simp only at e1 e2 hcf
          by_cases him : i = m
          · subst him
            rw [if_pos rfl] at hcf
            have HCF := Lib.hid hcf
            clear hcf hp hv2 hv3
            go_wp2
            go_roundg (np - (j + 1))
            case measure => omega
            case rel => exact ⟨j + 1, by omega, by go_num, by rw [HCF.out], by omega, rfl⟩
          · rw [if_neg him] at hcf
            have HCF := Lib.hid hcf
            have t1 : ((i : Int) == (m : Int)) = false := by rw [beq_eq_false_iff_ne]; omega
            clear hcf hp hv2 hv3
            go_wp2
            go_roundg (np - (j + 1))
            case measure => omega
            case rel => exact ⟨j + 1, by omega, by go_num, by rw [HCF.out], by omega, rfl⟩
        · have e : j = np := by omega
          subst e
          have ht : s.pe.take j = s.pe := List.take_of_length_le (by rw [← HNP.out]; exact Nat.le_refl _)
          have HT := Lib.hid ht
          clear hgk ht
          go_wp2
          go_ret2
          rw [HE.out, HT.out]
          exact ⟨rfl, rfl⟩
    · have hr : s.refusal k = 8 := by unfold DS.refusal; rw [if_neg (by rw [← HD.out]; decide), if_pos (by rw [← HN.out]; omega)]
      have HE : Hid (s.read k = ([], 8)) := by show _ = _; unfold DS.read; rw [if_pos (by rw [hr]; decide), hr]
      clear hr
      by_cases hk0 : k < 0
      · clear hin
        go_enter Try.func14, Try.ntmps14
        go_wp2
        go_ret2
        rw [HE.out]
        exact ⟨rfl, rfl⟩
      · have hk1 : (n : Int) ≤ k := by omega
        clear hin
        go_enter Try.func14, Try.ntmps14
        go_wp2
        go_ret2
        rw [HE.out]
        exact ⟨rfl, rfl⟩

set_option maxHeartbeats 2000000 in
theorem rRestart_any (B b : Nat) (s : DS) (fp : List Nat) (a : Option Addr) (c : Nat) (keep : List Nat) (w : World) (h : RD w B b s fp) (hlen : s.pe.length ≤ 4611686018427387904) (hkl : keep.length ≤ 4611686018427387904) (hrow : RowN w a keep) (hoff : 0 < keep.length → Off a fp) :
    Calls Try.prog 17 #[.pointer (some ⟨b, 0, none⟩), .slice a keep.length c] w fun e w' => e = .returned (.tuple #[]) ∧ After fp w w' (RD w' B b (s.restart keep)) := by
  obtain ⟨n, vb, vp, h, rfl⟩ := h
  obtain ⟨ba, bc, rfl⟩ := own_slice2 h.row
  obtain ⟨pa, pc, rfl⟩ := own_slice2 h.own
  obtain ⟨np, hnp⟩ : ∃ np, np = s.pe.length := ⟨_, rfl⟩
  obtain ⟨nk, hnk⟩ : ∃ nk, nk = keep.length := ⟨_, rfl⟩
  have HNP := Lib.hid hnp
  have HNK := Lib.hid hnk
  have HBX1 : Hid (Blk w b 42 #[.slice ba n bc, .slice pa np pc, .int .i64 s.fu, .bool s.dead]) := by rw [hnp]; exact h.box
  rw [← hnp] at hlen
  rw [← hnk] at hkl ⊢
  have H1 := Lib.hid h
  have HROW := Lib.hid hrow
  have HNR := Lib.hid (own_ne h.row h.box (by decide))
  have HNO := Lib.hid (own_ne_own h.own h.row (by decide))
  have HOFF : Hid (0 < keep.length → Off a (Value.slice ba n bc).ownBlock.toList) := fun h0 A hA hm => hoff h0 A hA (mem_fpR.2 (.inr (.inl (by simpa [Option.mem_toList] using hm))))
  clear h hnp hnk hrow hoff
  go_enter Try.func17, Try.ntmps17
  go_wp2
  go_loopg [4] np (fun gk i wr => ∃ j : Nat, j ≤ np ∧ i = .int .i64 j ∧ np - j ≤ gk ∧ Hid (wr.ownsRow B 9 1 (.slice ba n bc) n (sv (settleN s.bl s.pe (kOf keep) j))) ∧ Hid (Stp (Value.slice ba n bc).ownBlock.toList w wr))
  case atStart => exact ⟨0, Nat.zero_le _, rfl, by omega, H1.out.row, Stp.refl _ _⟩
  case round =>
    obtain ⟨j, hj, rfl, hgk, HR, HST⟩ := hrel
    have HBX := Lib.hid (HBX1.out.stp HST.out (fun hm => HNR.out b (by simpa [Option.mem_toList] using hm) rfl))
    have HOW := Lib.hid (own_stp H1.out.own HST.out (fun k hk hm => HNO.out k hk (by simpa [Option.mem_toList] using hm)))
    have d1 : wr.cell? ⟨b, 1, none⟩ = some (.slice pa np pc) := HBX.out.cell 1
    by_cases hlt : j < np
    · have hp : s.pe[j]? = some (s.pe.getD j (0, [])) := by rw [List.getD_eq_getElem?_getD, List.getElem?_eq_getElem (by rw [← HNP.out]; exact hlt)]; rfl
      generalize hpp : s.pe.getD j (0, []) = p at hp
      obtain ⟨q, c', hv, e1, e2⟩ := RDx.pend HOW.out hp
      injection hv with hv1 hv2 hv3
      subst hv1
      have hpk := H1.out.ok.pe p (List.mem_of_getElem? hp)
      have hsl : (settleN s.bl s.pe (kOf keep) j).length = n := by rw [settleN_length, H1.out.num]
      have hsok := settleN_ok (kf := kOf keep) H1.out.ok.bl H1.out.ok.pe (kOf_le keep) j (by rw [← HNP.out]; exact hj)
      obtain ⟨x, hx⟩ : ∃ x, (settleN s.bl s.pe (kOf keep) j)[p.1]? = some x := ⟨_, List.getElem?_eq_getElem (by rw [hsl, H1.out.num]; exact hpk.1)⟩
      have hx64 := hsok x (List.mem_of_getElem? hx)
      obtain ⟨i, d⟩ := p
      simp only at e1 e2 hpk hx
      obtain ⟨hi, hd64⟩ := hpk
      have hrow2 := HR.out.alloc (.cells #[.int .i64 (i : Nat), .string (st d)] 65)
      have hbx2 := HBX.out.alloc (.cells #[.int .i64 (i : Nat), .string (st d)] 65)
      obtain ⟨g, cg, hvb, hBg, e3⟩ := RDx.stand hrow2 hx
      injection hvb with hvb1 _ hvb3
      subst hvb1
      have hst2 : Stp (Value.slice (some ⟨g, 0, none⟩) n bc).ownBlock.toList w (wr.alloc (.cells #[.int .i64 (i : Nat), .string (st d)] 65)) := HST.out.alloc _
      have hrw2 := HROW.out.stp HST.out HOFF.out
      have key : ∀ kk, kOf keep j = kk → sv (settleN s.bl s.pe (kOf keep) (j + 1)) = (sv (settleN s.bl s.pe (kOf keep) j)).set i (.string (st (d.take kk ++ x.drop kk))) := fun kk hkk => by
        rw [sv_set, settleN, hpp, settle1, hkk, List.getD_eq_getElem?_getD, hx]; rfl
      have HKEY := Lib.hid key
      have HR2 := Lib.hid hrow2
      have HST2 := Lib.hid hst2
      have hb0 : (wr.alloc (.cells #[.int .i64 (i : Nat), .string (st d)] 65)).cell? ⟨b, 0, none⟩ = some (.slice (some ⟨g, 0, none⟩) n bc) := hbx2.cell 0
      have hbn : Blk (wr.alloc (.cells #[.int .i64 (i : Nat), .string (st d)] 65)) wr.heap.size 65 #[.int .i64 (i : Nat), .string (st d)] := Blk.new wr _ _
      have hn0 : (wr.alloc (.cells #[.int .i64 (i : Nat), .string (st d)] 65)).cell? ⟨wr.heap.size, 0, none⟩ = some (.int .i64 (i : Nat)) := hbn.cell 0
      have hn1 : (wr.alloc (.cells #[.int .i64 (i : Nat), .string (st d)] 65)).cell? ⟨wr.heap.size, 1, none⟩ = some (.string (st d)) := hbn.cell 1
      have hfz := hrow2.frozenAt i
      have hin : (i : Int) < (n : Int) := by rw [H1.out.num]; omega
      have hiz : (0 : Int) ≤ (i : Int) := by omega
      have hnm : n ≤ 65536 := by rw [H1.out.num]; exact H1.out.ok.len
      have hjz : (0 : Int) ≤ (j : Int) := by omega
      have hjn : (j : Int) < (np : Int) := by omega
      have hsd : (st d).size = 64 := by rw [st_size, hd64]
      have hsx : (st x).size = 64 := by rw [st_size, hx64]
      have h3 : (∃ y, j < nk ∧ keep[j]? = some y ∧ y ≤ 64) ∨ (∃ y, j < nk ∧ keep[j]? = some y ∧ 64 < y) ∨ ¬ j < nk := by
        by_cases hjk : j < nk
        · obtain ⟨y, hy⟩ : ∃ y, keep[j]? = some y := ⟨_, List.getElem?_eq_getElem (by rw [← HNK.out]; exact hjk)⟩
          rcases Nat.lt_or_ge 64 y with h | h
          · exact .inr (.inl ⟨y, hjk, hy, h⟩)
          · exact .inl ⟨y, hjk, hy, h⟩
        · exact .inr (.inr hjk)
      have cut : ∀ kk : Nat, kk ≤ 64 → (st d).extract 0 kk = st (d.take kk) ∧ (st x).extract kk 64 = st (x.drop kk) ∧ st (d.take kk) ++ st (x.drop kk) = st (d.take kk ++ x.drop kk) ∧ (st (d.take kk)).size ≤ 64 ∧ (st (x.drop kk)).size ≤ 64 := fun kk hkk => by
        refine ⟨by rw [st_extract]; rfl, by rw [st_extract, List.take_of_length_le (by rw [List.length_drop]; omega)], st_append _ _, by rw [st_size, List.length_take]; omega, by rw [st_size, List.length_drop]; omega⟩
      have HD64 := Lib.hid hd64
      rcases h3 with ⟨y, hjk, hy, hy64⟩ | ⟨y, hjk, hy, hy64⟩ | hjk
      case' inl =>
        obtain ⟨kb, off, ea, hkc⟩ := hrw2 (by rw [← HNK.out]; omega)
        obtain ⟨h255, ck⟩ := hkc j y hy
        have h255i : (y : Int) ≤ 255 := by omega
        have HKX : Hid (kOf keep j = y) := by show _ = _; rw [kOf, List.getD_eq_getElem?_getD, hy]; show min y 64 = y; omega
        obtain ⟨k1, k2, k3, k4, k5⟩ := cut y hy64
        have HKE := Lib.hid (key y HKX.out)
        have HSD := Lib.hid (HR2.out.stored i (.string (st (d.take y ++ x.drop y))))
        have hyi : (y : Int) ≤ 64 := by omega
        have hyn : ¬ (64 : Int) < (y : Int) := by omega
        subst ea
        clear hkc hy
      case' inr.inl =>
        obtain ⟨kb, off, ea, hkc⟩ := hrw2 (by rw [← HNK.out]; omega)
        obtain ⟨h255, ck⟩ := hkc j y hy
        have h255i : (y : Int) ≤ 255 := by omega
        have HKX : Hid (kOf keep j = 64) := by show _ = _; rw [kOf, List.getD_eq_getElem?_getD, hy]; show min y 64 = 64; omega
        obtain ⟨k1, k2, k3, k4, k5⟩ := cut 64 (by omega)
        have hke := key 64 HKX.out
        rw [List.drop_of_length_le (by omega), List.append_nil] at hke
        have HKE := Lib.hid hke
        have HSD := Lib.hid (HR2.out.stored i (.string (st (d.take 64))))
        clear hke
        have hyi : ¬ (y : Int) ≤ 64 := by omega
        have hyn : (64 : Int) < (y : Int) := by omega
        subst ea
        clear hkc hy
      case' inr.inr =>
        have hy : keep[j]? = none := List.getElem?_eq_none (by rw [← HNK.out]; omega)
        have HKX : Hid (kOf keep j = 0) := by show _ = _; rw [kOf, List.getD_eq_getElem?_getD, hy]; rfl
        obtain ⟨k1, k2, k3, k4, k5⟩ := cut 0 (by omega)
        have HKE := Lib.hid (key 0 HKX.out)
        have HSD := Lib.hid (HR2.out.stored i (.string (st (d.take 0 ++ x.drop 0))))
        clear hy
      all_goals
        clear hrow2 hbx2 hst2 hrw2 key hbn hpp hp hsl hsok hx hv2 hv3 hBg hvb3 cut hx64 hd64 hi
        go_wp2
        generalize wr.alloc (.cells #[.int .i64 (i : Nat), .string (st d)] 65) = W at HR2 HST2 HSD hb0 hn0 hn1 hfz e3 ⊢
        go_region
        go_wp2
        go_roundg (np - (j + 1))
        case measure => omega
        case rel =>
          have h1 := HSD.out.1
          rw [← HKE.out] at h1
          exact ⟨j + 1, by omega, by go_num, by omega, h1, (HST2.out.setCell (x := ⟨g, i, none⟩) (.inl (by simp [Value.ownBlock])) _).drew⟩
    · have e : j = np := by omega
      subst e
      have f1 := HBX.out.frozen 1
      have f2 := HBX.out.frozen 2
      have f3 := HBX.out.frozen 3
      have d2 := HBX.out.cell 2
      have d3 := HBX.out.cell 3
      clear hgk
      go_wp2
      go_end0
      have hw : Stp (fpR b (.slice ba n bc) (.slice pa s.pe.length pc)) w wr := HST.out.wider (fun k hk => mem_fpR.2 (.inr (.inl (by simpa [Option.mem_toList] using hk))))
      have hbm : ∀ i : Nat, (⟨b, i, none⟩ : Addr).block ∈ fpR b (.slice ba n bc) (.slice pa s.pe.length pc) ∨ w.heap.size ≤ (⟨b, i, none⟩ : Addr).block := fun i => .inl (mem_fpR.2 (.inl rfl))
      refine ⟨rfl, fpR b (.slice ba n bc) (.slice none 0 0), ⟨n, .slice ba n bc, .slice none 0 0, ⟨H1.out.ok.restart keep, ?_, ((HBX.out.set 1 _).set 3 _).set 2 _, ?_, World.ownsRow_nil _ _ _ _, H1.out.hb⟩, rfl⟩, ((hw.setCell (hbm 1) _).setCell (hbm 3) _).setCell (hbm 2) _, ?_⟩
      · show n = (settleN _ _ _ _).length
        rw [settleN_length]; exact H1.out.num
      · have := own_stp HR.out ((((Stp.refl [b] wr).setCell (x := ⟨b, 1, none⟩) (.inl (by simp)) (.slice none 0 0)).setCell (x := ⟨b, 3, none⟩) (.inl (by simp)) (.bool false)).setCell (x := ⟨b, 2, none⟩) (.inl (by simp)) (.int .i64 (-1))) (fun k hk => by simpa using HNR.out k hk)
        rw [HNP.out] at this
        exact this
      · intro k hk
        rcases mem_fpR.1 hk with e | e | e
        · exact .inl (mem_fpR.2 (.inl e))
        · exact .inl (mem_fpR.2 (.inr (.inl e)))
        · cases e
end Go.Proofs.Ythckcbnendjmpaa
