/-
  Contracts of soukref05.Disk.Sync, Read.
-/
import Derived.Test.YtbpklikmldpeiaaRDskAMA
namespace Go.Proofs.Ytbpklikmldpeiaa
open Go.RowKit Go.Lib

theorem settle1_64 (bl : List (List UInt8)) (p : Nat × List UInt8) (hp : p.2.length = 64) (hb : ∀ x ∈ bl, x.length = 64) (hlt : p.1 < bl.length) : settle1 bl p 64 = bl.set p.1 p.2 := by
  unfold settle1
  rw [List.take_of_length_le (by omega), List.getD_eq_getElem?_getD, List.getElem?_eq_getElem hlt]
  have := hb _ (List.getElem_mem hlt)
  rw [List.drop_of_length_le (by simp only [Option.getD_some]; omega), List.append_nil]

theorem sv_set (l : List (List UInt8)) (k : Nat) (x : List UInt8) : (sv l).set k (.string (st x)) = sv (l.set k x) := by unfold sv; rw [List.map_set]
theorem sv_get {l : List (List UInt8)} {k : Nat} {x : List UInt8} (h : l[k]? = some x) : (sv l)[k]? = some (.string (st x)) := by unfold sv; rw [List.getElem?_map, h]; rfl

/-- a pending write's two cells -/
theorem RDx.pend {w : World} {B : Nat} {s : DS} {vp : Value} (h : w.ownsRow B 99 2 vp s.pe.length (s.pe.flatMap cR)) {j : Nat} {p : Nat × List UInt8} (hp : s.pe[j]? = some p) :
    ∃ q c, vp = .slice (some ⟨q, 0, none⟩) s.pe.length c ∧ w.cell? ⟨q, j * 2, none⟩ = some (.int .i64 (p.1 : Nat)) ∧ w.cell? ⟨q, j * 2 + 1, none⟩ = some (.string (st p.2)) := by
  have hlt := (List.getElem?_eq_some_iff.1 hp).1
  obtain ⟨q, c, hv, hB, _⟩ := h.form (by omega)
  have key : ∀ i u, (cR p)[i]? = some u → w.cell? ⟨q, j * 2 + i, none⟩ = some u := fun i u hu => by
    have hi := (List.getElem?_eq_some_iff.1 hu).1
    have := h.cells (g := q) (by rw [hv]; rfl) (j * 2 + i) u (by rw [flatMap_get cR 2 _ (fun x _ => cR_length x) j i p hp hi]; exact hu)
    rwa [Addr.add_mid, Nat.zero_add] at this
  exact ⟨q, c, hv, key 0 _ rfl, key 1 _ rfl⟩

/-- the row of blocks, one of them -/
theorem RDx.stand {w : World} {B : Nat} {bl : List (List UInt8)} {n : Nat} {vb : Value} (h : w.ownsRow B 9 1 vb n (sv bl)) {k : Nat} {x : List UInt8} (hx : bl[k]? = some x) :
    ∃ g c, vb = .slice (some ⟨g, 0, none⟩) n c ∧ B ≤ g ∧ w.cell? ⟨g, k, none⟩ = some (.string (st x)) := by
  have hlt := (List.getElem?_eq_some_iff.1 hx).1
  have hl := h.1
  rw [sv_length] at hl
  obtain ⟨g, c, hv, hB, _⟩ := h.form (by omega)
  have := h.cells (g := g) (by rw [hv]; rfl) k _ (sv_get hx)
  rw [Addr.add_mid, Nat.zero_add] at this
  exact ⟨g, c, hv, hB, this⟩

set_option maxHeartbeats 2000000 in
theorem rSync_any (B b : Nat) (s : DS) (fp : List Nat) (w : World) (h : RD w B b s fp) (hlen : s.pe.length ≤ 4611686018427387904) :
    Calls Try.prog 26 #[.pointer (some ⟨b, 0, none⟩)] w fun e w' => e = .returned (.int .i64 s.sync.2) ∧ After fp w w' (RD w' B b s.sync.1) := by
  have c3 : w.cell? ⟨b, 3, none⟩ = some (.bool s.dead) := by
    obtain ⟨n, vb, vp, h, rfl⟩ := h
    exact h.box.cell 3
  by_cases hdd : s.dead = true
  · rw [hdd] at c3
    have HE : Hid (s.sync = (s, 7)) := by show _ = _; unfold DS.sync; rw [if_pos hdd]
    have H := Lib.hid h
    clear h hdd
    go_enter Try.func26, Try.ntmps26
    go_wp2
    go_ret
    rw [HE.out]
    exact ⟨rfl, After.of (Stp.refl _ _) H.out⟩
  · have hdd : s.dead = false := by simpa using hdd
    rw [hdd] at c3
    have HTH := Lib.hid (rThing_any B b s fp w h)
    by_cases ht : s.thing.2 = true
    · have HE : Hid (s.sync = (s.thing.1.synced, 0)) := by show _ = _; unfold DS.sync; rw [if_neg (by rw [hdd]; decide), if_pos ht]
      rw [ht] at HTH
      have hpe := s.thing_pe
      rw [← hpe] at hlen
      generalize s.thing.1 = s1 at HE HTH hlen
      clear h hdd ht hpe
      go_enter Try.func26, Try.ntmps26
      go_wp2_with fail
      refine HTH.out.mono ?_
      rintro e w1 ⟨rfl, fp1, ⟨n, vb, vp, h1, rfl⟩, hs1, hf1⟩
      obtain ⟨ba, bc, rfl⟩ := own_slice2 h1.row
      obtain ⟨pa, pc, rfl⟩ := own_slice2 h1.own
      obtain ⟨np, hnp⟩ : ∃ np, np = s1.pe.length := ⟨_, rfl⟩
      have HNP := Lib.hid hnp
      rw [← hnp] at hlen
      have HBX1 : Hid (Blk w1 b 44 #[.slice ba n bc, .slice pa np pc, .int .i64 s1.fu, .bool s1.dead]) := by rw [hnp]; exact h1.box
      have H1 := Lib.hid h1
      have HS1 := Lib.hid hs1
      have HF1 := Lib.hid hf1
      have HNR := Lib.hid (own_ne h1.row h1.box (by decide))
      have HNO := Lib.hid (own_ne_own h1.own h1.row (by decide))
      clear h1 hs1 hf1 hnp
      go_wp2
      go_loopg [4] np (fun gk i wr => ∃ j : Nat, j ≤ np ∧ i = .int .i64 j ∧ np - j ≤ gk ∧ Hid (wr.ownsRow B 9 1 (.slice ba n bc) n (sv (settleN s1.bl s1.pe (fun _ => 64) j))) ∧ Hid (Stp (Value.slice ba n bc).ownBlock.toList w1 wr))
      case atStart => exact ⟨0, Nat.zero_le _, rfl, by omega, H1.out.row, Stp.refl _ _⟩
      case round =>
        obtain ⟨j, hj, rfl, hgk, HR, HST⟩ := hrel
        have HBX := Lib.hid (HBX1.out.stp HST.out (fun hm => HNR.out b (by simpa [Option.mem_toList] using hm) rfl))
        have HOW := Lib.hid (own_stp H1.out.own HST.out (fun k hk hm => HNO.out k hk (by simpa [Option.mem_toList] using hm)))
        have d0 : wr.cell? ⟨b, 0, none⟩ = some (.slice ba n bc) := HBX.out.cell 0
        have d1 : wr.cell? ⟨b, 1, none⟩ = some (.slice pa np pc) := HBX.out.cell 1
        by_cases hlt : j < np
        · have hp : s1.pe[j]? = some (s1.pe.getD j (0, [])) := by rw [List.getD_eq_getElem?_getD, List.getElem?_eq_getElem (by rw [← HNP.out]; exact hlt)]; rfl
          generalize hpp : s1.pe.getD j (0, []) = p at hp
          obtain ⟨q, c', hv, e1, e2⟩ := RDx.pend HOW.out hp
          injection hv with hv1 hv2 hv3
          subst hv1
          have hpk := H1.out.ok.pe p (List.mem_of_getElem? hp)
          have hsl : (settleN s1.bl s1.pe (fun _ => 64) j).length = n := by rw [settleN_length, H1.out.num]
          have hsok := settleN_ok (kf := fun _ => 64) H1.out.ok.bl H1.out.ok.pe (fun _ => Nat.le_refl _) j (by rw [← HNP.out]; exact hj)
          obtain ⟨x, hx⟩ : ∃ x, (settleN s1.bl s1.pe (fun _ => 64) j)[p.1]? = some x := ⟨_, List.getElem?_eq_getElem (by rw [hsl, H1.out.num]; exact hpk.1)⟩
          obtain ⟨g, cg, hvb, hBg, e3⟩ := RDx.stand HR.out hx
          injection hvb with hvb1 _ hvb3
          subst hvb1
          have hfz := HR.out.frozenAt p.1
          have hst := HR.out.stored p.1 (.string (st p.2))
          have hse : (sv (settleN s1.bl s1.pe (fun _ => 64) j)).set p.1 (.string (st p.2)) = sv (settleN s1.bl s1.pe (fun _ => 64) (j + 1)) := by
            rw [sv_set, settleN, hpp, settle1_64 _ p hpk.2 hsok (by rw [hsl, H1.out.num]; exact hpk.1)]
          rw [hse] at hst
          have HSO := Lib.hid hst.1
          have HST2 : Hid (Stp (Value.slice (some ⟨g, 0, none⟩) n bc).ownBlock.toList w1 (wr.setCell ⟨g, p.1, none⟩ (.string (st p.2)))) := HST.out.setCell (x := ⟨g, p.1, none⟩) (.inl (by simp [Value.ownBlock])) _
          have hjz : (0 : Int) ≤ (j : Int) := by omega
          have hjn : (j : Int) < (np : Int) := by omega
          obtain ⟨i, d⟩ := p
          simp only at e1 e2 e3 hfz HSO HST2 hpk
          have hin : (i : Int) < (n : Int) := by rw [H1.out.num]; have := hpk.1; omega
          have hiz : (0 : Int) ≤ (i : Int) := by omega
          have hnm : n ≤ 65536 := by rw [H1.out.num]; exact H1.out.ok.len
          clear hp hpp hpk hsl hsok hx hst hse hv2 hv3 hBg hvb3
          go_wp2
          go_region
          go_wp2
          go_roundg (np - (j + 1))
          case measure => omega
          case rel => exact ⟨j + 1, by omega, by go_num, by omega, HSO.out, HST2.out.drew⟩
        · have e : j = np := by omega
          subst e
          have f1 := HBX.out.frozen 1
          clear hgk
          go_wp2
          go_ret
          rw [HE.out]
          have hw : Stp (fpR b (.slice ba n bc) (.slice pa s1.pe.length pc)) w1 wr := HST.out.wider (fun k hk => mem_fpR.2 (.inr (.inl (by simpa [Option.mem_toList] using hk))))
          refine ⟨rfl, After.step HS1.out HF1.out ⟨fpR b (.slice ba n bc) (.slice none 0 0), ⟨n, .slice ba n bc, .slice none 0 0, ⟨H1.out.ok.synced, ?_, HBX.out.set 1 _, ?_, World.ownsRow_nil _ _ _ _, H1.out.hb⟩, rfl⟩, hw.setCell (x := ⟨b, 1, none⟩) (.inl (mem_fpR.2 (.inl rfl))) _, ?_⟩⟩
          · show n = (settleN _ _ _ _).length
            rw [settleN_length]; exact H1.out.num
          · have := own_stp HR.out ((Stp.refl [b] wr).setCell (x := ⟨b, 1, none⟩) (.inl (by simp)) (.slice none 0 0)) (fun k hk => by simpa using HNR.out k hk)
            rw [HNP.out] at this
            exact this
          · intro k hk
            rcases mem_fpR.1 hk with e | e | e
            · exact .inl (mem_fpR.2 (.inl e))
            · exact .inl (mem_fpR.2 (.inr (.inl e)))
            · cases e
    · have ht : s.thing.2 = false := by simpa using ht
      have HE : Hid (s.sync = (s.thing.1, 7)) := by show _ = _; unfold DS.sync; rw [if_neg (by rw [hdd]; decide), if_neg (by rw [ht]; decide)]
      rw [ht] at HTH
      clear h hdd ht
      go_enter Try.func26, Try.ntmps26
      go_wp2_with fail
      refine HTH.out.mono ?_
      rintro e w1 ⟨rfl, haf⟩
      have HAF := Lib.hid haf
      clear haf
      go_wp2
      go_ret
      rw [HE.out]
      exact ⟨rfl, HAF.out⟩
end Go.Proofs.Ytbpklikmldpeiaa
