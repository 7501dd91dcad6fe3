/-
  Contract of soukref05.Journal.Append.
-/
import Derived.Test.YtbpklikmldpeiaaJnSMA
import Derived.Test.YtbpklikmldpeiaaJnEMA
namespace Go.Proofs.Ytbpklikmldpeiaa
open Go.RowKit Go.Lib

def psAfter (r : DS × Int) (ps : List (List UInt8)) (p : List UInt8) : List (List UInt8) := if r.2 = 0 then ps ++ [p] else ps

set_option maxHeartbeats 4000000 in
set_option maxRecDepth 100000 in
theorem rAppend_any (kb rb u : Nat) (v : Value) (s : DS) (ps : List (List UInt8)) (p : List UInt8) (fp : List Nat) (w : World) (h : RJr kb rb s v ps u w fp) (hpe : s.pe.length ≤ 100000) (hu : u ≤ s.bl.length) (hn : ps.length ≤ 1000000) (hp : p.length ≤ 100000000) :
    Calls Try.prog 13 #[.pointer (some ⟨kb, 0, none⟩), .string (st p)] w fun e w' => ∃ x : Value, e = .returned (.int .i64 (s.app ps.length u p).2) ∧ After fp w w' (RJr kb rb (s.app ps.length u p).1 x (psAfter (s.app ps.length u p) ps p) (uAfter (s.app ps.length u p) u (cnt p.length)) w') := by
  have h' := h
  obtain ⟨f1, f2, ⟨hbx, _⟩, ⟨f3, f4, hd, ht, _⟩, _⟩ := h'
  obtain ⟨va, vc, rfl⟩ := ht.form
  have hlen := hd.ok.len
  obtain ⟨ba, bc, vp, hrb, _⟩ := hd.box
  have c0 : w.cell? ⟨kb, 0, none⟩ = some (.pointer (some ⟨rb, 0, none⟩)) := hbx.cell 0
  have c1 : w.cell? ⟨kb, 1, none⟩ = some (.slice va ps.length vc) := hbx.cell 1
  have r3 : w.cell? ⟨rb, 3, none⟩ = some (.bool s.dead) := hrb.cell 3
  obtain ⟨R, hR⟩ : ∃ R, R = s.app ps.length u p := ⟨_, rfl⟩
  rw [← hR]
  have HRR := Lib.hid hR
  have HU := Lib.hid hu
  have HPE := Lib.hid hpe
  obtain ⟨m, hm⟩ : ∃ m, m = s.bl.length := ⟨_, rfl⟩
  have HM := Lib.hid hm
  rw [← hm] at hu hlen
  have HJ := Lib.hid h
  obtain ⟨n, hnn⟩ : ∃ n, n = ps.length := ⟨_, rfl⟩
  have HN := Lib.hid hnn
  rw [← hnn] at c1 hn
  clear h hd hR hpe hm hnn hbx ht hrb
  by_cases hdd : s.dead = true
  · have HE : Hid (R = (s, 7)) := by show _ = _; rw [HRR.out]; unfold DS.app; rw [if_pos hdd]
    rw [hdd] at r3
    clear hdd
    go_enter Try.func13, Try.ntmps13
    go_wp2
    go_ret
    rw [HE.out]
    exact ⟨_, rfl, After.start fp HJ.out⟩
  · have hdf : s.dead = false := by simpa using hdd
    rw [hdf] at r3
    by_cases hrec : recOK ((n : Nat) : Int) p
    · have H2 := Lib.hid (rBlocks_yes n p w hrec)
      have hc := cnt_pos hrec
      have hbl := blks_length n p
      obtain ⟨c, hcc⟩ : ∃ c, c = cnt p.length := ⟨_, rfl⟩
      rw [← hcc] at H2 hc hbl ⊢
      have HC := Lib.hid hcc
      have HBLN := Lib.hid hbl
      have HREC := Lib.hid hrec
      have HDF := Lib.hid hdf
      clear hdd hrec hcc hbl hdf
      go_enter Try.func13, Try.ntmps13
      go_wp2_with fail
      with_reducible refine H2.out.mono ?_
      rintro e w1 ⟨lv, rfl, hb1, hown⟩
      rw [← HBLN.out] at hown
      obtain ⟨hr1, hf1⟩ := TxR.of hown
      obtain ⟨la, lc, rfl⟩ := hr1.form
      have HA1 := Lib.hid ((After.start fp HJ.out).fresh (RJr.stays _ _ _ _ _ _) hb1 hr1 hf1)
      have hbx1 := HA1.out.left.left.know fun _ hp => hp.1
      have d0 : w1.cell? ⟨kb, 0, none⟩ = some (.pointer (some ⟨rb, 0, none⟩)) := hbx1.cell 0
      have d2 : w1.cell? ⟨kb, 2, none⟩ = some (.int .i64 u) := hbx1.cell 2
      obtain ⟨ba, bc, vp, hrb, _⟩ := HA1.out.left.right.left.know fun _ hp => hp.box
      rw [← HM.out] at hrb
      have q0 : w1.cell? ⟨rb, 0, none⟩ = some (.slice ba m bc) := hrb.cell 0
      rw [HBLN.out]
      clear hb1 hown hr1 hf1 H2 c0 c1 r3 hbx1 hrb
      by_cases hfull : m < u + c
      · have HE : Hid (R = (s, 6)) := by show _ = _; rw [HRR.out, ← HN.out]; unfold DS.app; rw [if_neg (by rw [HDF.out]; decide), if_neg (by simpa using HREC.out), if_pos (by rw [← HM.out, ← HC.out]; exact hfull)]
        have hf2 : (m : Int) < (u : Int) + (c : Int) := by omega
        clear hfull
        go_wp2
        go_quiet (fail)
        go_wp2
        go_ret
        rw [HE.out]
        exact ⟨_, rfl, (HA1.out.drewN (Stays.sep (RJr.stays _ _ _ _ _ _) (TxR.stays _ _)) _).left⟩
      · have hf2 : ¬ (m : Int) < (u : Int) + (c : Int) := by omega
        have HE : Hid (R = s.wsync (putTo u (blks n p) c)) := by show _ = _; rw [HRR.out, ← HN.out]; unfold DS.app; rw [if_neg (by rw [HDF.out]; decide), if_neg (by simpa using HREC.out), if_neg (by rw [← HM.out, ← HC.out]; exact hfull), ← HC.out]
        clear hfull
        go_wp2
        go_quiet (fail)
        have HA2 := Lib.hid (HA1.out.drewN (Stays.sep (RJr.stays _ _ _ _ _ _) (TxR.stays _ _)) nq)
        generalize w1.drewN nq = W at HA2 ⊢
        clear HA1 d0 d2 q0
        have HW0 := Lib.hid (show W.heap.size ≤ W.heap.size from Nat.le_refl _)
        go_wp2
        go_loopg [7, 8] c (fun gk i _ wr => ∃ j : Nat, j ≤ c ∧ i = .int .i64 j ∧ c - j ≤ gk ∧ Hid ((s.writes (putTo u (blks n p) j)).2 = 0) ∧ Hid (After fp w wr (Sep (RJr kb rb (s.writes (putTo u (blks n p) j)).1 (.slice va ps.length vc) ps u) (TxR (.slice la (blks n p).length lc) (blks n p)) wr)))
        case atStart => exact ⟨0, Nat.zero_le _, rfl, by omega, rfl, HA2.out⟩
        case round =>
          obtain ⟨j, hj, rfl, hgk, HZ, HA⟩ := hrel
          have hpl := s.writes_pe (putTo u (blks n p) j)
          rw [putTo_length] at hpl
          have hbx1 := HA.out.left.left.know fun _ hp => hp.1
          have d0 : wr.cell? ⟨kb, 0, none⟩ = some (.pointer (some ⟨rb, 0, none⟩)) := hbx1.cell 0
          have d2 : wr.cell? ⟨kb, 2, none⟩ = some (.int .i64 u) := hbx1.cell 2
          by_cases hlt : j < c
          · obtain ⟨x, hx⟩ : ∃ x, (blks n p)[j]? = some x := ⟨_, List.getElem?_eq_getElem (by rw [HBLN.out]; exact hlt)⟩
            obtain ⟨bb, off, ea, hcc⟩ := HA.out.right.know (fun _ hp => hp.row) (by rw [HBLN.out]; omega)
            subst ea
            have cj := hcc j x hx
            have hw1 := s.writes_snoc (putTo u (blks n p) j) (u + j, x)
            rw [if_pos HZ.out, ← putTo_succ hx, show ((u + j : Nat) : Int) = (u : Int) + (j : Int) by omega] at hw1
            have H1 : ∀ W', Below wr.heap.size wr W' → Hid (Calls Try.prog 24 #[.pointer (some ⟨rb, 0, none⟩), .int .i64 ((u : Int) + (j : Int)), .string (st x)] W' fun e w' => e = .returned (.int .i64 (s.writes (putTo u (blks n p) (j + 1))).2) ∧ After fp w w' (Sep (RJr kb rb (s.writes (putTo u (blks n p) (j + 1))).1 (.slice va ps.length vc) ps u) (TxR (.slice (some ⟨bb, off, none⟩) (blks n p).length lc) (blks n p)) w')) := fun W' hb => by
              show Calls _ _ _ _ _
              rw [hw1]
              exact (HA.out.since (Stays.sep (RJr.stays _ _ _ _ _ _) (TxR.stays _ _)) hb).call1 fun fp hp => Sep.callL1 (TxR.stays _ _) hp fun f hf => Sep.callR1 (BlkR.stays _ _ _) hf fun f hf => Sep.callL1 (TxR.stays _ _) hf fun f hf => rWrite_any 0 rb _ f ((u : Int) + (j : Int)) x W' hf (by have := HPE.out; omega)
            have hst := H1 _ (Below.refl _ _).drew
            obtain ⟨t, ht⟩ : ∃ t, t = (s.writes (putTo u (blks n p) (j + 1))).2 := ⟨_, rfl⟩
            rw [← ht] at hst
            have HT := Lib.hid ht
            have hjz : (0 : Int) ≤ (j : Int) := by omega
            have hjn : (j : Int) < (c : Int) := by omega
            have HBX := Lib.hid hbx1
            have hwr : IntKind.i64.wrap ((u : Int) + (j : Int)) = (u : Int) + (j : Int) := IntWalk.i64_in _ (by omega)
            have HXX : Hid (∀ wx, After fp w wx (Sep (RJr kb rb (s.writes (putTo u (blks n p) (j + 1))).1 (.slice va ps.length vc) ps u) (TxR (.slice (some ⟨bb, off, none⟩) (blks n p).length lc) (blks n p)) wx) → wx.cell? ⟨kb, 0, none⟩ = some (.pointer (some ⟨rb, 0, none⟩)) ∧ wx.cell? ⟨kb, 2, none⟩ = some (.int .i64 u) ∧ wx.cell? ⟨bb, off + j, none⟩ = some (.string (st x))) := fun wx hax => by
              have b1 := hax.left.left.know fun _ hp => hp.1
              obtain ⟨bb', off', ea, hcx⟩ := hax.right.know (fun _ hp => hp.row) (by rw [HBLN.out]; omega)
              injection ea with ea
              injection ea with e1 e2
              subst e1 e2
              exact ⟨b1.cell 0, b1.cell 2, hcx j x hx⟩
            clear hcc hx hw1 ht H1 hbx1
            go_wp2_with fail
            go_region_held3 (fun w' => w'.cell? ⟨kb, 0, none⟩ = some (.pointer (some ⟨rb, 0, none⟩)) ∧ w'.cell? ⟨kb, 2, none⟩ = some (.int .i64 u) ∧ w'.cell? ⟨bb, off + j, none⟩ = some (.string (st x)))
              (first | go_keep | exact kx)
              (first | (go_at_call 24; ((with_reducible refine hst.out.mono ?_); rintro e wx ⟨rfl, hax⟩; have kx : wx.cell? ⟨kb, 0, none⟩ = some (.pointer (some ⟨rb, 0, none⟩)) ∧ wx.cell? ⟨kb, 2, none⟩ = some (.int .i64 u) ∧ wx.cell? ⟨bb, off + j, none⟩ = some (.string (st x)) := HXX.out wx hax; have HX := Lib.hid hax; clear hax)))
            clear kx hst HXX hwr
            by_cases h0 : t = 0
            · subst h0
              go_wp2
              go_roundg (c - (j + 1))
              case measure => omega
              case rel => exact ⟨j + 1, by omega, by go_num, by omega, HT.out.symm, HX.out⟩
            · have tn : (t == 0) = false := by rw [beq_eq_false_iff_ne]; exact h0
              have HF := Lib.hid (s.wsync_put_fails (u := u) (ls := blks n p) (k := j + 1) (n := c) (by omega) (by rw [← HT.out]; exact h0))
              have HT2 := Lib.hid h0
              clear h0
              go_wp2
              go_ret
              rw [← HE.out] at HF
              refine ⟨.slice va ps.length vc, by rw [HF.out, ← HT.out]; rfl, ?_⟩
              unfold psAfter uAfter
              rw [HF.out, ← HT.out, if_neg HT2.out, if_neg HT2.out]
              exact HX.out.left
          · have e : j = c := by omega
            subst e
            have H1 := HA.out.call1 (f := 26) (args := #[.pointer (some ⟨rb, 0, none⟩)]) (p := Try.prog) fun fp hp => Sep.callL1 (TxR.stays _ _) hp fun f hf => Sep.callR1 (BlkR.stays _ _ _) hf fun f hf => Sep.callL1 (TxR.stays _ _) hf fun f hf => rSync_any 0 rb _ f wr hf (Nat.le_trans (show _ ≤ 1000000 by have := HPE.out; omega) (by decide))
            have hws : s.wsync (putTo u (blks n p) j) = (s.writes (putTo u (blks n p) j)).1.sync := by unfold DS.wsync; rw [if_pos HZ.out]
            rw [← hws, ← HE.out] at H1
            have H1 := Lib.hid H1
            obtain ⟨t, ht⟩ : ∃ t, t = R.2 := ⟨_, rfl⟩
            rw [← ht] at H1
            have HT := Lib.hid ht
            clear hgk hws ht hbx1
            by_cases h0 : t = 0
            · subst h0
              go_wp2_with fail
              with_reducible refine H1.out.mono ?_
              rintro e w2 ⟨rfl, ha2⟩
              have HA3 := Lib.hid ha2
              have hbx2 := ha2.left.left.know fun _ hp => hp.1
              have e1 : w2.cell? ⟨kb, 1, none⟩ = some (.slice va n vc) := by rw [HN.out]; exact hbx2.cell 1
              have HOW : Hid (w2.ownsRow 0 9 1 (.slice va n vc) n (sv ps)) := by
                have := ha2.left.right.right.know fun _ hp => hp.1
                show w2.ownsRow _ _ _ _ _ _
                rw [HN.out]; exact this
              have HG : Hid (∀ (v' : Value) (w3 : World), w3.ownsRow 0 9 1 v' (n + 1) (sv ps ++ #[Value.string (st p)].toList) → (w2.alloc (.cells #[.string (st p)] 9)).grownBy w3 (Value.slice va n vc).ownBlock → (v'.ownBlock = (Value.slice va n vc).ownBlock ∨ v'.ownBlock = some (w2.alloc (.cells #[.string (st p)] 9)).heap.size) →
                  After fp w w3 (Sep (BlkR kb 39 #[.pointer (some ⟨rb, 0, none⟩), .slice va n vc, .int .i64 u]) (Sep (RDr rb R.1) (TxR v' (ps ++ [p]))) w3)) := fun v' w3 h1 h2 h3 => by
                have hA := (ha2.left.since (RJr.stays _ _ _ _ _ _) ((Below.refl w2.heap.size w2).alloc (Nat.le_refl _) (.cells #[.string (st p)] 9)))
                have h4 : w3.ownsRow 0 9 1 v' (ps ++ [p]).length (sv (ps ++ [p])) := by
                  rw [List.length_append, ← HN.out, show sv (ps ++ [p]) = sv ps ++ #[Value.string (st p)].toList by simp [sv]]; exact h1
                rw [HN.out] at h2 h3 ⊢
                exact hA.go fun fp hp => Sep.goR (BlkR.stays _ _ _) hp fun f hf => Sep.goR (RDr.stays _ _) hf fun f hf => TxR.grow hf h2 h4 h3
              clear ha2 H1 hbx2
              go_wp2_with (at_builtin; refine wpList_append_wide rfl (.tmp 81) (.tmp 83) 22 9 rfl 0 (.string ⟨#[]⟩) 1 16 Try.underlying22 infoStr rfl (by omega) (.slice va n vc) n _ rfl w2.heap.size 1 rfl (HOW.out.alloc _) #[.string (st p)] (Blk.new w2 _ _) rfl (by simp [Value.oneCell']) (by unfold maxLen; omega) (by omega) (Nat.zero_le _) ?_; intro v' w3 h1 h2 h3; have HA4 := Lib.hid (HG.out v' w3 h1 h2 h3); obtain ⟨a1, c1, rfl⟩ := own_slice2 h1; clear h1 h2 h3; have hbx4 := HA4.out.left.know fun _ hp => hp.1; have g1 : w3.cell? ⟨kb, 1, none⟩ = some (.slice va n vc) := hbx4.cell 1; have f1 := hbx4.frozen 1; have g2 : w3.cell? ⟨kb, 2, none⟩ = some (.int .i64 u) := hbx4.cell 2; have f2 := hbx4.frozen 2; clear hbx4)
              go_wp2
              go_ret
              refine ⟨.slice a1 (n + 1) c1, by rw [← HT.out]; rfl, ?_⟩
              unfold psAfter uAfter
              rw [if_pos HT.out.symm, if_pos HT.out.symm]
              have h5 := HA4.out.goL (Stays.sep (RDr.stays _ _) (TxR.stays _ _)) fun f hf => hf.set 1 (.slice a1 (n + 1) c1)
              have h6 := h5.goL (Stays.sep (RDr.stays _ _) (TxR.stays _ _)) fun f hf => hf.set 2 (.int .i64 ((u : Int) + (j : Int)))
              exact h6
            · have tn : (t == 0) = false := by rw [beq_eq_false_iff_ne]; exact h0
              have HT2 : Hid (¬ R.2 = 0) := by rw [← HT.out]; exact h0
              clear h0
              go_wp2_with fail
              with_reducible refine H1.out.mono ?_
              rintro e w2 ⟨rfl, ha2⟩
              have HA3 := Lib.hid ha2.left
              clear ha2 H1
              go_wp2
              go_ret
              refine ⟨.slice va ps.length vc, by rw [← HT.out]; rfl, ?_⟩
              unfold psAfter uAfter
              rw [if_neg HT2.out, if_neg HT2.out]
              exact HA3.out
    · have H2 := Lib.hid (rBlocks_no (n : Int) p w hp hrec)
      have HE : Hid (R = (s, 1)) := by show _ = _; rw [HRR.out, ← HN.out]; unfold DS.app; rw [if_neg (by rw [hdf]; decide), if_pos hrec]
      clear hdd hdf hrec
      go_enter Try.func13, Try.ntmps13
      go_wp2_with fail
      with_reducible refine H2.out.mono ?_
      rintro e w1 ⟨rfl, rfl⟩
      go_wp2
      go_ret
      rw [HE.out]
      exact ⟨_, rfl, After.start fp HJ.out⟩
end Go.Proofs.Ytbpklikmldpeiaa
