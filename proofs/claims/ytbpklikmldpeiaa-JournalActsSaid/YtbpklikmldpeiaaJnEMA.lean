/-
  Contract of journal.Journal.Append.
-/
import Derived.Test.YtbpklikmldpeiaaJnDMA
import Derived.Deep.RegionHeld3
namespace Go.Proofs.Ytbpklikmldpeiaa
open Go.RowKit Go.Lib

theorem append_nil (p : List UInt8) (w : World) : Calls Try.prog 12 #[.pointer none, .string (st p)] w fun e w' => e = .returned (.int .i64 1) ∧ w = w' := by
  go_enter Try.func12, Try.ntmps12
  go_wp2
  go_ret
  exact ⟨rfl, rfl⟩

/-- how many records, and blocks, there are behind an Append -/
def nAfter (r : DS × Int) (n : Nat) : Nat := if r.2 = 0 then n + 1 else n
def uAfter (r : DS × Int) (u c : Nat) : Nat := if r.2 = 0 then u + c else u

set_option maxHeartbeats 4000000 in
set_option maxRecDepth 100000 in
theorem append_any (jb b n u : Nat) (s : DS) (p : List UInt8) (fp : List Nat) (w : World) (h : PJr jb b s n u w fp) (hpe : s.pe.length ≤ 100000) (hu : u ≤ s.bl.length) (hn : n ≤ 1000000) (hp : p.length ≤ 100000000) :
    Calls Try.prog 12 #[.pointer (some ⟨jb, 0, none⟩), .string (st p)] w fun e w' => e = .returned (.int .i64 (s.app n u p).2) ∧ After fp w w' (PJr jb b (s.app n u p).1 (nAfter (s.app n u p) n) (uAfter (s.app n u p) u (cnt p.length)) w') := by
  have c0 : w.cell? ⟨jb, 0, none⟩ = some (.pointer (some ⟨b, 0, none⟩)) := h.box.cell 0
  have c1 : w.cell? ⟨jb, 1, none⟩ = some (.int .i64 n) := h.box.cell 1
  have c2 : w.cell? ⟨jb, 2, none⟩ = some (.int .i64 u) := h.box.cell 2
  obtain ⟨f, hd⟩ := h.disk
  have hlen := hd.ok.len
  have H1 := Lib.hid (dead_any 0 b s f w hd)
  obtain ⟨R, hR⟩ : ∃ R, R = s.app n u p := ⟨_, rfl⟩
  rw [← hR]
  have HRR := Lib.hid hR
  have HU := Lib.hid hu
  have HPE := Lib.hid hpe
  obtain ⟨m, hm⟩ : ∃ m, m = s.bl.length := ⟨_, rfl⟩
  have HM := Lib.hid hm
  rw [← hm] at hu hlen
  have HJ := Lib.hid h
  clear h hd hR hpe hm
  by_cases hdd : s.dead = true
  · have HE : Hid (R = (s, 7)) := by show _ = _; rw [HRR.out]; unfold DS.app; rw [if_pos hdd]
    rw [hdd] at H1
    clear hdd
    go_enter Try.func12, Try.ntmps12
    go_wp2_with fail
    with_reducible refine H1.out.mono ?_
    rintro e w1 ⟨rfl, rfl⟩
    go_wp2
    go_ret
    rw [HE.out]
    exact ⟨rfl, After.start fp HJ.out⟩
  · have hdf : s.dead = false := by simpa using hdd
    rw [hdf] at H1
    by_cases hrec : recOK ((n : Nat) : Int) p
    · have H2 := Lib.hid (pack_yes n p w hrec)
      have hc := cnt_pos hrec
      have hbl := blks_length n p
      obtain ⟨c, hcc⟩ : ∃ c, c = cnt p.length := ⟨_, rfl⟩
      rw [← hcc] at H2 hc hbl ⊢
      have HC := Lib.hid hcc
      have HBLN := Lib.hid hbl
      have HREC := Lib.hid hrec
      have HDF := Lib.hid hdf
      clear hdd hrec hcc hbl hdf
      by_cases hfull : m < u + c
      · have HE : Hid (R = (s, 6)) := by show _ = _; rw [HRR.out]; unfold DS.app; rw [if_neg (by rw [HDF.out]; decide), if_neg (by simpa using HREC.out), if_pos (by rw [← HM.out, ← HC.out]; exact hfull)]
        have hf2 : ((m : Int) - (u : Int)) < (c : Int) := by omega
        clear hfull
        go_enter Try.func12, Try.ntmps12
        go_wp2_with fail
        with_reducible refine H1.out.mono ?_
        rintro e w1 ⟨rfl, rfl⟩
        go_wp2_with fail
        with_reducible refine H2.out.mono ?_
        rintro e w1 ⟨g, rfl, hb1, hown⟩
        have HA1 := Lib.hid ((After.start fp HJ.out).since (PJr.stays _ _ _ _ _) hb1)
        have H3 := Lib.hid (jnLeft_any jb b s n u fp w1 ((PJr.stays _ _ _ _ _).since HJ.out hb1) HU.out)
        rw [← HM.out] at H3
        clear hb1 hown H1 H2 c0 c1 c2
        go_wp2_with fail
        with_reducible refine H3.out.mono ?_
        rintro e w2 ⟨rfl, q, rfl⟩
        have HA2 := Lib.hid (HA1.out.drewN (PJr.stays _ _ _ _ _) q)
        go_wp2
        go_ret
        rw [HE.out]
        exact ⟨rfl, HA2.out⟩
      · have hf2 : ¬ ((m : Int) - (u : Int)) < (c : Int) := by omega
        have HE : Hid (R = s.wsync (putTo u (blks n p) c)) := by show _ = _; rw [HRR.out]; unfold DS.app; rw [if_neg (by rw [HDF.out]; decide), if_neg (by simpa using HREC.out), if_neg (by rw [← HM.out, ← HC.out]; exact hfull), ← HC.out]
        clear hfull
        go_enter Try.func12, Try.ntmps12
        go_wp2_with fail
        with_reducible refine H1.out.mono ?_
        rintro e w1 ⟨rfl, rfl⟩
        go_wp2_with fail
        with_reducible refine H2.out.mono ?_
        rintro e w1 ⟨g, rfl, hb1, hown⟩
        have HJ1 := Lib.hid ((PJr.stays _ _ _ _ _).since HJ.out hb1)
        have H3 := Lib.hid (jnLeft_any jb b s n u fp w1 HJ1.out HU.out)
        rw [← HM.out] at H3
        rw [← HBLN.out] at hown
        obtain ⟨hr1, hf1⟩ := TxR.of hown
        have HA1 := Lib.hid ((After.start fp HJ.out).fresh (PJr.stays _ _ _ _ _) hb1 hr1 hf1)
        clear hb1 hown hr1 hf1 H1 H2 c0 c1 c2
        go_wp2_with fail
        with_reducible refine H3.out.mono ?_
        rintro e w2 ⟨rfl, q, rfl⟩
        have HA2 : Hid (After fp w (w1.drewN q) (Sep (BlkR jb 70 #[.pointer (some ⟨b, 0, none⟩), .int .i64 n, .int .i64 u]) (Sep (PDr b s) (TxR (.slice (some ⟨g, 0, none⟩) (blks n p).length c) (blks n p))) (w1.drewN q))) := by
          have := (HA1.out.drewN (Stays.sep (PJr.stays _ _ _ _ _) (TxR.stays _ _)) q).into fun _ hp => hp.assoc
          rw [HBLN.out] at this ⊢
          exact this
        generalize w1.drewN q = W at HA2 ⊢
        have hbx := HA2.out.left.know fun _ hp => hp.1
        have c0 : W.cell? ⟨jb, 0, none⟩ = some (.pointer (some ⟨b, 0, none⟩)) := hbx.cell 0
        have c2 : W.cell? ⟨jb, 2, none⟩ = some (.int .i64 u) := hbx.cell 2
        have H4 : ∀ W', Below W.heap.size W W' → Hid (Calls Try.prog 34 #[.pointer (some ⟨b, 0, none⟩), .int .i64 u, .slice (some ⟨g, 0, none⟩) c c] W' fun e w' => e = .returned (.int .i64 R.2) ∧ After fp w w' (Sep (BlkR jb 70 #[.pointer (some ⟨b, 0, none⟩), .int .i64 n, .int .i64 u]) (Sep (PDr b R.1) (TxR (.slice (some ⟨g, 0, none⟩) (blks n p).length c) (blks n p))) w')) := fun W' hb => by
          show Calls _ _ _ _ _
          rw [HE.out]
          have hA := HA2.out.since (Stays.sep (BlkR.stays _ _ _) (Stays.sep (PDr.stays _ _) (TxR.stays _ _))) hb
          rw [HBLN.out] at hA ⊢
          exact hA.call1 fun fp hp => Sep.callR1 (BlkR.stays _ _ _) hp fun f hf => writeFrom_any b u c c (some ⟨g, 0, none⟩) s (blks n p) f W' hf HBLN.out.symm (by omega) (by have := HPE.out; omega)
        have hst := H4 _ (Below.refl _ _).drew
        clear hbx HA2
        go_wp2_with fail
        go_region_held3 (fun w' => w'.cell? ⟨jb, 0, none⟩ = some (.pointer (some ⟨b, 0, none⟩)) ∧ w'.cell? ⟨jb, 2, none⟩ = some (.int .i64 u))
          (first | go_keep | exact kx)
          (first | (go_at_call 34; ((with_reducible refine hst.out.mono ?_); rintro e wx ⟨rfl, hax⟩; have kx := (⟨(hax.left.know fun _ hp => hp.1).cell 0, (hax.left.know fun _ hp => hp.1).cell 2⟩ : wx.cell? ⟨jb, 0, none⟩ = some (.pointer (some ⟨b, 0, none⟩)) ∧ wx.cell? ⟨jb, 2, none⟩ = some (.int .i64 u)); have HX := Lib.hid hax; clear hax)))
        have hbx := HX.out.left.know fun _ hp => hp.1
        have d1 : wx.cell? ⟨jb, 1, none⟩ = some (.int .i64 n) := hbx.cell 1
        have d2 : wx.cell? ⟨jb, 2, none⟩ = some (.int .i64 u) := hbx.cell 2
        have f1 := hbx.frozen 1
        have f2 := hbx.frozen 2
        have HX1 : Hid (After fp w wx (PJr jb b R.1 n u wx)) := HX.out.goR (BlkR.stays _ _ _) fun f hf => (After.start f hf).left
        clear hbx kx HX hst H4
        obtain ⟨t, ht⟩ : ∃ t, t = R.2 := ⟨_, rfl⟩
        rw [← ht]
        have HT := Lib.hid ht
        clear ht
        by_cases h0 : t = 0
        · subst h0
          go_wp2
          go_ret
          refine ⟨by rw [← HT.out]; rfl, ?_⟩
          unfold nAfter uAfter
          rw [if_pos HT.out.symm, if_pos HT.out.symm]
          have h1 := HX1.out.goL (PDr.stays _ _) fun f hf => hf.set 1 (.int .i64 ((n : Int) + 1))
          have h2 := h1.goL (PDr.stays _ _) fun f hf => hf.set 2 (.int .i64 ((u : Int) + (c : Int)))
          exact h2
        · have tn : (t == 0) = false := by rw [beq_eq_false_iff_ne]; exact h0
          have HT2 : Hid (¬ R.2 = 0) := by rw [← HT.out]; exact h0
          clear h0
          go_wp2
          go_ret
          refine ⟨by rw [← HT.out]; rfl, ?_⟩
          unfold nAfter uAfter
          rw [if_neg HT2.out, if_neg HT2.out]
          exact HX1.out
    · have H2 := Lib.hid (pack_no (n : Int) p w hp hrec)
      have HE : Hid (R = (s, 1)) := by show _ = _; rw [HRR.out]; unfold DS.app; rw [if_neg (by rw [hdf]; decide), if_pos hrec]
      clear hdd hdf hrec
      go_enter Try.func12, Try.ntmps12
      go_wp2_with fail
      with_reducible refine H1.out.mono ?_
      rintro e w1 ⟨rfl, rfl⟩
      go_wp2_with fail
      with_reducible refine H2.out.mono ?_
      rintro e w1 ⟨rfl, rfl⟩
      go_wp2
      go_ret
      rw [HE.out]
      exact ⟨rfl, After.start fp HJ.out⟩
end Go.Proofs.Ytbpklikmldpeiaa
