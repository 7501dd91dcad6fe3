/-
  Contract of soukref05.Open.
-/
import Derived.Test.YtbpklikmldpeiaaJnRMA
namespace Go.Proofs.Ytbpklikmldpeiaa
open Go.RowKit Go.Lib

/-- the box is made -/
theorem boxed {fp : List Nat} {w w1 : World} {b : Nat} {s : DS} {v1 v : Value} {l1 ps : List (List UInt8)} {u : Nat} (h : After fp w w1 (Sep (Sep (RDr b s) (TxR v1 l1)) (TxR v ps) w1)) :
    After fp w (w1.alloc (.cells #[.pointer (some ⟨b, 0, none⟩), v, .int .i64 (u : Nat)] 39)) (RJr w1.heap.size b s v ps u (w1.alloc (.cells #[.pointer (some ⟨b, 0, none⟩), v, .int .i64 (u : Nat)] 39))) := by
  have h1 : After fp w w1 (Sep (RDr b s) (TxR v ps) w1) := h.go fun fp hp => Sep.goL (TxR.stays _ _) hp fun f hf => (After.start f hf).left
  have hb := (Below.refl w1.heap.size w1).alloc (Nat.le_refl _) (.cells #[.pointer (some ⟨b, 0, none⟩), v, .int .i64 (u : Nat)] 39)
  have hbl : BlkR w1.heap.size 39 #[.pointer (some ⟨b, 0, none⟩), v, .int .i64 (u : Nat)] (w1.alloc (.cells #[.pointer (some ⟨b, 0, none⟩), v, .int .i64 (u : Nat)] 39)) [w1.heap.size] := ⟨Blk.new w1 _ _, rfl⟩
  exact (h1.fresh (Stays.sep (RDr.stays _ _) (TxR.stays _ _)) hb hbl (fun k hk => by rw [List.mem_singleton] at hk; rw [hk]; exact Nat.le_refl _)).swap

set_option maxHeartbeats 4000000 in
set_option maxRecDepth 100000 in
theorem rOpen_any (b : Nat) (s : DS) (fp : List Nat) (w : World) (h : RDr b s w fp) (hp : s.pe = []) (hd : s.dead = false) :
    Calls Try.prog 11 #[.pointer (some ⟨b, 0, none⟩)] w fun e w' => ∃ x, OrE s x e ∧ After fp w w' (OrP b s x w') := by
  obtain ⟨ba, bc, vp, hbx, _, _⟩ := h.box
  rw [hd] at hbx
  have hlen := h.ok.len
  have HH := Lib.hid h
  have HPE := Lib.hid hp
  have HDD := Lib.hid hd
  obtain ⟨bl, hbl⟩ : ∃ bl, bl = s.bl := ⟨_, rfl⟩
  obtain ⟨n, hn⟩ : ∃ n, n = bl.length := ⟨_, rfl⟩
  rw [← hbl, ← hn] at hbx hlen
  have HBL := Lib.hid hbl
  have HN := Lib.hid hn
  have HBX := Lib.hid hbx
  have c3 : w.cell? ⟨b, 3, none⟩ = some (.bool false) := hbx.cell 3
  have HEM := fun W => Lib.hid (rEmpty_any W)
  obtain ⟨B, hB⟩ : ∃ B, B = w.heap.size := ⟨_, rfl⟩
  have HBS := Lib.hid hB
  clear h hp hd hbl hn hbx hB
  go_enter Try.func11, Try.ntmps11
  go_wp2
  go_loopg [4, 5, 6, 7, 28] n (fun gk al i _ _ _ wr => ∃ (j : Nat) (v : Value), j ≤ n ∧ i = .int .i64 j ∧ al = v ∧ n - j ≤ gk ∧ Hid (wr.ownsRow B 9 1 v j (sv (bl.take j))) ∧ Hid (Below B w wr))
  case atStart => exact ⟨0, .slice none 0 0, Nat.zero_le _, rfl, rfl, by omega, World.ownsRow_nil _ _ _ _, Below.refl _ _⟩
  case round =>
    obtain ⟨j, v, hj, rfl, rfl, hgk, HO, HB⟩ := hrel
    obtain ⟨va, vc, rfl⟩ := own_slice HO.out
    have hb' : Below w.heap.size w wr := by rw [← HBS.out]; exact HB.out
    have hR := (RDr.stays b s).since HH.out hb'
    have c0 : wr.cell? ⟨b, 0, none⟩ = some (.slice ba n bc) := (HBX.out.since hb').cell 0
    have hBs : B ≤ wr.heap.size := Nat.le_trans (Nat.le_of_eq HBS.out) HB.out.size
    by_cases hlt : j < n
    · obtain ⟨x, hx⟩ : ∃ x, bl[j]? = some x := ⟨_, List.getElem?_eq_getElem (by rw [← HN.out]; exact hlt)⟩
      have H2 := rRead_any 0 b s fp j wr hR (by rw [HPE.out]; decide)
      rw [read_none HPE.out HDD.out (by rw [← HBL.out]; exact hx)] at H2
      have H2 := Lib.hid H2
      have hjz : (j : Int) < (n : Int) := by omega
      have hsv : sv (bl.take (j + 1)) = sv (bl.take j) ++ [.string (st x)] := by
        obtain ⟨h1, h2⟩ := List.getElem?_eq_some_iff.1 hx
        rw [List.take_succ_eq_append_getElem h1, h2]; simp [sv]
      have HSV := Lib.hid hsv
      clear hR hx hsv hb'
      go_wp2_with fail
      with_reducible refine H2.out.mono ?_
      rintro e w2 ⟨rfl, rfl⟩
      clear H2
      go_wp2_with (at_builtin; refine wpList_append_one rfl (.tmp 34) (.tmp 36) 22 rfl B 9 (.string ⟨#[]⟩) 16 Try.underlying22 infoStr rfl _ (.string (st x)) rfl (.slice va j vc) j (sv (bl.take j)) rfl rfl HO.out hBs (by unfold maxLen; omega) (by omega) ?_; intro v1 w2 hown1 hbel1)
      have HO2 := Lib.hid hown1
      rw [← HSV.out] at HO2
      have HB2 := Lib.hid (HB.out.trans hbel1)
      clear hown1 hbel1
      go_wp2
      go_roundg (n - (j + 1))
      case measure => omega
      case rel => exact ⟨j + 1, v1, by omega, by go_num, rfl, by omega, HO2.out, HB2.out⟩
    · have e : j = n := by omega
      subst e
      have hown := HO.out
      rw [List.take_of_length_le (by rw [← HN.out]; exact Nat.le_refl _)] at hown
      have hcap : j ≤ vc := by
        rcases hown.2 with ⟨h1, h2⟩ | ⟨g, cap, cur, hv, _, _, h3, _⟩
        · omega
        · injection hv with _ _ h4
          rw [h4]; exact h3
      have hcap2 : vc ≤ 9223372036854775807 := by
        rcases hown.2 with ⟨h1, h2⟩ | ⟨g, cap, cur, hv, _, _, _, h3, _⟩
        · injection h1 with _ _ h4; omega
        · injection hv with _ _ h4
          rw [h4]; exact h3
      have hrow := RowS.of_own hown
      rw [HN.out] at hown
      obtain ⟨hr1, hf1⟩ := TxR.of hown
      rw [← HN.out] at hr1 hf1
      have HA1 := Lib.hid ((After.start fp HH.out).fresh (RDr.stays b s) hb' hr1 (fun k hk => by rw [← HBS.out]; exact hf1 k hk))
      have H3 := rRecords_any va vc bl wr hrow (by rw [← HN.out]; exact hlen) (by rw [← HN.out]; exact hcap) hcap2
      rw [← HN.out] at H3
      have H3 := Lib.hid H3
      clear hown hr1 hf1 hrow hR hgk hb' hlt
      go_wp2_with fail
      with_reducible refine H3.out.mono ?_
      rintro e w2 ⟨ps, u, v, hrecs, rfl, hb2, hown⟩
      obtain ⟨hr2, hf2⟩ := TxR.of hown
      obtain ⟨va2, vc2, rfl⟩ := hr2.form
      have HA2 := Lib.hid (HA1.out.fresh (Stays.sep (RDr.stays b s) (TxR.stays _ _)) hb2 hr2 hf2)
      have hu : u ≤ j := by rw [HN.out]; exact hrecs.lead.le
      have HRC : Hid (Recs 0 s.bl ps u) := by rw [← HBL.out]; exact hrecs
      have hdl := dirtyTo_length bl u
      have HDL := Lib.hid hdl
      obtain ⟨R, hR⟩ : ∃ R, R = s.clear u := ⟨_, rfl⟩
      have HRE := Lib.hid hR
      unfold DS.clear at hR
      rw [← HBL.out, ← HN.out] at hR
      have HRR := Lib.hid hR
      clear hown hr2 hf2 hb2 hrecs H3 hdl hR
      go_wp2_with fail
      with_reducible refine (HEM _).out.mono ?_
      rintro e w3 ⟨rfl, rfl⟩
      go_wp2
      go_loopg [10, 12, 13] j (fun gk wf i _ wr => ∃ k : Nat, u ≤ k ∧ k ≤ j ∧ i = .int .i64 k ∧ j - k ≤ gk ∧ wf = .bool (decide (dirtyTo bl u k ≠ [])) ∧ Hid ((s.writes (zw (dirtyTo bl u k))).2 = 0) ∧ Hid (After fp w wr (Sep (Sep (RDr b (s.writes (zw (dirtyTo bl u k))).1) (TxR (.slice va j vc) bl)) (TxR (.slice va2 ps.length vc2) ps) wr)))
      case atStart => exact ⟨u, Nat.le_refl _, hu, rfl, by omega, by rw [dirtyTo_start]; rfl, by rw [dirtyTo_start]; rfl, by rw [dirtyTo_start]; exact HA2.out⟩
      case round =>
        obtain ⟨k, huk, hk, rfl, hgk, rfl, HZ, HA⟩ := hrel
        have hpl := s.writes_pe (zw (dirtyTo bl u k))
        have hdj := HDL.out k
        rw [zw_length, HPE.out] at hpl
        simp only [List.length_nil] at hpl
        by_cases hlt : k < j
        · obtain ⟨x, hx⟩ : ∃ x, bl[k]? = some x := ⟨_, List.getElem?_eq_getElem (by rw [← HN.out]; exact hlt)⟩
          obtain ⟨bb, off, ea, hc⟩ := HA.out.left.right.know (fun _ hp => hp.row) (by rw [← HN.out]; omega)
          subst ea
          have cj := hc k x hx
          have hjz : (0 : Int) ≤ (k : Int) := by omega
          have hjn : (k : Int) < (j : Int) := by omega
          by_cases hz : x = z64
          · have hd := dirtyTo_no (u := u) hx hz
            subst hz
            have HD := Lib.hid hd
            clear hc hx hd
            go_wp2
            go_roundg (j - (k + 1))
            case measure => omega
            case rel => exact ⟨k + 1, by omega, by omega, by go_num, by omega, by rw [HD.out], by rw [HD.out]; exact HZ.out, by rw [HD.out]; exact HA.out⟩
          · have hd := dirtyTo_yes hx hz huk
            have hne := st_neb hz
            have hw1 := s.writes_snoc (zw (dirtyTo bl u k)) (k, z64)
            rw [if_pos HZ.out, ← zw_snoc, ← hd] at hw1
            have H1 := HA.out.call1 (f := 24) (args := #[.pointer (some ⟨b, 0, none⟩), .int .i64 (k : Int), .string (st z64)]) (p := Try.prog) fun fp hp => Sep.callL1 (TxR.stays _ _) hp fun f hf => Sep.callL1 (TxR.stays _ _) hf fun f hf => rWrite_any 0 b _ f (k : Int) z64 wr hf (by omega)
            rw [← hw1] at H1
            have H1 := Lib.hid H1
            obtain ⟨t, ht⟩ : ∃ t, t = (s.writes (zw (dirtyTo bl u (k + 1)))).2 := ⟨_, rfl⟩
            rw [← ht] at H1
            have HT := Lib.hid ht
            have hne2 : dirtyTo bl u (k + 1) ≠ [] := by rw [hd]; simp
            have HNE : Hid (decide (dirtyTo bl u (k + 1) ≠ []) = true) := decide_eq_true hne2
            clear hc hx hw1 ht hd hne2 hz
            by_cases h0 : t = 0
            · subst h0
              go_wp2_with fail
              with_reducible refine H1.out.mono ?_
              rintro e w2 ⟨rfl, ha2⟩
              have HA2 := Lib.hid ha2
              clear ha2 H1
              go_wp2
              go_roundg (j - (k + 1))
              case measure => omega
              case rel => exact ⟨k + 1, by omega, by omega, by go_num, by omega, by rw [HNE.out], HT.out.symm, HA2.out⟩
            · have tn : (t == 0) = false := by rw [beq_eq_false_iff_ne]; exact h0
              have HE := Lib.hid (s.wsync_dirty_fails (u := u) (ls := bl) (k := k + 1) (n := j) (by omega) (by rw [← HT.out]; exact h0))
              have HT0 := Lib.hid h0
              clear h0
              go_wp2_with fail
              with_reducible refine H1.out.mono ?_
              rintro e w2 ⟨rfl, ha2⟩
              have HA2 := Lib.hid ha2.left.left
              clear ha2 H1
              go_wp2
              go_ret2
              have hR := HRR.out
              rw [if_neg HE.out.1, HE.out.2, HRE.out] at hR
              refine ⟨⟨ps, u, 0, .slice va2 ps.length vc2⟩, ⟨HRC.out, ?_⟩, ?_⟩
              · rw [hR, ← HT.out, if_neg HT0.out]; rfl
              · unfold OrP
                rw [hR, ← HT.out, if_neg HT0.out]
                exact HA2.out
        · have e : k = j := by omega
          subst e
          by_cases hd : dirtyTo bl u k = []
          · have hdd : decide (dirtyTo bl u k ≠ []) = false := decide_eq_false (by simpa using hd)
            rw [hdd]
            have hA := HA.out
            rw [hd] at hA
            have HA2 := Lib.hid hA
            have hR := HRR.out
            rw [if_pos hd, HRE.out] at hR
            have HR2 := Lib.hid hR
            clear hgk hd hdd hA hR
            go_wp2
            go_ret2
            refine ⟨⟨ps, u, wr.heap.size, .slice va2 ps.length vc2⟩, ⟨HRC.out, ?_⟩, ?_⟩
            · rw [HR2.out]; rfl
            · unfold OrP
              rw [HR2.out]
              exact boxed HA2.out
          · have hdd : decide (dirtyTo bl u k ≠ []) = true := decide_eq_true hd
            have H1 := HA.out.call1 (f := 26) (args := #[.pointer (some ⟨b, 0, none⟩)]) (p := Try.prog) fun fp hp => Sep.callL1 (TxR.stays _ _) hp fun f hf => Sep.callL1 (TxR.stays _ _) hf fun f hf => rSync_any 0 b _ f wr hf (Nat.le_trans (show _ ≤ 1000000 by omega) (by decide))
            have hws : s.wsync (zw (dirtyTo bl u k)) = (s.writes (zw (dirtyTo bl u k))).1.sync := by unfold DS.wsync; rw [if_pos HZ.out]
            rw [← hws] at H1
            have hR := HRR.out
            rw [if_neg hd, HRE.out] at hR
            rw [← hR] at H1
            have H1 := Lib.hid H1
            rw [hdd]
            obtain ⟨t, ht⟩ : ∃ t, t = (s.clear u).2 := ⟨_, rfl⟩
            rw [← ht] at H1
            have HT := Lib.hid ht
            clear hgk hws hd hdd ht hR
            by_cases h0 : t = 0
            · subst h0
              go_wp2_with fail
              with_reducible refine H1.out.mono ?_
              rintro e w2 ⟨rfl, ha2⟩
              have HA2 := Lib.hid ha2
              clear ha2 H1
              go_wp2
              go_ret2
              refine ⟨⟨ps, u, w2.heap.size, .slice va2 ps.length vc2⟩, ⟨HRC.out, ?_⟩, ?_⟩
              · rw [if_pos HT.out.symm]; rfl
              · unfold OrP
                rw [if_pos HT.out.symm]
                exact boxed HA2.out
            · have tn : (t == 0) = false := by rw [beq_eq_false_iff_ne]; exact h0
              have HT2 : Hid (¬ (s.clear u).2 = 0) := by rw [← HT.out]; exact h0
              clear h0
              go_wp2_with fail
              with_reducible refine H1.out.mono ?_
              rintro e w2 ⟨rfl, ha2⟩
              have HA2 := Lib.hid ha2.left.left
              clear ha2 H1
              go_wp2
              go_ret2
              refine ⟨⟨ps, u, 0, .slice va2 ps.length vc2⟩, ⟨HRC.out, ?_⟩, ?_⟩
              · rw [if_neg HT2.out, ← HT.out]; rfl
              · unfold OrP
                rw [if_neg HT2.out]
                exact HA2.out
end Go.Proofs.Ytbpklikmldpeiaa
