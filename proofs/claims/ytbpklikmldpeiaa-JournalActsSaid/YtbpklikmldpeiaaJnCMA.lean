/-
  Contracts of journal.writeFrom, clearBehind.
-/
import Derived.Test.YtbpklikmldpeiaaJnBMA
namespace Go.Proofs.Ytbpklikmldpeiaa
open Go.RowKit Go.Lib

/-- a row of texts of one's own -/
def TxR (v : Value) (ls : List (List UInt8)) : World → List Nat → Prop := OwnR 9 1 v ls.length (sv ls)
theorem TxR.stays (v : Value) (ls : List (List UInt8)) : Stays (TxR v ls) := OwnR.stays _ _ _ _ _
theorem TxR.row {a : Option Addr} {n c : Nat} {ls : List (List UInt8)} {w : World} {fp : List Nat} (h : TxR (.slice a n c) ls w fp) : RowS w a ls := by
  obtain ⟨h, _⟩ := h
  obtain ⟨a', c', e⟩ := own_slice h
  injection e with e1 e2 e3
  subst e1 e2 e3
  exact RowS.of_own h
theorem TxR.form {v : Value} {ls : List (List UInt8)} {w : World} {fp : List Nat} (h : TxR v ls w fp) : ∃ a c, v = .slice a ls.length c := own_slice h.1
theorem TxR.of {v : Value} {ls : List (List UInt8)} {w : World} {B : Nat} (h : w.ownsRow B 9 1 v ls.length (sv ls)) : TxR v ls w v.ownBlock.toList ∧ ∀ k ∈ v.ownBlock.toList, B ≤ k := OwnR.of h

theorem TxR.grow {v v' : Value} {ls ls' : List (List UInt8)} {w w' : World} {fp : List Nat} (h : TxR v ls w fp) (hg : w.grownBy w' v.ownBlock) (hown : w'.ownsRow 0 9 1 v' ls'.length (sv ls')) (hat : v'.ownBlock = v.ownBlock ∨ v'.ownBlock = some w.heap.size) : After fp w w' (TxR v' ls' w') := by
  obtain ⟨h, rfl⟩ := h
  refine ⟨v'.ownBlock.toList, ⟨hown, rfl⟩, Stp.of_grown_row hg (fun k hk => by simp [hk]), fun k hk => ?_⟩
  rw [Option.mem_toList] at hk
  rcases hat with e | e
  · rw [e] at hk; exact .inl (by simp [hk])
  · rw [e] at hk; injection hk with hk; exact .inr (Nat.le_of_eq hk)

set_option maxHeartbeats 2000000 in
set_option maxRecDepth 100000 in
theorem writeFrom_any (b u n c : Nat) (a : Option Addr) (s : DS) (ls : List (List UInt8)) (fp : List Nat) (w : World) (h : Sep (PDr b s) (TxR (.slice a n c) ls) w fp) (hn : n = ls.length) (hu : u ≤ 1000000) (hpe : s.pe.length + n ≤ 1000000) :
    Calls Try.prog 34 #[.pointer (some ⟨b, 0, none⟩), .int .i64 u, .slice a n c] w fun e w' => e = .returned (.int .i64 (s.wsync (putTo u ls n)).2) ∧ After fp w w' (Sep (PDr b (s.wsync (putTo u ls n)).1) (TxR (.slice a n c) ls) w') := by
  have H0 : Hid (After fp w w (Sep (PDr b s) (TxR (.slice a n c) ls) w)) := After.start fp h
  have HN := Lib.hid hn
  have HTS := Lib.hid (TxR.stays (.slice a n c) ls)
  have hn9 : n ≤ 1000000 := by omega
  clear h hn
  go_enter Try.func34, Try.ntmps34
  go_wp2
  go_loopg [7, 8, 9, 12] n (fun gk _ _ _ i wr => ∃ j : Nat, j ≤ n ∧ i = .int .i64 j ∧ n - j ≤ gk ∧ Hid ((s.writes (putTo u ls j)).2 = 0) ∧ Hid (After fp w wr (Sep (PDr b (s.writes (putTo u ls j)).1) (TxR (.slice a n c) ls) wr)))
  case atStart => exact ⟨0, Nat.zero_le _, rfl, by omega, rfl, H0.out⟩
  case round =>
    obtain ⟨j, hj, rfl, hgk, HZ, HA⟩ := hrel
    have hpl := s.writes_pe (putTo u ls j)
    rw [putTo_length] at hpl
    by_cases hlt : j < n
    · obtain ⟨x, hx⟩ : ∃ x, ls[j]? = some x := ⟨_, List.getElem?_eq_getElem (by rw [← HN.out]; exact hlt)⟩
      obtain ⟨bb, off, ea, hc⟩ := HA.out.right.know (fun _ hp => hp.row) (by rw [← HN.out]; omega)
      subst ea
      have cj := hc j x hx
      have hw1 := s.writes_snoc (putTo u ls j) (u + j, x)
      rw [if_pos HZ.out, ← putTo_succ hx, show ((u + j : Nat) : Int) = (u : Int) + (j : Int) by omega] at hw1
      have H1 := HA.out.call1 (f := 23) (args := #[.pointer (some ⟨b, 0, none⟩), .int .i64 ((u : Int) + (j : Int)), .string (st x)]) (p := Try.prog) fun fp hp => Sep.callL1 HTS.out hp fun f hf => write_any 0 b _ f ((u : Int) + (j : Int)) x wr hf (room_few (by omega))
      rw [← hw1] at H1
      have H1 := Lib.hid H1
      obtain ⟨t, ht⟩ : ∃ t, t = (s.writes (putTo u ls (j + 1))).2 := ⟨_, rfl⟩
      rw [← ht] at H1
      have HT := Lib.hid ht
      have hjz : (0 : Int) ≤ (j : Int) := by omega
      have hjn : (j : Int) < (n : Int) := by omega
      clear hc hx hw1 ht
      by_cases h0 : t = 0
      · subst h0
        go_wp2_with fail
        with_reducible refine H1.out.mono ?_
        rintro e w2 ⟨rfl, ha2⟩
        have HA2 := Lib.hid ha2
        clear ha2 H1
        go_wp2
        go_roundg (n - (j + 1))
        case measure => omega
        case rel => exact ⟨j + 1, by omega, by go_num, by omega, HT.out.symm, HA2.out⟩
      · have tn : (t == 0) = false := by rw [beq_eq_false_iff_ne]; exact h0
        have HE := Lib.hid (s.wsync_put_fails (u := u) (ls := ls) (k := j + 1) (n := n) (by omega) (by rw [← HT.out]; exact h0))
        clear h0
        go_wp2_with fail
        with_reducible refine H1.out.mono ?_
        rintro e w2 ⟨rfl, ha2⟩
        have HA2 := Lib.hid ha2
        clear ha2 H1
        go_wp2
        go_ret
        rw [HE.out, ← HT.out]
        exact ⟨rfl, HA2.out⟩
    · have e : j = n := by omega
      subst e
      have H1 := HA.out.call1 (f := 25) (args := #[.pointer (some ⟨b, 0, none⟩)]) (p := Try.prog) fun fp hp => Sep.callL1 HTS.out hp fun f hf => sync_any 0 b _ f wr hf (Nat.le_trans (show _ ≤ 1000000 by omega) (by decide))
      have hws : s.wsync (putTo u ls j) = (s.writes (putTo u ls j)).1.sync := by unfold DS.wsync; rw [if_pos HZ.out]
      rw [← hws] at H1
      have H1 := Lib.hid H1
      clear hgk hws
      go_wp2_with fail
      with_reducible refine H1.out.mono ?_
      rintro e w2 ⟨rfl, ha2⟩
      have HA2 := Lib.hid ha2
      clear ha2 H1
      go_wp2
      go_ret
      exact ⟨rfl, HA2.out⟩

/-- disk.Empty -/
theorem dkEmpty_keep (w : World) : Calls Try.prog 50 #[] w fun e w' => e = .returned (.string (st z64)) ∧ Below w.heap.size w w' := empty_any w

set_option maxHeartbeats 2000000 in
set_option maxRecDepth 100000 in
theorem clear_any (b u n c : Nat) (a : Option Addr) (s : DS) (fp : List Nat) (w : World) (h : Sep (PDr b s) (TxR (.slice a n c) s.bl) w fp) (hn : n = s.bl.length) (hu : u ≤ n) (hpe : s.pe.length ≤ 100000) :
    Calls Try.prog 31 #[.pointer (some ⟨b, 0, none⟩), .slice a n c, .int .i64 u] w fun e w' => e = .returned (.int .i64 (s.clear u).2) ∧ After fp w w' (Sep (PDr b (s.clear u).1) (TxR (.slice a n c) s.bl) w') := by
  obtain ⟨ls, hls⟩ : ∃ ls, ls = s.bl := ⟨_, rfl⟩
  have hn9 : n ≤ 65536 := by
    rw [hn]
    obtain ⟨f1, f2, h1, _⟩ := h
    exact (PD.ok h1).len
  obtain ⟨R, hR⟩ : ∃ R, R = s.clear u := ⟨_, rfl⟩
  rw [← hR]
  unfold DS.clear at hR
  rw [← hls] at h hR ⊢
  rw [← hls] at hn
  rw [← hn] at hR
  have HRR := Lib.hid hR
  clear hR
  have H0 := Lib.hid h
  have HN := Lib.hid hn
  have HTS := Lib.hid (TxR.stays (.slice a n c) ls)
  have HEM := Lib.hid (dkEmpty_keep w)
  have hdl := dirtyTo_length ls u
  have HDL := Lib.hid hdl
  clear h hn hls hdl
  go_enter Try.func31, Try.ntmps31
  go_wp2_with fail
  with_reducible refine HEM.out.mono ?_
  rintro e w1 ⟨rfl, hb1⟩
  have HA0 : Hid (After fp w w1 (Sep (PDr b s) (TxR (.slice a n c) ls) w1)) := After.since (Stays.sep (PDr.stays b s) HTS.out) (After.start fp H0.out) hb1
  clear hb1 HEM
  go_wp2
  go_loopg [8, 9, 10] n (fun gk wf i _ wr => ∃ j : Nat, u ≤ j ∧ j ≤ n ∧ i = .int .i64 j ∧ n - j ≤ gk ∧ wf = .bool (decide (dirtyTo ls u j ≠ [])) ∧ Hid ((s.writes (zw (dirtyTo ls u j))).2 = 0) ∧ Hid (After fp w wr (Sep (PDr b (s.writes (zw (dirtyTo ls u j))).1) (TxR (.slice a n c) ls) wr)))
  case atStart => exact ⟨u, Nat.le_refl _, hu, rfl, by omega, by rw [dirtyTo_start]; rfl, by rw [dirtyTo_start]; rfl, by rw [dirtyTo_start]; exact HA0.out⟩
  case round =>
    obtain ⟨j, huj, hj, rfl, hgk, rfl, HZ, HA⟩ := hrel
    have hpl := s.writes_pe (zw (dirtyTo ls u j))
    have hdj := HDL.out j
    rw [zw_length] at hpl
    by_cases hlt : j < n
    · obtain ⟨x, hx⟩ : ∃ x, ls[j]? = some x := ⟨_, List.getElem?_eq_getElem (by rw [← HN.out]; exact hlt)⟩
      obtain ⟨bb, off, ea, hc⟩ := HA.out.right.know (fun _ hp => hp.row) (by rw [← HN.out]; omega)
      subst ea
      have cj := hc j x hx
      have hjz : (0 : Int) ≤ (j : Int) := by omega
      have hjn : (j : Int) < (n : Int) := by omega
      by_cases hz : x = z64
      · have hd := dirtyTo_no (u := u) hx hz
        subst hz
        have HD := Lib.hid hd
        clear hc hx hd
        go_wp2
        go_roundg (n - (j + 1))
        case measure => omega
        case rel => exact ⟨j + 1, by omega, by omega, by go_num, by omega, by rw [HD.out], by rw [HD.out]; exact HZ.out, by rw [HD.out]; exact HA.out⟩
      · have hd := dirtyTo_yes hx hz huj
        have hne := st_neb hz
        have hw1 := s.writes_snoc (zw (dirtyTo ls u j)) (j, z64)
        rw [if_pos HZ.out, ← zw_snoc, ← hd] at hw1
        have H1 := HA.out.call1 (f := 23) (args := #[.pointer (some ⟨b, 0, none⟩), .int .i64 (j : Int), .string (st z64)]) (p := Try.prog) fun fp hp => Sep.callL1 HTS.out hp fun f hf => write_any 0 b _ f (j : Int) z64 wr hf (room_few (by omega))
        rw [← hw1] at H1
        have H1 := Lib.hid H1
        obtain ⟨t, ht⟩ : ∃ t, t = (s.writes (zw (dirtyTo ls u (j + 1)))).2 := ⟨_, rfl⟩
        rw [← ht] at H1
        have HT := Lib.hid ht
        have hne2 : dirtyTo ls u (j + 1) ≠ [] := by rw [hd]; simp
        have HNE : Hid (decide (dirtyTo ls u (j + 1) ≠ []) = true) := decide_eq_true hne2
        clear hc hx hw1 ht hd hne2 hz
        by_cases h0 : t = 0
        · subst h0
          go_wp2_with fail
          with_reducible refine H1.out.mono ?_
          rintro e w2 ⟨rfl, ha2⟩
          have HA2 := Lib.hid ha2
          clear ha2 H1
          go_wp2
          go_roundg (n - (j + 1))
          case measure => omega
          case rel => exact ⟨j + 1, by omega, by omega, by go_num, by omega, by rw [HNE.out], HT.out.symm, HA2.out⟩
        · have tn : (t == 0) = false := by rw [beq_eq_false_iff_ne]; exact h0
          have HE := Lib.hid (s.wsync_dirty_fails (u := u) (ls := ls) (k := j + 1) (n := n) (by omega) (by rw [← HT.out]; exact h0))
          clear h0
          go_wp2_with fail
          with_reducible refine H1.out.mono ?_
          rintro e w2 ⟨rfl, ha2⟩
          have HA2 := Lib.hid ha2
          clear ha2 H1
          go_wp2
          go_ret
          have hR := HRR.out
          rw [if_neg HE.out.1, HE.out.2] at hR
          rw [hR, ← HT.out]
          exact ⟨rfl, HA2.out⟩
    · have e : j = n := by omega
      subst e
      by_cases hd : dirtyTo ls u j = []
      · have hdd : decide (dirtyTo ls u j ≠ []) = false := decide_eq_false (by simpa using hd)
        have HD := Lib.hid hd
        rw [hdd]
        have hA := HA.out
        rw [hd] at hA
        have HA2 := Lib.hid hA
        clear hgk hd hdd hA
        go_wp2
        go_ret
        have hR := HRR.out
        rw [if_pos HD.out] at hR
        rw [hR]
        exact ⟨rfl, HA2.out⟩
      · have hdd : decide (dirtyTo ls u j ≠ []) = true := decide_eq_true hd
        have H1 := HA.out.call1 (f := 25) (args := #[.pointer (some ⟨b, 0, none⟩)]) (p := Try.prog) fun fp hp => Sep.callL1 HTS.out hp fun f hf => sync_any 0 b _ f wr hf (Nat.le_trans (show _ ≤ 1000000 by omega) (by decide))
        have hws : s.wsync (zw (dirtyTo ls u j)) = (s.writes (zw (dirtyTo ls u j))).1.sync := by unfold DS.wsync; rw [if_pos HZ.out]
        rw [← hws] at H1
        have H1 := Lib.hid H1
        have HD := Lib.hid hd
        rw [hdd]
        clear hgk hws hd hdd
        go_wp2_with fail
        with_reducible refine H1.out.mono ?_
        rintro e w2 ⟨rfl, ha2⟩
        have HA2 := Lib.hid ha2
        clear ha2 H1
        go_wp2
        go_ret
        have hR := HRR.out
        rw [if_neg HD.out] at hR
        rw [hR]
        exact ⟨rfl, HA2.out⟩
end Go.Proofs.Ytbpklikmldpeiaa
