/-
  The walk of souklaw06.JournalFails.
-/
import Derived.Test.YtbpklikmldpeiaaJnM
import Derived.Test.YtbpklikmldpeiaaJnN
import Derived.Test.YtbpklikmldpeiaaJnK
namespace Go.Proofs.Ytbpklikmldpeiaa
open Go.RowKit Go.Lib

set_option maxHeartbeats 16000000 in
set_option maxRecDepth 100000 in
theorem fails_walk (a1 a2 a3 : Option Addr) (c1 c2 c3 : Nat) (l1 l2 : List (List UInt8)) (last : List UInt8) (l3 : List Fl6) (w : World) (hr1 : RowS w a1 l1) (hr2 : RowS w a2 l2) (hr3 : RowF w a3 l3) (ho3 : ∀ x ∈ l3, FlOk w x)
    (hs1 : ∀ x ∈ l1, x.length ≤ 281474976710656) (hs2 : ∀ x ∈ l2, x.length ≤ 281474976710656) (hl1 : l1.length ≤ 9223372036854775807) (hl2 : l2.length ≤ 9223372036854775807) (hl3 : l3.length ≤ 9223372036854775807) (hll : last.length ≤ 9223372036854775807) :
    Calls Try.prog 4 #[.agg #[.slice a1 l1.length c1, .slice a2 l2.length c2], .string (st last), .slice a3 l3.length c3] w fun e w' => e = .returned (.bool true) ∧ Below w.heap.size w w' := by
  obtain ⟨sb1, hsb1, HSM1⟩ := small6_any a1 c1 l1 w hr1 hs1 hl1
  obtain ⟨sb2, hsb2, HSM2⟩ := small6_any a2 c2 l2 w hr2 hs2 hl2
  obtain ⟨n1, hn1⟩ : ∃ n, n = l1.length := ⟨_, rfl⟩
  obtain ⟨n2, hn2⟩ : ∃ n, n = l2.length := ⟨_, rfl⟩
  obtain ⟨n3, hn3⟩ : ∃ n, n = l3.length := ⟨_, rfl⟩
  obtain ⟨nl, hnl⟩ : ∃ n, n = last.length := ⟨_, rfl⟩
  have hszl := st_size last
  rw [← hnl] at hszl hll
  rw [← hn1] at hl1 HSM1 ⊢
  rw [← hn2] at hl2 HSM2 ⊢
  rw [← hn3] at hl3 ⊢
  have HN1 := Lib.hid hn1
  have HN2 := Lib.hid hn2
  have HN3 := Lib.hid hn3
  have HNL := Lib.hid hnl
  have HR1 := Lib.hid hr1
  have HR2 := Lib.hid hr2
  have HR3 := Lib.hid hr3
  have HO3 := Lib.hid ho3
  have HF1 := Lib.hid hsb1
  have HF2 := Lib.hid hsb2
  have HS1 := fun W hb => Lib.hid (HSM1 W hb)
  have HS2 := fun W hb => Lib.hid (HSM2 W hb)
  have HLV := fun W => Lib.hid (lives6_any W)
  have HB0 := Lib.hid ((Below.refl w.heap.size w).alloc (Nat.le_refl _) (.cells #[.slice a1 n1 c1, .slice a2 n2 c2] 48))
  clear hn1 hn2 hn3 hnl hr1 hr2 hr3 ho3 hs1 hs2 hsb1 hsb2 HSM1 HSM2
  go_enter Try.func4, Try.ntmps4
  go_wp2
  go_quiet (fail)
  have HBq := Lib.hid (below_drewN4 HB0.out nq)
  generalize World.drewN _ nq = w1 at HBq ⊢
  clear HB0
  go_wp2_with fail
  with_reducible refine (HLV w1).out.mono ?_
  rintro e w2 ⟨rfl, hb⟩
  have HB2 := Lib.hid (HBq.out.trans (hb.mono HBq.out.size))
  clear hb HBq
  go_wp2_with fail
  with_reducible refine (HS1 w2 HB2.out).out.mono ?_
  rintro e w3 ⟨rfl, rfl⟩
  cases sb1 with
  | false =>
    go_wp2_with fail
    with_reducible refine (HLV w2).out.mono ?_
    rintro e w3 ⟨rfl, hb⟩
    have HB3 := Lib.hid (HB2.out.trans (hb.mono HB2.out.size))
    clear hb
    go_wp2
    go_ret
    exact ⟨rfl, HB3.out⟩
  | true =>
  have HFW1 : Hid (Few l1) := HF1.out rfl
  clear HF1
  go_wp2_with fail
  with_reducible refine (HS2 w2 HB2.out).out.mono ?_
  rintro e w3 ⟨rfl, rfl⟩
  cases sb2 with
  | false =>
    go_wp2_with fail
    with_reducible refine (HLV w2).out.mono ?_
    rintro e w3 ⟨rfl, hb⟩
    have HB3 := Lib.hid (HB2.out.trans (hb.mono HB2.out.size))
    clear hb
    go_wp2
    go_ret
    exact ⟨rfl, HB3.out⟩
  | true =>
  have HFW2 : Hid (Few l2) := HF2.out rfl
  clear HF2
  by_cases hlast : (2000 : Int) < (nl : Int)
  · go_wp2_with fail
    with_reducible refine (HLV w2).out.mono ?_
    rintro e w3 ⟨rfl, hb⟩
    have HB3 := Lib.hid (HB2.out.trans (hb.mono HB2.out.size))
    clear hb
    go_wp2
    go_ret
    exact ⟨rfl, HB3.out⟩
  by_cases h8 : (8 : Int) < (n3 : Int)
  · go_wp2_with fail
    with_reducible refine (HLV w2).out.mono ?_
    rintro e w3 ⟨rfl, hb⟩
    have HB3 := Lib.hid (HB2.out.trans (hb.mono HB2.out.size))
    clear hb
    go_wp2
    go_ret
    exact ⟨rfl, HB3.out⟩
  have HN0 : Hid (Calls Try.prog 8 #[.int .i64 300] w2 fun e w' => ∃ b, e = .returned (.pointer (some ⟨b, 0, none⟩)) ∧ ∃ fp, PDr b (Cl [] 300) w' fp ∧ Below w2.heap.size w2 w' ∧ ∀ k ∈ fp, w2.heap.size ≤ k) := new_cl 300 w2 (by omega)
  clear HLV HS1 HS2
  go_wp2_with fail
  with_reducible refine HN0.out.mono ?_
  rintro e w3 ⟨pb, rfl, fp, hp, hb3, hf⟩
  have HA3 : Hid (After [] w w3 (PDr pb (Cl [] 300) w3)) := ⟨fp, hp, (Stp.of_below HB2.out).trans (fp' := []) (Stp.of_below hb3) (fun k hk => by cases hk), fun k hk => .inr (Nat.le_trans HB2.out.size (hf k hk))⟩
  clear hp hb3 hf HN0 HB2
  have H2 := Lib.hid (HA3.out.call (f := 10) (args := #[.pointer (some ⟨pb, 0, none⟩)]) (p := Try.prog) fun fp hp => open_cl_any pb [] 300 fp w3 hp AllOk.nil (by simp [used, layd]))
  go_wp2_with fail
  with_reducible refine H2.out.mono ?_
  rintro e w4 ⟨⟨jb, v⟩, rfl, ha⟩
  have HA4 : Hid (After [] w w4 (JCl jb pb [] 300 w4)) := ha.left
  have HT0 : Hid (TxR (.slice none 0 0) [] w4 []) := ⟨World.ownsRow_nil _ _ _ _, rfl⟩
  have HA5 : Hid (After [] w w4 (Sep (JCl jb pb [] 300) (TxR (.slice none 0 0) []) w4)) := HA4.out.fresh (JCl.stays _ _ _ _) (Below.refl _ _) HT0.out (fun k hk => by cases hk)
  obtain ⟨va, vc, hv⟩ := ha.right.know fun _ hp => hp.form
  simp only at hv
  subst hv
  clear ha H2 HA3 HA4 HT0
  go_wp2
  go_loopg [13, 15, 67] n1 (fun gk ko _ i wr => ∃ (j : Nat) (K : List (List UInt8)) (z : Nat) (kv : Value), j ≤ n1 ∧ i = .int .i64 j ∧ ko = kv ∧ n1 - j ≤ gk ∧ Hid (AllOk K) ∧ Hid (used K + z = 300) ∧ Hid (After [] w wr (Sep (JCl jb pb K z) (TxR kv K) wr)))
  case atStart => exact ⟨0, [], 300, .slice none 0 0, Nat.zero_le _, rfl, rfl, by omega, AllOk.nil, (by show _ = _; simp [used, layd]), HA5.out⟩
  case round =>
    obtain ⟨j, K, z, kv, hj, rfl, rfl, hgk, HK, HZ, HA⟩ := hrel
    obtain ⟨ka, kc, rfl⟩ := HA.out.right.know fun _ hp => hp.form
    have hkl : K.length ≤ 300 := by have := HK.out.few; have := HZ.out; omega
    obtain ⟨m, hm⟩ : ∃ m, m = K.length := ⟨_, rfl⟩
    have HM := Lib.hid hm
    rw [← hm] at hkl ⊢
    clear hm
    by_cases hlt : j < n1
    · obtain ⟨x, hx⟩ : ∃ x, l1[j]? = some x := ⟨_, List.getElem?_eq_getElem (by rw [← HN1.out]; exact hlt)⟩
      obtain ⟨bb, off, ea, hc⟩ := (HR1.out.keep HA.out.bel) (by rw [← HN1.out]; omega)
      subst ea
      have cj := hc j x hx
      have hx4 := HFW1.out.each x (List.mem_of_getElem? hx)
      obtain ⟨L, z', t, hnx⟩ := next_of HK.out z x
      have H1 := Lib.hid (HA.out.call1 (f := 12) (args := #[.pointer (some ⟨jb, 0, none⟩), .string (st x)]) (p := Try.prog) fun fp hp => Sep.callL1 (TxR.stays _ _) hp fun f hf => append_cl jb pb hnx f wr hf HK.out (by have := HZ.out; omega) (by omega))
      have HNX := Lib.hid hnx
      have hjz : (0 : Int) ≤ (j : Int) := by omega
      have hjn : (j : Int) < (n1 : Int) := by omega
      clear hc hx hnx hx4
      by_cases h0 : t = 0
      · subst h0
        go_wp2_with fail
        with_reducible refine H1.out.mono ?_
        rintro e w5 ⟨rfl, ha⟩
        have HL : Hid (L = K ++ [x]) := by
          rcases HNX.out.or with ⟨_, h⟩ | ⟨h, _⟩
          · exact h
          · exact absurd rfl h
        have HOW : Hid (w5.ownsRow 0 9 1 (.slice ka m kc) m (sv K)) := by
          have := ha.right.know fun _ hp => hp.1
          rw [HM.out]; exact this
        have HG : Hid (∀ (v' : Value) (w6 : World), w6.ownsRow 0 9 1 v' (m + 1) (sv K ++ #[Value.string (st x)].toList) → (w5.alloc (.cells #[.string (st x)] 9)).grownBy w6 (Value.slice ka m kc).ownBlock → (v'.ownBlock = (Value.slice ka m kc).ownBlock ∨ v'.ownBlock = some (w5.alloc (.cells #[.string (st x)] 9)).heap.size) → After [] w w6 (Sep (JCl jb pb L z') (TxR v' L) w6)) := fun v' w6 h1 h2 h3 => by
          have hA := ha.since (Stays.sep (JCl.stays _ _ _ _) (TxR.stays _ _)) ((Below.refl w5.heap.size w5).alloc (Nat.le_refl _) (.cells #[.string (st x)] 9))
          rw [HL.out] at hA ⊢
          rw [HM.out] at h2 h3
          exact hA.goR (JCl.stays _ _ _ _) fun f hf => TxR.grow hf h2 (by rw [List.length_append, ← HM.out, show sv (K ++ [x]) = sv K ++ #[Value.string (st x)].toList by simp [sv]]; exact h1) h3
        clear ha H1
        go_wp2_with (at_builtin; refine wpList_append_wide rfl (.tmp 75) (.tmp 77) 22 9 rfl 0 (.string ⟨#[]⟩) 1 16 Try.underlying22 infoStr rfl (by omega) (.slice ka m kc) m _ rfl w5.heap.size 1 rfl (HOW.out.alloc _) #[.string (st x)] (Blk.new w5 _ _) rfl (by simp [Value.oneCell']) (by unfold maxLen; omega) (by omega) (Nat.zero_le _) ?_; intro v' w6 h1 h2 h3; have HA6 := Lib.hid (HG.out v' w6 h1 h2 h3); clear h1 h2 h3)
        go_wp2
        go_roundg (n1 - (j + 1))
        case measure => omega
        case rel => exact ⟨j + 1, L, z', v', by omega, by go_num, rfl, by omega, HNX.out.ok, by show _ = _; rw [HNX.out.room, HZ.out], HA6.out⟩
      · have tn : (t == 0) = false := by rw [beq_eq_false_iff_ne]; exact h0
        have HL : Hid (L = K) := by
          rcases HNX.out.or with ⟨h, _⟩ | ⟨_, h⟩
          · exact absurd h h0
          · exact h
        clear h0
        go_wp2_with fail
        with_reducible refine H1.out.mono ?_
        rintro e w5 ⟨rfl, ha⟩
        have HA5 := Lib.hid ha
        clear ha H1
        go_wp2
        go_roundg (n1 - (j + 1))
        case measure => omega
        case rel =>
          refine ⟨j + 1, L, z', .slice ka m kc, by omega, by go_num, rfl, by omega, HNX.out.ok, by show _ = _; rw [HNX.out.room, HZ.out], ?_⟩
          have := HA5.out
          rw [← HM.out] at this
          rw [HL.out] at this ⊢
          exact this
    · have e : j = n1 := by omega
      subst e
      have HKZ := HZ
      clear hgk
      go_wp2
      go_loopg [1, 13, 16, 17, 82] n3 (fun gk lo ko _ _ i wr => ∃ (i0 : Nat) (K : List (List UInt8)) (l : List UInt8) (kv : Value), i0 ≤ n3 ∧ i = .int .i64 i0 ∧ lo = .string (st l) ∧ ko = kv ∧ n3 - i0 ≤ gk ∧ l.length ≤ 2000 ∧ K.length ≤ 300 ∧
        Hid ((i0 = 0 ∧ AllOk K ∧ ∃ z, used K + z = 300 ∧ After [] w wr (Sep (JCl jb pb K z) (TxR kv K) wr)) ∨ (0 < i0 ∧ ∃ bl, bl.length = 300 ∧ Left6 bl K l ∧ After [] w wr (Sep (PDr pb ⟨bl, [], -1, false⟩) (TxR kv K) wr))))
      case atStart =>
        refine ⟨0, K, last, .slice ka K.length kc, Nat.zero_le _, rfl, rfl, by rw [HM.out], by omega, by rw [← HNL.out]; omega, by rw [← HM.out]; exact hkl, .inl ⟨rfl, HK.out, z, HZ.out, HA.out⟩⟩
      case round =>
        clear HA HK HZ HM HKZ hkl hlt m
        obtain ⟨i0, K, l, kv, hi, rfl, rfl, hkv, hgk, hll, hkl, HD⟩ := hrel
        obtain ⟨kA, kC, rfl⟩ : ∃ a c, kv = Value.slice a K.length c := by
          rcases HD.out with ⟨_, _, z, _, h⟩ | ⟨_, bl, _, _, h⟩
          · exact h.right.know fun _ hp => hp.form
          · exact h.right.know fun _ hp => hp.form
        subst hkv
        obtain ⟨m, hm⟩ : ∃ m, m = K.length := ⟨_, rfl⟩
        have HM := Lib.hid hm
        rw [← hm] at hkl ⊢
        clear hm
        by_cases hlt : i0 < n3
        · obtain ⟨x, hx⟩ : ∃ x, l3[i0]? = some x := ⟨_, List.getElem?_eq_getElem (by rw [← HN3.out]; exact hlt)⟩
          have hbel : Below w.heap.size w wr := by
            rcases HD.out with ⟨_, _, z, _, h⟩ | ⟨_, bl, _, _, h⟩
            · exact h.bel
            · exact h.bel
          obtain ⟨b0, off, ea, hc⟩ := (HR3.out.below hbel) (by rw [← HN3.out]; omega)
          subst ea
          have hok := HO3.out x (List.mem_of_getElem? hx)
          obtain ⟨fu, ka0, kc0, keep⟩ := x
          have c0 : wr.cell? ⟨b0, off + i0 * 2, none⟩ = some (.int .u8 (fu : Nat)) := hc i0 _ hx 0 _ rfl
          have c1 : wr.cell? ⟨b0, off + i0 * 2 + 1, none⟩ = some (.slice ka0 keep.length kc0) := hc i0 _ hx 1 _ rfl
          obtain ⟨hfu, hkp, hrow⟩ := hok
          simp only at hfu hkp hrow
          have HROW := Lib.hid hrow
          have HKP := Lib.hid hkp
          obtain ⟨nk, hnk⟩ : ∃ n, n = keep.length := ⟨_, rfl⟩
          rw [← hnk] at c1 hkp
          have HNK := Lib.hid hnk
          obtain ⟨f50, hf50⟩ : ∃ f, f = fu % 50 := ⟨_, rfl⟩
          have e50 : (fu : Int) % 50 = (f50 : Int) := by omega
          have hf9 : f50 ≤ 255 := by omega
          have hjz : (0 : Int) ≤ (i0 : Int) := by omega
          have hjn : (i0 : Int) < (n3 : Int) := by omega
          have hbl := (Below.refl wr.heap.size wr).alloc (Nat.le_refl _) (.cells #[.int .u8 fu, .slice ka0 nk kc0] 52)
          have hBk : BlkR wr.heap.size 52 #[.int .u8 fu, .slice ka0 nk kc0] (wr.alloc (.cells #[.int .u8 fu, .slice ka0 nk kc0] 52)) [wr.heap.size] := ⟨Blk.new wr _ _, rfl⟩
          have HBL := Lib.hid hbl
          have HBK := Lib.hid hBk
          have d0 : (wr.alloc (.cells #[.int .u8 fu, .slice ka0 nk kc0] 52)).cell? ⟨wr.heap.size, 0, none⟩ = some (.int .u8 fu) := hBk.1.cell 0
          clear hx hc hnk hf50 hbel hrow hbl hBk
          go_wp2_with fail
          rcases HD.out with ⟨rfl, hK, z, hz, hA⟩ | ⟨h0i, bl, hbl3, hL6, hA⟩
          · have HK := Lib.hid hK
            have HZ := Lib.hid hz
            have hA2 := (hA.fresh (Stays.sep (JCl.stays _ _ _ _) (TxR.stays _ _)) HBL.out HBK.out (fun k hk => by rw [List.mem_singleton] at hk; rw [hk]; exact Nat.le_refl _)).into fun _ hp => hp.assoc
            have H1 := Lib.hid (hA2.call1 (f := 19) (args := #[.pointer (some ⟨pb, 0, none⟩), .int .i64 f50]) (p := Try.prog) fun fp hp => Sep.callL1 (Stays.sep (TxR.stays _ _) (BlkR.stays _ _ _)) hp fun f hf => Sep.callR1 (BlkR.stays _ _ _) hf fun f hf => fail_part pb (Cl K z) f50 f _ hf (by omega))
            clear hK hz hA hA2 HD
            with_reducible refine H1.out.mono ?_
            rintro e w5 ⟨rfl, ha⟩
            have H2 := Lib.hid (ha.call1 (f := 12) (args := #[.pointer (some ⟨jb, 0, none⟩), .string (st l)]) (p := Try.prog) fun fp hp => Sep.callL1 (Stays.sep (TxR.stays _ _) (BlkR.stays _ _ _)) hp fun f hf => append_any jb pb K.length (used K) ⟨fitL K z, [], f50, false⟩ l f w5 hf (by simp) (by show used K ≤ (fitL K z).length; rw [fitL_length]; omega) (by rw [← HM.out]; omega) (by omega))
            obtain ⟨bl', hre, hbl', hpe, hor⟩ := fail_append (z := z) l f50 HK.out keep
            obtain ⟨R, hR⟩ : ∃ R, R = (DS.mk (fitL K z) [] f50 false).app K.length (used K) l := ⟨_, rfl⟩
            rw [← hR] at H2 hre hpe hor
            obtain ⟨t, ht⟩ : ∃ t, t = R.2 := ⟨_, rfl⟩
            rw [← ht] at H2 hor
            have HRE := Lib.hid hre
            have HPE := Lib.hid hpe
            have HOR := Lib.hid hor
            have HBL' := Lib.hid hbl'
            clear ha H1 hre hpe hor hR ht hbl'
            have HRS : Hid (∀ (w7 : World) (v' : Value) (K' : List (List UInt8)), After [] w w7 (Sep (PDr pb R.1) (Sep (TxR v' K') (BlkR wr.heap.size 52 #[.int .u8 fu, .slice ka0 nk kc0])) w7) → Calls Try.prog 20 #[.pointer (some ⟨pb, 0, none⟩), .slice ka0 nk kc0] w7 fun e w' => e = .returned (.tuple #[]) ∧ After [] w w' (Sep (PDr pb ⟨bl', [], -1, false⟩) (Sep (TxR v' K') (BlkR wr.heap.size 52 #[.int .u8 fu, .slice ka0 nk kc0])) w')) := fun w7 v' K' h7 => by
              have h8 := After.callLf (f := 20) (args := #[.pointer (some ⟨pb, 0, none⟩), .slice ka0 keep.length kc0]) (p := Try.prog) (Stays.sep (TxR.stays _ _) (BlkR.stays _ _ _)) h7 fun f hf hfar => restart_part ka0 kc0 keep f w7 hf hfar h7.bel HROW.out HKP.out HPE.out HRE.out
              rw [← HNK.out] at h8
              exact h8
            go_wp2_with fail
            with_reducible refine H2.out.mono ?_
            rintro e w6 ⟨rfl, ha⟩
            have HA6 : Hid (After [] w w6 (Sep (PDr pb R.1) (Sep (TxR (.slice kA K.length kC) K) (BlkR wr.heap.size 52 #[.int .u8 fu, .slice ka0 nk kc0])) w6)) := ha.go fun fp hp => Sep.goL (Stays.sep (TxR.stays _ _) (BlkR.stays _ _ _)) hp fun f hf => (After.start f hf).right
            clear ha H2
            by_cases h0 : t = 0
            · subst h0
              have HL : Hid (∃ z', bl' = fitL (K ++ [l]) z' ∧ AllOk (K ++ [l])) := by
                rcases HOR.out with ⟨_, h⟩ | ⟨h, _⟩
                · exact h
                · exact absurd rfl h
              have HOW : Hid (w6.ownsRow 0 9 1 (.slice kA m kC) m (sv K)) := by
                have := HA6.out.right.left.know fun _ hp => hp.1
                rw [HM.out]; exact this
              have HG : Hid (∀ (v' : Value) (w7 : World), w7.ownsRow 0 9 1 v' (m + 1) (sv K ++ #[Value.string (st l)].toList) → (w6.alloc (.cells #[.string (st l)] 9)).grownBy w7 (Value.slice kA m kC).ownBlock → (v'.ownBlock = (Value.slice kA m kC).ownBlock ∨ v'.ownBlock = some (w6.alloc (.cells #[.string (st l)] 9)).heap.size) →
                  After [] w w7 (Sep (PDr pb R.1) (Sep (TxR v' (K ++ [l])) (BlkR wr.heap.size 52 #[.int .u8 fu, .slice ka0 nk kc0])) w7)) := fun v' w7 h1 h2 h3 => by
                have hA := HA6.out.since (Stays.sep (PDr.stays _ _) (Stays.sep (TxR.stays _ _) (BlkR.stays _ _ _))) ((Below.refl w6.heap.size w6).alloc (Nat.le_refl _) (.cells #[.string (st l)] 9))
                rw [HM.out] at h2 h3
                exact hA.goR (PDr.stays _ _) fun f hf => Sep.goL (BlkR.stays _ _ _) hf fun f hf => TxR.grow hf h2 (by rw [List.length_append, ← HM.out, show sv (K ++ [l]) = sv K ++ #[Value.string (st l)].toList by simp [sv]]; exact h1) h3
              clear HA6
              go_wp2_with (at_builtin; refine wpList_append_wide rfl (.tmp 99) (.tmp 101) 22 9 rfl 0 (.string ⟨#[]⟩) 1 16 Try.underlying22 infoStr rfl (by omega) (.slice kA m kC) m _ rfl w6.heap.size 1 rfl (HOW.out.alloc _) #[.string (st l)] (Blk.new w6 _ _) rfl (by simp [Value.oneCell']) (by unfold maxLen; omega) (by omega) (Nat.zero_le _) ?_; intro v' w7 h1 h2 h3; have HA7 := Lib.hid (HG.out v' w7 h1 h2 h3); clear h1 h2 h3; have g1 : w7.cell? ⟨wr.heap.size, 1, none⟩ = some (.slice ka0 nk kc0) := (HA7.out.right.right.know fun _ hp => hp.1).cell 1)
              have H3 := Lib.hid (HRS.out w7 v' _ HA7.out)
              clear HG HOW
              go_wp2_with fail
              with_reducible refine H3.out.mono ?_
              rintro e w8 ⟨rfl, ha⟩
              have HA8 : Hid (After [] w w8 (Sep (PDr pb ⟨bl', [], -1, false⟩) (TxR v' (K ++ [l])) w8)) := ha.goR (PDr.stays _ _) fun f hf => (After.start f hf).left
              clear ha H3 HA7 g1
              go_wp2
              go_roundg (n3 - (0 + 1))
              case measure => omega
              case rel =>
                obtain ⟨z'', hz1, hz2⟩ := HL.out
                have hfew := hz2.few
                have hlen := HBL'.out
                rw [hz1, fitL_length] at hlen
                have hz300 := HZ.out
                refine ⟨0 + 1, K ++ [l], [], v', by omega, by go_num, rfl, rfl, by omega, by simp, by omega, .inr ⟨by omega, bl', by rw [HBL'.out]; exact hz300, ?_, HA8.out⟩⟩
                rw [hz1]; exact Left6.ofCl hz2 _
            · have tn : (t == 0) = false := by rw [beq_eq_false_iff_ne]; exact h0
              have HL : Hid (Left6 bl' K l) := by
                rcases HOR.out with ⟨h, _⟩ | ⟨_, h⟩
                · exact absurd h h0
                · exact h
              have g1 : w6.cell? ⟨wr.heap.size, 1, none⟩ = some (.slice ka0 nk kc0) := (HA6.out.right.right.know fun _ hp => hp.1).cell 1
              have H3 := Lib.hid (HRS.out w6 _ _ HA6.out)
              clear h0 HA6
              go_wp2_with fail
              with_reducible refine H3.out.mono ?_
              rintro e w8 ⟨rfl, ha⟩
              have HA8 : Hid (After [] w w8 (Sep (PDr pb ⟨bl', [], -1, false⟩) (TxR (.slice kA K.length kC) K) w8)) := ha.goR (PDr.stays _ _) fun f hf => (After.start f hf).left
              clear ha H3 g1
              go_wp2
              go_roundg (n3 - (0 + 1))
              case measure => omega
              case rel =>
                have hz300 := HZ.out
                exact ⟨0 + 1, K, l, .slice kA m kC, by omega, by go_num, rfl, rfl, by omega, hll, by rw [← HM.out]; exact hkl, .inr ⟨by omega, bl', by rw [HBL'.out]; exact hz300, HL.out, by rw [HM.out]; exact HA8.out⟩⟩
          · have HL6 := Lib.hid hL6
            have HBL3 := Lib.hid hbl3
            have hA2 := (hA.fresh (Stays.sep (PDr.stays _ _) (TxR.stays _ _)) HBL.out HBK.out (fun k hk => by rw [List.mem_singleton] at hk; rw [hk]; exact Nat.le_refl _)).into fun _ hp => hp.assoc
            have H1 := Lib.hid (hA2.call1 (f := 19) (args := #[.pointer (some ⟨pb, 0, none⟩), .int .i64 f50]) (p := Try.prog) fun fp hp => Sep.callL1 (Stays.sep (TxR.stays _ _) (BlkR.stays _ _ _)) hp fun f hf => fail_part pb ⟨bl, [], -1, false⟩ f50 f _ hf (by omega))
            have tn : ((i0 : Int) == 0) = false := by rw [beq_eq_false_iff_ne]; omega
            clear hL6 hbl3 hA hA2 HD
            with_reducible refine H1.out.mono ?_
            rintro e w5 ⟨rfl, ha⟩
            have H2 := Lib.hid (ha.call (f := 10) (args := #[.pointer (some ⟨pb, 0, none⟩)]) (p := Try.prog) fun fp hp => Sep.callL (Stays.sep (TxR.stays _ _) (BlkR.stays _ _ _)) hp fun f hf => openF_any pb bl f50 f w5 hf)
            clear ha H1
            go_wp2_with fail
            with_reducible refine H2.out.mono ?_
            rintro e w6 ⟨⟨V, qs, u⟩, ⟨rfl, hrc⟩, ha⟩
            obtain ⟨bl', hre, hbl', hpe, hor⟩ := fail_open f50 HL6.out (by have := HBL3.out; omega) (HL6.out.recs (by have := HBL3.out; omega) hrc).2.2.1 keep
            simp only at ha
            obtain ⟨R, hR⟩ : ∃ R, R = (DS.mk bl [] f50 false).clear u := ⟨_, rfl⟩
            rw [← hR] at ha hre hpe
            have HRE := Lib.hid hre
            have HPE := Lib.hid hpe
            have HOR := Lib.hid hor
            have HBL' := Lib.hid hbl'
            have HA6 := Lib.hid ha
            clear ha H2 hre hpe hor hR hbl' hrc
            have H3 : Hid (Calls Try.prog 20 #[.pointer (some ⟨pb, 0, none⟩), .slice ka0 nk kc0] w6 fun e w' => e = .returned (.tuple #[]) ∧ After [] w w' (Sep (PDr pb ⟨bl', [], -1, false⟩) (Sep (TxR (.slice kA K.length kC) K) (BlkR wr.heap.size 52 #[.int .u8 fu, .slice ka0 nk kc0])) w')) := by
              have h8 := After.callLf (f := 20) (args := #[.pointer (some ⟨pb, 0, none⟩), .slice ka0 keep.length kc0]) (p := Try.prog) (Stays.sep (TxR.stays _ _) (BlkR.stays _ _ _)) HA6.out fun f hf hfar => restart_part ka0 kc0 keep f w6 hf hfar HA6.out.bel HROW.out HKP.out HPE.out HRE.out
              rw [← HNK.out] at h8
              exact h8
            have g1 : w6.cell? ⟨wr.heap.size, 1, none⟩ = some (.slice ka0 nk kc0) := (HA6.out.right.right.know fun _ hp => hp.1).cell 1
            go_wp2_with fail
            with_reducible refine H3.out.mono ?_
            rintro e w8 ⟨rfl, ha⟩
            have HA8 : Hid (After [] w w8 (Sep (PDr pb ⟨bl', [], -1, false⟩) (TxR (.slice kA K.length kC) K) w8)) := ha.goR (PDr.stays _ _) fun f hf => (After.start f hf).left
            clear ha H3 g1 HA6
            go_wp2
            go_roundg (n3 - (i0 + 1))
            case measure => omega
            case rel =>
              exact ⟨i0 + 1, K, l, .slice kA m kC, by omega, by go_num, rfl, rfl, by omega, hll, by rw [← HM.out]; exact hkl, .inr ⟨by omega, bl', by rw [HBL'.out]; exact HBL3.out, HOR.out, by rw [HM.out]; exact HA8.out⟩⟩
        · have e : i0 = n3 := by omega
          subst e
          have hU : Hid (∃ bl, bl.length = 300 ∧ Left6 bl K l ∧ After [] w wr (Sep (PDr pb ⟨bl, [], -1, false⟩) (TxR (.slice kA K.length kC) K) wr)) := by
            rcases HD.out with ⟨_, hK, z, hz, hA⟩ | ⟨_, bl, hbl, hL, hA⟩
            · exact ⟨fitL K z, by rw [fitL_length]; exact hz, Left6.ofCl hK l, hA.go fun fp hp => Sep.goL (TxR.stays _ _) hp fun f hf => (After.start f hf).right⟩
            · exact ⟨bl, hbl, hL, hA⟩
          obtain ⟨bl, hbl3, hL6, hA⟩ := hU.out
          have HBL3 := Lib.hid hbl3
          have H1 := Lib.hid (hA.call (f := 10) (args := #[.pointer (some ⟨pb, 0, none⟩)]) (p := Try.prog) fun fp hp => Sep.callL (TxR.stays _ _) hp fun f hf => openL_any pb f wr hf hL6)
          clear hgk hlt HD hU hbl3 hL6 hA
          go_wp2_with fail
          with_reducible refine H1.out.mono ?_
          rintro e w5 ⟨⟨⟨jb2, rv⟩, ps⟩, ⟨rfl, hok, hus, hor⟩, ha⟩
          simp only at hok hus hor ha
          rw [HBL3.out] at hus ha
          obtain ⟨z2, hz2⟩ : ∃ z2, z2 = 300 - used ps := ⟨_, rfl⟩
          rw [← hz2] at hus ha
          obtain ⟨ra, rc, hrv⟩ := ha.left.right.know fun _ hp => hp.form
          subst hrv
          have hA5 := ha.into fun _ hp => hp.assoc
          have H2 := Lib.hid (reopen_any (Stays.sep (TxR.stays _ _) (TxR.stays _ _)) hA5 hok (by omega))
          have HOK := Lib.hid hok
          have HUS := Lib.hid hus
          have HOR := Lib.hid hor
          have hpl : ps.length ≤ 300 := by have := hok.few; omega
          clear ha hA5 H1 hok hus hor hz2
          try simp only
          go_wp2_with fail
          with_reducible refine H2.out.mono ?_
          rintro e w6 ⟨⟨jb3, v3⟩, rfl, ha⟩
          try simp only at ha
          obtain ⟨xa, xc, hv3⟩ := ha.right.know fun _ hp => hp.form
          subst hv3
          have HA6 : Hid (After [] w w6 (Sep (Sep (JCl jb2 pb ps z2) (TxR (.slice ra ps.length rc) ps)) (TxR (.slice kA K.length kC) K) w6)) := ha.left.into fun _ hp => hp.assoc'
          have H3 := equal_texts ra xa rc xc ps.length ps.length ps ps w6 (HA6.out.left.right.know fun _ hp => hp.row) (ha.right.know fun _ hp => hp.row) rfl rfl (by omega) (by omega)
          rw [decide_eq_true (rfl : ps = ps)] at H3
          have H3 := Lib.hid H3
          obtain ⟨np, hnp⟩ : ∃ n, n = ps.length := ⟨_, rfl⟩
          rw [← hnp] at H3 hpl ⊢
          have HNP := Lib.hid hnp
          clear ha H2 hnp
          try simp only
          go_wp2_with fail
          with_reducible refine H3.out.mono ?_
          rintro e w7 ⟨rfl, q, rfl⟩
          have HA7 := Lib.hid (HA6.out.drewN (Stays.sep (Stays.sep (JCl.stays _ _ _ _) (TxR.stays _ _)) (TxR.stays _ _)) q)
          generalize w6.drewN q = w7 at HA7 ⊢
          have H4 := equal_texts ra kA rc kC ps.length K.length ps K w7 (HA7.out.left.right.know fun _ hp => hp.row) (HA7.out.right.know fun _ hp => hp.row) rfl rfl (by rw [← HNP.out]; omega) (by rw [← HM.out]; omega)
          clear HA6 H3
          rcases HOR.out with hpk | ⟨hpk, hln⟩
          case' inl =>
            rw [decide_eq_true hpk, ← HNP.out, ← HM.out] at H4
            have H4 := Lib.hid H4
            clear hpk HOR
            go_wp2_with fail
            with_reducible refine H4.out.mono ?_
            rintro e w8 ⟨rfl, q2, rfl⟩
            have HF : Hid (After [] w (w7.drewN q2) (Sep (JCl jb2 pb ps z2) (TxR (.slice ra ps.length rc) ps) (w7.drewN q2))) := (HA7.out.drewN (Stays.sep (Stays.sep (JCl.stays _ _ _ _) (TxR.stays _ _)) (TxR.stays _ _)) q2).left
            generalize w7.drewN q2 = wF at HF ⊢
            clear H4 HA7
          case' inr =>
            have hne : ¬ ps = K := fun h => by
              rw [h] at hpk
              have := congrArg List.length hpk
              rw [List.length_append] at this
              simp at this
            rw [decide_eq_false hne, ← HNP.out, ← HM.out] at H4
            have H4 := Lib.hid H4
            have ene : (st l).toList.isEmpty = false := by
              rw [Go.Lib.toList_data, st_toList]
              cases l with
              | nil => exact absurd rfl hln
              | cons x r => rfl
            have HPK := Lib.hid hpk
            clear hpk hln hne HOR
            go_wp2_with fail
            with_reducible refine H4.out.mono ?_
            rintro e w8 ⟨rfl, q2, rfl⟩
            have HA8 := Lib.hid (HA7.out.drewN (Stays.sep (Stays.sep (JCl.stays _ _ _ _) (TxR.stays _ _)) (TxR.stays _ _)) q2)
            generalize w7.drewN q2 = w8 at HA8 ⊢
            obtain ⟨fK, hfK⟩ := HA8.out.right.know fun fp hp => (⟨fp, hp⟩ : ∃ f, TxR (.slice kA K.length kC) K w8 f)
            have H5 := clone_texts (.slice kA K.length kC) K w8 fK hfK (by rw [← HM.out]; omega)
            rw [← HM.out] at H5
            have H5 := Lib.hid H5
            clear H4 HA7 hfK
            go_wp2_with fail
            with_reducible refine H5.out.mono ?_
            rintro e w9 ⟨v4, rfl, hb9, hr9, hf9⟩
            have HA9 := Lib.hid (HA8.out.left.fresh (Stays.sep (JCl.stays _ _ _ _) (TxR.stays _ _)) hb9 hr9 hf9)
            obtain ⟨ya, yc, rfl⟩ := hr9.form
            have HOW : Hid (w9.ownsRow 0 9 1 (.slice ya m yc) m (sv K)) := by
              show w9.ownsRow _ _ _ _ _ _
              rw [HM.out]; exact hr9.1
            have HG : Hid (∀ (v' : Value) (wA : World), wA.ownsRow 0 9 1 v' (m + 1) (sv K ++ #[Value.string (st l)].toList) → (w9.alloc (.cells #[.string (st l)] 9)).grownBy wA (Value.slice ya m yc).ownBlock → (v'.ownBlock = (Value.slice ya m yc).ownBlock ∨ v'.ownBlock = some (w9.alloc (.cells #[.string (st l)] 9)).heap.size) →
                After [] w wA (Sep (Sep (JCl jb2 pb ps z2) (TxR (.slice ra ps.length rc) ps)) (TxR v' (K ++ [l])) wA)) := fun v' wA h1 h2 h3 => by
              have hA := HA9.out.since (Stays.sep (Stays.sep (JCl.stays _ _ _ _) (TxR.stays _ _)) (TxR.stays _ _)) ((Below.refl w9.heap.size w9).alloc (Nat.le_refl _) (.cells #[.string (st l)] 9))
              rw [HM.out] at h2 h3
              exact hA.goR (Stays.sep (JCl.stays _ _ _ _) (TxR.stays _ _)) fun f hf => TxR.grow hf h2 (by rw [List.length_append, ← HM.out, show sv (K ++ [l]) = sv K ++ #[Value.string (st l)].toList by simp [sv]]; exact h1) h3
            rw [← HM.out]
            clear H5 hb9 hr9 hf9 HA8
            go_wp2_with (at_builtin; refine wpList_append_want ?hw (.tmp 144) (.tmp 146) 22 9 ?ho 0 (.string ⟨#[]⟩) 1 16 ?h1 ?h2 ?h3 ?h4 (.slice ya m yc) m (sv K) ?h5 w9.heap.size 1 ?h6 ?h7 #[.string (st l)] ?h8 ?h9 ?h10 ?h11 ?h12 ?h13 ?h14)
            case ho => rfl
            case h1 => exact Try.underlying22
            case h2 => exact infoStr
            case h3 => rfl
            case h4 => omega
            case h5 => rfl
            case h6 => rfl
            case h7 => exact HOW.out.alloc _
            case h8 => exact Blk.new w9 _ _
            case h9 => rfl
            case h10 => simp [Value.oneCell']
            case h11 => unfold maxLen; omega
            case h12 => omega
            case h13 => exact Nat.zero_le _
            intro v' wA h1 h2 h3
            have HAA := Lib.hid (HG.out v' wA h1 h2 (by simpa using h3))
            obtain ⟨ba, bc, rfl⟩ := own_slice h1
            clear h1 h2 h3
            have H6 := equal_texts ra ba rc bc ps.length (m + 1) ps (K ++ [l]) wA (HAA.out.left.right.know fun _ hp => hp.row) (HAA.out.right.know fun _ hp => hp.row) rfl (by rw [List.length_append, ← HM.out]; rfl) (by rw [← HNP.out]; omega) (by omega)
            rw [decide_eq_true HPK.out, ← HNP.out] at H6
            have H6 := Lib.hid H6
            clear HG HOW HA9
            go_wp2_with fail
            with_reducible refine H6.out.mono ?_
            rintro e wB ⟨rfl, q3, rfl⟩
            have HF : Hid (After [] w (wA.drewN q3) (Sep (JCl jb2 pb ps z2) (TxR (.slice ra ps.length rc) ps) (wA.drewN q3))) := (HAA.out.drewN (Stays.sep (Stays.sep (JCl.stays _ _ _ _) (TxR.stays _ _)) (TxR.stays _ _)) q3).left
            generalize wA.drewN q3 = wF at HF ⊢
            clear H6 HAA
          all_goals
            go_wp2
            go_loopg [19, 25, 154] n2 (fun gk ro _ i wr => ∃ (j : Nat) (L : List (List UInt8)) (z : Nat) (rv : Value), j ≤ n2 ∧ i = .int .i64 j ∧ ro = rv ∧ n2 - j ≤ gk ∧ Hid (AllOk L) ∧ Hid (used L + z = 300) ∧ Hid (After [] w wr (Sep (JCl jb2 pb L z) (TxR rv L) wr)))
            case atStart => exact ⟨0, ps, z2, .slice ra np rc, Nat.zero_le _, rfl, rfl, by omega, HOK.out, HUS.out, by rw [HNP.out]; exact HF.out⟩
            case round =>
              clear HF HOK HUS HNP
              obtain ⟨j, K, z, kv, hj, rfl, rfl, hgk, HK, HZ, HA⟩ := hrel
              obtain ⟨ka, kc, rfl⟩ := HA.out.right.know fun _ hp => hp.form
              have hkl : K.length ≤ 300 := by have := HK.out.few; have := HZ.out; omega
              obtain ⟨m, hm⟩ : ∃ m, m = K.length := ⟨_, rfl⟩
              have HM := Lib.hid hm
              rw [← hm] at hkl ⊢
              clear hm
              by_cases hlt : j < n2
              · obtain ⟨x, hx⟩ : ∃ x, l2[j]? = some x := ⟨_, List.getElem?_eq_getElem (by rw [← HN2.out]; exact hlt)⟩
                obtain ⟨bb, off, ea, hc⟩ := (HR2.out.keep HA.out.bel) (by rw [← HN2.out]; omega)
                subst ea
                have cj := hc j x hx
                have hx4 := HFW2.out.each x (List.mem_of_getElem? hx)
                obtain ⟨L, z', t, hnx⟩ := next_of HK.out z x
                have H1 := Lib.hid (HA.out.call1 (f := 12) (args := #[.pointer (some ⟨jb2, 0, none⟩), .string (st x)]) (p := Try.prog) fun fp hp => Sep.callL1 (TxR.stays _ _) hp fun f hf => append_cl jb2 pb hnx f wr hf HK.out (by have := HZ.out; omega) (by omega))
                have HNX := Lib.hid hnx
                have hjz : (0 : Int) ≤ (j : Int) := by omega
                have hjn : (j : Int) < (n2 : Int) := by omega
                clear hc hx hnx hx4
                by_cases h0 : t = 0
                · subst h0
                  go_wp2_with fail
                  with_reducible refine H1.out.mono ?_
                  rintro e w5 ⟨rfl, ha⟩
                  have HL : Hid (L = K ++ [x]) := by
                    rcases HNX.out.or with ⟨_, h⟩ | ⟨h, _⟩
                    · exact h
                    · exact absurd rfl h
                  have HOW : Hid (w5.ownsRow 0 9 1 (.slice ka m kc) m (sv K)) := by
                    have := ha.right.know fun _ hp => hp.1
                    rw [HM.out]; exact this
                  have HG : Hid (∀ (v' : Value) (w6 : World), w6.ownsRow 0 9 1 v' (m + 1) (sv K ++ #[Value.string (st x)].toList) → (w5.alloc (.cells #[.string (st x)] 9)).grownBy w6 (Value.slice ka m kc).ownBlock → (v'.ownBlock = (Value.slice ka m kc).ownBlock ∨ v'.ownBlock = some (w5.alloc (.cells #[.string (st x)] 9)).heap.size) → After [] w w6 (Sep (JCl jb2 pb L z') (TxR v' L) w6)) := fun v' w6 h1 h2 h3 => by
                    have hA := ha.since (Stays.sep (JCl.stays _ _ _ _) (TxR.stays _ _)) ((Below.refl w5.heap.size w5).alloc (Nat.le_refl _) (.cells #[.string (st x)] 9))
                    rw [HL.out] at hA ⊢
                    rw [HM.out] at h2 h3
                    exact hA.goR (JCl.stays _ _ _ _) fun f hf => TxR.grow hf h2 (by rw [List.length_append, ← HM.out, show sv (K ++ [x]) = sv K ++ #[Value.string (st x)].toList by simp [sv]]; exact h1) h3
                  clear ha H1
                  go_wp2_with (at_builtin; refine wpList_append_wide rfl (.tmp 162) (.tmp 164) 22 9 rfl 0 (.string ⟨#[]⟩) 1 16 Try.underlying22 infoStr rfl (by omega) (.slice ka m kc) m _ rfl w5.heap.size 1 rfl (HOW.out.alloc _) #[.string (st x)] (Blk.new w5 _ _) rfl (by simp [Value.oneCell']) (by unfold maxLen; omega) (by omega) (Nat.zero_le _) ?_; intro v' w6 h1 h2 h3; have HA6 := Lib.hid (HG.out v' w6 h1 h2 h3); clear h1 h2 h3)
                  go_wp2
                  go_roundg (n2 - (j + 1))
                  case measure => omega
                  case rel => exact ⟨j + 1, L, z', v', by omega, by go_num, rfl, by omega, HNX.out.ok, by show _ = _; rw [HNX.out.room, HZ.out], HA6.out⟩
                · have tn : (t == 0) = false := by rw [beq_eq_false_iff_ne]; exact h0
                  have HL : Hid (L = K) := by
                    rcases HNX.out.or with ⟨h, _⟩ | ⟨_, h⟩
                    · exact absurd h h0
                    · exact h
                  clear h0
                  go_wp2_with fail
                  with_reducible refine H1.out.mono ?_
                  rintro e w5 ⟨rfl, ha⟩
                  have HA5 := Lib.hid ha
                  clear ha H1
                  go_wp2
                  go_roundg (n2 - (j + 1))
                  case measure => omega
                  case rel =>
                    refine ⟨j + 1, L, z', .slice ka m kc, by omega, by go_num, rfl, by omega, HNX.out.ok, by show _ = _; rw [HNX.out.room, HZ.out], ?_⟩
                    have := HA5.out
                    rw [← HM.out] at this
                    rw [HL.out] at this ⊢
                    exact this
              · have e : j = n2 := by omega
                subst e
                have H7 := Lib.hid (reopen_any (TxR.stays _ _) HA.out HK.out (by have := HZ.out; omega))
                clear hgk hlt
                go_wp2_with fail
                with_reducible refine H7.out.mono ?_
                rintro e wC ⟨⟨jb4, v4⟩, rfl, ha⟩
                try simp only at ha
                obtain ⟨za, zc, hv4⟩ := ha.right.know fun _ hp => hp.form
                subst hv4
                have H8 := equal_texts za ka zc kc K.length K.length K K wC (ha.right.know fun _ hp => hp.row) (ha.left.right.know fun _ hp => hp.row) rfl rfl (by rw [← HM.out]; omega) (by rw [← HM.out]; omega)
                rw [decide_eq_true (rfl : K = K), ← HM.out] at H8
                have H8 := Lib.hid H8
                have HA8 := Lib.hid ha
                try simp only
                rw [← HM.out]
                clear ha H7
                go_wp2_with fail
                with_reducible refine H8.out.mono ?_
                rintro e wD ⟨rfl, q4, rfl⟩
                have HZZ : Hid (Below w.heap.size w (wC.drewN q4)) := (HA8.out.drewN (Stays.sep (Stays.sep (JCl.stays _ _ _ _) (TxR.stays _ _)) (TxR.stays _ _)) q4).bel
                generalize wC.drewN q4 = wD at HZZ ⊢
                clear H8 HA8
                go_wp2
                go_ret
                exact ⟨rfl, HZZ.out⟩
end Go.Proofs.Ytbpklikmldpeiaa
