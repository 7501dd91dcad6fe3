/-
  Contracts of soukref05.New and soukref05.Disk.Write.
-/
import Derived.Test.YtbpklikmldpeiaaRDskAMA
namespace Go.Proofs.Ytbpklikmldpeiaa
open Go.RowKit Go.Lib

theorem infoRWrite : (Try.prog.info? 99).map (fun i => (i.zero, i.size, i.bytes)) = some (some (.agg #[.int .i64 0, .string ⟨#[]⟩]), 2, 24) := by kernel_rfl

set_option maxHeartbeats 2000000 in
theorem rNew_any (n : Nat) (w : World) (h : n ≤ 65536) :
    Calls Try.prog 9 #[.int .i64 n] w fun e w' => ∃ b fp, e = .returned (.pointer (some ⟨b, 0, none⟩)) ∧ RD w' w.heap.size b (newDS n) fp ∧ Below w.heap.size w w' := by
  obtain ⟨B, hB⟩ : ∃ B, B = w.heap.size := ⟨_, rfl⟩
  have HBE := Lib.hid hB
  have hbx : Blk (w.alloc (.cells #[.slice none 0 0, .slice none 0 0, .int .i64 (-1), .bool false] 44)) w.heap.size 44 #[.slice none 0 0, .slice none 0 0, .int .i64 (-1), .bool false] := Blk.new w _ _
  have HBX := Lib.hid hbx
  have HB0 := Lib.hid ((Below.refl w.heap.size w).alloc (Nat.le_refl _) (.cells #[.slice none 0 0, .slice none 0 0, .int .i64 (-1), .bool false] 44))
  have HEM := fun W => Lib.hid (rEmpty_any W)
  rw [← hB] at HBX HB0 ⊢
  clear hbx hB
  go_enter Try.func9, Try.ntmps9
  go_wp2_with ((go_at_call 28; refine (HEM _).out.mono ?_; rintro e w' ⟨rfl, rfl⟩))
  obtain ⟨W, hW⟩ : ∃ W, W = w.alloc (.cells #[.slice none 0 0, .slice none 0 0, .int .i64 (-1), .bool false] 44) := ⟨_, rfl⟩
  rw [← hW] at HBX HB0 ⊢
  clear hW
  rw [← HBE.out]
  go_loopg [5] n (fun gk i wr => ∃ (k : Nat) (a : Option Addr) (c : Nat), k ≤ n ∧ i = .int .i64 k ∧ n - k ≤ gk ∧ Hid (wr.ownsRow B 9 1 (.slice a k c) k (sv (List.replicate k z64))) ∧ Hid (Blk wr B 44 #[.slice a k c, .slice none 0 0, .int .i64 (-1), .bool false]) ∧ Hid (Below B w wr))
  case atStart => exact ⟨0, none, 0, Nat.zero_le _, rfl, by omega, World.ownsRow_nil _ _ _ _, HBX.out, HB0.out⟩
  case round =>
    obtain ⟨k, a, c, hk, rfl, hgk, HR, HX, HB⟩ := hrel
    by_cases hlt : k < n
    · have d0 : wr.cell? ⟨B, 0, none⟩ = some (.slice a k c) := HX.out.cell 0
      have hBl : B ≤ wr.heap.size := Nat.le_of_lt HX.out.lt
      have hne := own_ne HR.out HX.out (by decide)
      have HNE := Lib.hid hne
      clear hne
      go_wp2_with (at_builtin; refine wpList_append_wide rfl (.tmp 18) (.tmp 20) 22 9 rfl B (.string ⟨#[]⟩) 1 16 Try.underlying22 infoStr rfl (by omega) (.slice a k c) k _ rfl wr.heap.size 1 rfl (HR.out.alloc _) #[.string (st z64)] (Blk.new wr _ _) rfl (by simp [Value.oneCell']) (by unfold maxLen; omega) (by omega) (by simp; omega) ?_; intro v' w' h1 h2 h3; obtain ⟨a1, c1, rfl⟩ := own_slice2 h1; have HX2 := Lib.hid ((HX.out.alloc (.cells #[.string (st z64)] 9)).kept h2 (fun e => HNE.out B e.symm rfl)); have e0 := HX2.out.cell 0; have g0 := HX2.out.frozen 0; have HO2 := Lib.hid h1; have HB2 := Lib.hid ((HB.out.alloc hBl (.cells #[.string (st z64)] 9)).grown h2 (by simp; omega) (fun k hk => (HR.out.lt k hk).1)); clear h1 h2 h3)
      have HX3 := Lib.hid (HX2.out.set 0 (.slice a1 (k + 1) c1))
      have hne := own_ne HO2.out HX2.out (by decide)
      have HO3 := Lib.hid (own_stp HO2.out ((Stp.refl [B] w').setCell (x := ⟨B, 0, none⟩) (.inl (by simp)) (.slice a1 (k + 1) c1)) (fun k hk => by simpa using hne k hk))
      have HB3 := Lib.hid (HB2.out.setCell (p := ⟨B, 0, none⟩) (Nat.le_refl _) (.slice a1 (k + 1) c1))
      clear hne
      go_roundg (n - (k + 1))
      case measure => omega
      case rel =>
        refine ⟨k + 1, a1, c1, by omega, by go_num, by omega, ?_, HX3.out, HB3.out⟩
        have e : sv (List.replicate (k + 1) z64) = sv (List.replicate k z64) ++ [.string (st z64)] := by rw [List.replicate_succ', sv, List.map_append]; rfl
        rw [e]
        exact HO3.out
    · have e : k = n := by omega
      subst e
      clear hgk
      go_wp2
      go_ret
      exact ⟨B, fpR B (.slice a k c) (.slice none 0 0), rfl, ⟨k, .slice a k c, .slice none 0 0, ⟨newDS_ok h, by simp [newDS], HX.out, by simpa [newDS] using HR.out, World.ownsRow_nil _ _ _ _, Nat.le_refl _⟩, rfl⟩, HB.out⟩

set_option maxHeartbeats 2000000 in
theorem rWrite_any (B b : Nat) (s : DS) (fp : List Nat) (k : Int) (d : List UInt8) (w : World) (h : RD w B b s fp) (hroom : ((s.pe.length + 1) + (s.pe.length + 1) / 4 + 192) * 24 ≤ 281474976710656) :
    Calls Try.prog 24 #[.pointer (some ⟨b, 0, none⟩), .int .i64 k, .string (st d)] w fun e w' => e = .returned (.int .i64 (s.write k d).2) ∧ After fp w w' (RD w' B b (s.write k d).1) := by
  obtain ⟨n, vb, vp, h, rfl⟩ := h
  obtain ⟨ba, bc, rfl⟩ := own_slice2 h.row
  obtain ⟨pa, pc, rfl⟩ := own_slice2 h.own
  have c0 : w.cell? ⟨b, 0, none⟩ = some (.slice ba n bc) := h.box.cell 0
  have c1 : w.cell? ⟨b, 1, none⟩ = some (.slice pa s.pe.length pc) := h.box.cell 1
  have c3 : w.cell? ⟨b, 3, none⟩ = some (.bool s.dead) := h.box.cell 3
  have hn := h.ok.len
  rw [← h.num] at hn
  have H := Lib.hid h
  obtain ⟨dd, hdd⟩ : ∃ dd, dd = s.dead := ⟨_, rfl⟩
  rw [← hdd] at c3
  have HD := Lib.hid hdd
  have hsd := st_size d
  have HROOM := Lib.hid hroom
  have HN := Lib.hid h.num
  clear h hdd hroom
  cases dd with
  | true =>
    have hr : s.refusal k = 7 := by unfold DS.refusal; rw [if_pos HD.out.symm]
    have HE : Hid (s.write k d = (s, 7)) := by show _ = _; unfold DS.write; rw [if_pos (by rw [hr]; decide), hr]
    clear hr
    go_enter Try.func24, Try.ntmps24
    go_wp2
    go_ret
    rw [HE.out]
    exact ⟨rfl, After.of (Stp.refl _ _) ⟨n, _, _, H.out, rfl⟩⟩
  | false =>
    by_cases hin : 0 ≤ k ∧ k < (n : Int)
    · obtain ⟨hk0, hk1⟩ := hin
      have hr : s.refusal k = 0 := by unfold DS.refusal; rw [if_neg (by rw [← HD.out]; decide), if_neg (by rw [← HN.out]; omega)]
      by_cases hd : d.length = 64
      · rw [hd] at hsd
        obtain ⟨m, hm⟩ : ∃ m : Nat, k = (m : Int) := ⟨k.toNat, by omega⟩
        subst hm
        have HE : Hid (s.write m d = ((s.pend m d).thing.1, bit7 (s.pend m d).thing.2)) := by
          show _ = _
          unfold DS.write
          rw [if_neg (by rw [hr]; decide), if_neg (by simpa using hd), Int.toNat_natCast]
        obtain ⟨np, hnp⟩ : ∃ np, np = s.pe.length := ⟨_, rfl⟩
        have HNP := Lib.hid hnp
        rw [← hnp] at c1 HROOM ⊢
        have HBX : Hid (Blk w b 44 #[.slice ba n bc, .slice pa np pc, .int .i64 s.fu, .bool s.dead]) := by rw [hnp]; exact H.out.box
        have HOW : Hid (w.ownsRow B 99 2 (.slice pa np pc) np (s.pe.flatMap cR)) := by rw [hnp]; exact H.out.own
        have HNE := Lib.hid (own_ne HOW.out HBX.out (by decide))
        have HNR := Lib.hid (own_ne_own HOW.out H.out.row (by decide))
        have hpl : np ≤ 4611686018427387904 := by have := HROOM.out; omega
        have hBl : B ≤ w.heap.size := Nat.le_trans H.out.hb (Nat.le_of_lt H.out.box.lt)
        have HIN : Hid (m < s.bl.length) := by show _ < _; rw [← HN.out]; omega
        have HD64 := Lib.hid hd
        clear hr hnp hd
        go_enter Try.func24, Try.ntmps24
        go_wp2_with (first
          | (at_builtin; refine wpList_append_wide rfl (.tmp 30) (.tmp 34) 42 99 rfl B _ 2 24 Try.underlying42 infoRWrite rfl (by omega) (.slice pa np pc) np _ rfl w.heap.size 1 rfl (HOW.out.alloc _) #[.int .i64 (m : Nat), .string (st d)] (Blk.new w _ _) rfl (by simp [Value.oneCell']) (by unfold maxLen; omega) HROOM.out (by simp; omega) ?_; intro v' w' h1 h2 h3; obtain ⟨a1, c1', rfl⟩ := own_slice2 h1; have HX2 := Lib.hid ((HBX.out.alloc (.cells #[.int .i64 (m : Nat), .string (st d)] 99)).kept h2 (fun e => HNE.out b e.symm rfl)); have e1 := HX2.out.cell 1; have g1 := HX2.out.frozen 1; have HO2 := Lib.hid h1; have H2 := Lib.hid h2; have H3 := Lib.hid h3; clear h1 h2 h3)
          | fail)
        have hST : Stp (fpR b (.slice ba n bc) (.slice pa np pc)) w w' := ((Stp.refl _ w).alloc _).trans (fp' := fpR b (.slice ba n bc) (.slice pa np pc)) (Stp.of_grown_row H2.out (fun k hk => mem_fpR.2 (.inr (.inr hk)))) (fun _ hk => .inl hk)
        have hST2 : Stp (Value.slice pa np pc).ownBlock.toList w w' := ((Stp.refl _ w).alloc _).trans (fp' := (Value.slice pa np pc).ownBlock.toList) (Stp.of_grown_row H2.out (fun k hk => by simp [hk])) (fun _ hk => .inl hk)
        have hRW : w'.ownsRow B 9 1 (.slice ba n bc) n (sv s.bl) := own_stp H.out.row hST2 (fun k hk hm => HNR.out k (by simpa [Option.mem_toList] using hm) hk)
        have hX3 := HX2.out.set 1 (.slice a1 (np + 1) c1')
        have hRW3 := own_stp hRW ((Stp.refl [b] w').setCell (x := ⟨b, 1, none⟩) (.inl (by simp)) (.slice a1 (np + 1) c1')) (fun k hk => by simpa using own_ne hRW HX2.out (by decide) k hk)
        have hO3 := own_stp HO2.out ((Stp.refl [b] w').setCell (x := ⟨b, 1, none⟩) (.inl (by simp)) (.slice a1 (np + 1) c1')) (fun k hk => by simpa using own_ne HO2.out HX2.out (by decide) k hk)
        have hpl2 : (s.pend m d).pe.length = np + 1 := by rw [HNP.out]; simp [DS.pend]
        have hpf : (s.pend m d).pe.flatMap cR = s.pe.flatMap cR ++ [.int .i64 (m : Nat), .string (st d)] := by simp [DS.pend, cR]
        have HRD : Hid (RD (w'.setCell ⟨b, 1, none⟩ (.slice a1 (np + 1) c1')) B b (s.pend m d) (fpR b (.slice ba n bc) (.slice a1 (np + 1) c1'))) :=
          ⟨n, _, _, ⟨H.out.ok.pend HIN.out HD64.out, H.out.num, hX3, hRW3, by rw [hpl2, hpf]; exact hO3, H.out.hb⟩, rfl⟩
        have HS3 : Hid (Stp (fpR b (.slice ba n bc) (.slice pa np pc)) w (w'.setCell ⟨b, 1, none⟩ (.slice a1 (np + 1) c1'))) := hST.setCell (x := ⟨b, 1, none⟩) (.inl (mem_fpR.2 (.inl rfl))) _
        have HFR : Hid (∀ k ∈ fpR b (.slice ba n bc) (.slice a1 (np + 1) c1'), k ∈ fpR b (.slice ba n bc) (.slice pa np pc) ∨ w.heap.size ≤ k) := fun k hk => by
          rcases mem_fpR.1 hk with e | e | e
          · exact .inl (mem_fpR.2 (.inl e))
          · exact .inl (mem_fpR.2 (.inr (.inl e)))
          · rcases H3.out with h | h
            · exact .inl (mem_fpR.2 (.inr (.inr (by rw [← h]; exact e))))
            · rw [h] at e
              injection e with e
              simp at e
              exact .inr (by omega)
        have HTH := Lib.hid (rThing_any B b (s.pend m d) _ _ HRD.out)
        clear hST hST2 hRW hX3 hRW3 hO3 hpl2 hpf e1 g1
        have HEV : Hid (∃ t, t = (s.pend m d).thing.2) := ⟨_, rfl⟩
        obtain ⟨t, ht⟩ := HEV.out
        rw [← ht] at HTH HE
        clear ht
        refine HTH.out.mono ?_
        rintro e w4 ⟨rfl, haf⟩
        have HAF := Lib.hid haf
        clear haf
        cases t with
        | true =>
          go_wp2
          go_ret
          rw [HE.out]
          exact ⟨rfl, After.step HS3.out HFR.out HAF.out⟩
        | false =>
          go_wp2
          go_ret
          rw [HE.out]
          exact ⟨rfl, After.step HS3.out HFR.out HAF.out⟩
      · have HE : Hid (s.write k d = (s, 1)) := by
          show _ = _
          unfold DS.write
          rw [if_neg (by rw [hr]; decide), if_pos hd]
        have td : ((d.length : Int) == 64) = false := by rw [beq_eq_false_iff_ne]; omega
        clear hr hd
        go_enter Try.func24, Try.ntmps24
        go_wp2
        go_ret
        rw [HE.out]
        exact ⟨rfl, After.of (Stp.refl _ _) ⟨n, _, _, H.out, rfl⟩⟩
    · have hr : s.refusal k = 8 := by unfold DS.refusal; rw [if_neg (by rw [← HD.out]; decide), if_pos (by rw [← HN.out]; omega)]
      have HE : Hid (s.write k d = (s, 8)) := by show _ = _; unfold DS.write; rw [if_pos (by rw [hr]; decide), hr]
      clear hr
      by_cases hk0 : k < 0
      · clear hin
        go_enter Try.func24, Try.ntmps24
        go_wp2
        go_ret
        rw [HE.out]
        exact ⟨rfl, After.of (Stp.refl _ _) ⟨n, _, _, H.out, rfl⟩⟩
      · have hk1 : (n : Int) ≤ k := by omega
        clear hin
        go_enter Try.func24, Try.ntmps24
        go_wp2
        go_ret
        rw [HE.out]
        exact ⟨rfl, After.of (Stp.refl _ _) ⟨n, _, _, H.out, rfl⟩⟩
end Go.Proofs.Ytbpklikmldpeiaa
