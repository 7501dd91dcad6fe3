/-
  The walk of souklaw16.GateAsks.
-/
import Derived.Test.YtkhkcpoadccflaaGtM
import Derived.Deep.CutRange
import Derived.Laws.StructEq
namespace Go.Proofs.Ytkhkcpoadccflaa
open Go.RowKit Go.Deep Go.Lib

set_option maxHeartbeats 1600000 in
set_option maxRecDepth 100000 in
theorem asks_many (a : Option Addr) (n c : Nat) (w : World) (hn : 100 < n) :
    Calls Try.prog 3 #[.slice a n c] w fun e w' => e = .returned (.bool true) ∧ Below w.heap.size w w' := by
  have HL := Lib.hid lives16_any
  have hgt : (100 : Int) < (n : Int) := by omega
  clear hn
  go_enter Try.func3, Try.ntmps3
  go_wp2_with fail
  refine (HL.out _).mono ?_
  rintro e w1 ⟨rfl, hb⟩
  have HB := Lib.hid hb
  clear hb
  go_wp2_with fail
  refine (HL.out _).mono ?_
  rintro e w2 ⟨rfl, hb⟩
  have HB2 := Lib.hid (bel_onG HB.out HB.out.size hb)
  clear hb HL
  go_wp2
  go_ret
  exact ⟨rfl, HB2.out⟩

set_option maxHeartbeats 12800000 in
set_option maxRecDepth 100000 in
theorem asks_few (a : Option Addr) (cp : Nat) (xs : List Ga) (w : World) (hr : RowG 9 cGa w a xs) (hok : ∀ x ∈ xs, OkGa x) (hn : xs.length ≤ 100) :
    Calls Try.prog 3 #[.slice a xs.length cp] w fun e w' => e = .returned (.bool true) ∧ Below w.heap.size w w' := by
  have HL := Lib.hid lives16_any
  have HR := Lib.hid hr
  have HOK := Lib.hid hok
  obtain ⟨n, hnn⟩ : ∃ n, n = xs.length := ⟨_, rfl⟩
  have HN := Lib.hid hnn
  rw [← hnn] at hn ⊢
  have hgt : ¬ (100 : Int) < (n : Int) := by omega
  clear hr hok hnn
  go_enter Try.func3, Try.ntmps3
  go_wp2_with fail
  refine (HL.out _).mono ?_
  rintro e w1 ⟨rfl, hb⟩
  have HS0 : Hid (GG w.heap.size w ((w1.alloc (.cells #[.slice none 0 0, .slice none 0 0] 28)).alloc (.cells #[.slice none 0 0, .slice none 0 0] 33)) w1.heap.size (w1.heap.size + 1) [] [] [] [] (.slice none 0 0) (.slice none 0 0) (.slice none 0 0) (.slice none 0 0)) := by
    have h := GG.start w1 w.heap.size hb.size (Below.refl _ _)
    exact ⟨h.prog, h.doc, h.apart, hb.trans h.below⟩
  clear hb HL
  go_wp2
  obtain ⟨b, hb⟩ : ∃ b, b = w1.heap.size := ⟨_, rfl⟩
  obtain ⟨mb, hmb⟩ : ∃ mb, mb = w1.heap.size + 1 := ⟨_, rfl⟩
  rw [← hmb, ← hb] at HS0
  try rw [← hmb]
  try rw [← hb]
  generalize (w1.alloc (.cells #[.slice none 0 0, .slice none 0 0] 28)).alloc (.cells #[.slice none 0 0, .slice none 0 0] 33) = w2 at HS0 ⊢
  clear hb hmb
  go_loopg [6, 7, 8, 9, 10, 28, 34, 42] n (fun gk _ _ _ _ _ i _ _ wr => ∃ (k : Nat) (L : List Rc) (Q : List Rp) (v1 v2 u1 u2 : Value), k ≤ n ∧ i = .int .i64 k ∧ n - k ≤ gk ∧ L.length ≤ k ∧ Q.length ≤ k ∧ Hid (GG w.heap.size w wr b mb L Q L Q v1 v2 u1 u2))
  case atStart => exact ⟨0, [], [], _, _, _, _, Nat.zero_le _, rfl, by omega, Nat.le_refl _, Nat.le_refl _, HS0.out⟩
  case round =>
    clear HS0
    obtain ⟨k, L, Q, v1, v2, u1, u2, hk, rfl, hgk, hLk, hQk, HS⟩ := hrel
    by_cases hlt : k < n
    · obtain ⟨x, hx⟩ : ∃ x, xs[k]? = some x := ⟨_, List.getElem?_eq_getElem (by rw [← HN.out]; exact hlt)⟩
      obtain ⟨b1, off, rfl⟩ := HR.out.form (by rw [← HN.out]; omega)
      obtain ⟨c0, c1, c2, c3, c4, c5, c6, c7, c8⟩ := cells9 (HR.out.keep HS.out.below) hx
      obtain ⟨hch, hn1, hn2⟩ := HOK.out _ (List.mem_of_getElem? hx)
      obtain ⟨⟨r0, r1, r2, r3, r4, r5⟩, ch, late, num⟩ := x
      simp only at hch hn1 hn2 c0 c1 c2 c3 c4 c5 c6 c7 c8
      have hkz : (0 : Int) ≤ (k : Int) := by omega
      have hkn : (k : Int) < (n : Int) := by omega
      have HCH := Lib.hid hch
      have hLl : L.length < 1000000 := by omega
      have hQl : Q.length ≤ 1000000 := by omega
      obtain ⟨ba, hba⟩ : ∃ ba, ba = wr.heap.size := ⟨_, rfl⟩
      have hbe : Below wr.heap.size wr (wr.alloc (.cells #[.string (st r0), .string (st r1), .string (st r2), .string (st r3), .int .i64 r4, .int .i64 r5, .int .u8 (ch : Int), .bool late, .int .i8 num] 38)) := (Below.refl _ wr).alloc (Nat.le_refl _) _
      have HA : Hid (GGA w.heap.size w (wr.alloc (.cells #[.string (st r0), .string (st r1), .string (st r2), .string (st r3), .int .i64 r4, .int .i64 r5, .int .u8 (ch : Int), .bool late, .int .i8 num] 38)) b mb ba ((r0, r1, r2, r3, r4, r5), ch, late, num) L Q L Q v1 v2 u1 u2) := by
        refine ⟨HS.out.keep hbe, by rw [hba]; exact Blk.new wr _ _, fun hm => ?_, fun hm => ?_⟩
        · have := (HS.out.prog.lt _ hm).1; omega
        · have := (HS.out.doc.lt _ hm).1; omega
      clear hx hbe HS hch
      go_upto_if 33 with fail
      rw [← hba]
      generalize wr.alloc (.cells #[.string (st r0), .string (st r1), .string (st r2), .string (st r3), .int .i64 r4, .int .i64 r5, .int .u8 (ch : Int), .bool late, .int .i8 num] 38) = w3 at HA ⊢
      clear c0 c1 c2 c3 c4 c5 c6 c7 c8 hba
      go_cut [7, 8, 9, 10, 28] from 28 to 92 (fun _ _ _ _ i wx => i = .int .i64 k ∧ ∃ (L' : List Rc) (Q' : List Rp) (a1 a2 d1 d2 : Value), L'.length ≤ k + 1 ∧ Q'.length ≤ k + 1 ∧ Hid (GG w.heap.size w wx b mb L' Q' L' Q' a1 a2 d1 d2))
      case first =>
        cases late with
        | true =>
          by_cases hin : 0 ≤ num ∧ num < (Q.length : Int)
          · obtain ⟨q, hq⟩ : ∃ q : Nat, num = (q : Int) := ⟨num.toNat, by omega⟩
            subst hq
            obtain ⟨y, hy⟩ : ∃ y, Q[q]? = some y := ⟨_, List.getElem?_eq_getElem (by omega)⟩
            have HLE : Hid ((Q.eraseIdx q).length ≤ k + 1) := by show _ ≤ _; have := List.length_eraseIdx_le Q q; omega
            have HLA := Lib.hid (fun W B b L v1 v2 h => late_yes B b L Q v1 v2 q y W h hy hQl)
            have HTA := Lib.hid (fun W B b L v1 v2 h => take_yes B b L Q v1 v2 q y W h hy hQl)
            obtain ⟨y0, y1, y2⟩ := y
            have d8 := HA.out.act.cell 8
            simp only [cGa, List.getElem?_toArray, List.getElem?_cons_zero, List.getElem?_cons_succ] at d8
            have hqn : (q : Int) ≤ 127 := hn2
            have hqz : (0 : Int) ≤ (q : Int) := hin.1
            have H1 : Hid (Calls Try.prog 6 #[.pointer (some ⟨b, 0, none⟩), .int .i64 (q : Int)] w3 fun e w' => e = .returned (.tuple #[.agg #[.string (st y0), .string (st y1), .int .i64 y2], .bool true]) ∧ Turned 28 58 40 w.heap.size b v1 v2 L (Q.eraseIdx q) w3 w') := HLA.out _ _ _ _ _ _ HA.out.gg.prog
            clear hin hy hn1 HLA
            go_wp2_with fail
            refine H1.out.mono ?_
            rintro e w4 ⟨rfl, ht⟩
            obtain ⟨a1, a2, ha⟩ := HA.out.one ht
            obtain ⟨w4b, hw4b⟩ : ∃ w4b, w4b = w4.alloc (.cells #[.string (st y0), .string (st y1), .int .i64 y2] 40) := ⟨_, rfl⟩
            have HA4 : Hid (GGA w.heap.size w w4b b mb ba ((r0, r1, r2, r3, r4, r5), ch, true, (q : Int)) L (Q.eraseIdx q) L Q a1 a2 u1 u2) := by rw [hw4b]; exact ha.keep ((Below.refl _ w4).alloc (Nat.le_refl _) _)
            have H2 : Hid (Calls Try.prog 7 #[.pointer (some ⟨mb, 0, none⟩), .int .i64 (q : Int)] w4b fun e w' => e = .returned (.tuple #[.agg #[.string (st y0), .string (st y1), .int .i64 y2], .bool true]) ∧ Turned 33 52 43 w.heap.size mb u1 u2 L (Q.eraseIdx q) w4b w') := HTA.out _ _ _ _ _ _ HA4.out.gg.doc
            have d8 := HA4.out.act.cell 8
            simp only [cGa, List.getElem?_toArray, List.getElem?_cons_zero, List.getElem?_cons_succ] at d8
            have HXB : Hid (Blk w4b w4.heap.size 40 #[.string (st y0), .string (st y1), .int .i64 y2]) := by rw [hw4b]; exact Blk.new w4 _ _
            have HXN : Hid (w4.heap.size ∉ fpG mb u1 u2) := fun hm => by have := (ha.gg.doc.lt _ hm).1; omega
            rw [hw4b] at d8 H2
            clear ht ha H1 HTA HA
            go_wp2_with fail
            refine H2.out.mono ?_
            rintro e w5 ⟨rfl, ht⟩
            rw [← hw4b] at ht
            have hxb : Blk w5 w4.heap.size 40 #[.string (st y0), .string (st y1), .int .i64 y2] := by
              obtain ⟨_, _, _, hs, _⟩ := ht
              exact HXB.out.stp hs HXN.out
            have x0 := hxb.cell 0
            have x1 := hxb.cell 1
            have x2 := hxb.cell 2
            simp only [List.getElem?_toArray, List.getElem?_cons_zero, List.getElem?_cons_succ] at x0 x1 x2
            have hx5 := World.block_lt_of_cell? w5 _ x0
            obtain ⟨d1, d2, hd⟩ := HA4.out.two ht
            have HZ : Hid (GG w.heap.size w (w5.alloc (.cells #[.string (st y0), .string (st y1), .int .i64 y2] 43)) b mb L (Q.eraseIdx q) L (Q.eraseIdx q) a1 a2 d1 d2) := (hd.keep ((Below.refl _ w5).alloc (Nat.le_refl _) _)).gg
            clear ht hd hxb d8 hw4b HA4 HXB HXN H2
            go_wp2
            go_meet
            case rel => exact ⟨rfl, L, Q.eraseIdx q, a1, a2, d1, d2, by omega, HLE.out, HZ.out⟩
          · have hno : num < 0 ∨ (Q.length : Int) ≤ num := by omega
            have d8 := HA.out.act.cell 8
            simp only [cGa, List.getElem?_toArray, List.getElem?_cons_zero, List.getElem?_cons_succ] at d8
            have H1 := Lib.hid (late_no w.heap.size b L Q v1 v2 num w3 HA.out.gg.prog hno)
            have HTA : Hid (∀ W, Below w3.heap.size w3 W → Calls Try.prog 7 #[.pointer (some ⟨mb, 0, none⟩), .int .i64 num] W fun e w' => e = .returned (.tuple #[.agg #[.string (st []), .string (st []), .int .i64 0], .bool false]) ∧ Below W.heap.size W w') := fun W hW => take_no w.heap.size mb L Q u1 u2 num W (HA.out.keep hW).gg.doc hno
            clear hin hno
            go_wp2_with fail
            refine H1.out.mono ?_
            rintro e w4 ⟨rfl, hb4⟩
            have HB4 : Hid (Below w3.heap.size w3 (w4.alloc (.cells #[.string (st []), .string (st []), .int .i64 0] 40))) := hb4.alloc hb4.size _
            have HA4 := Lib.hid (HA.out.keep HB4.out)
            have d8 := HA4.out.act.cell 8
            simp only [cGa, List.getElem?_toArray, List.getElem?_cons_zero, List.getElem?_cons_succ] at d8
            have HXB : Hid (Blk (w4.alloc (.cells #[.string (st []), .string (st []), .int .i64 0] 40)) w4.heap.size 40 #[.string (st []), .string (st []), .int .i64 0]) := Blk.new w4 _ _
            clear hb4 H1
            go_wp2_with fail
            refine (HTA.out _ HB4.out).mono ?_
            rintro e w5 ⟨rfl, hb5⟩
            have hxb := HXB.out.since hb5
            have x0 := hxb.cell 0
            have x1 := hxb.cell 1
            have x2 := hxb.cell 2
            simp only [List.getElem?_toArray, List.getElem?_cons_zero, List.getElem?_cons_succ] at x0 x1 x2
            have hx5 := World.block_lt_of_cell? w5 _ x0
            have HZ : Hid (GG w.heap.size w (w5.alloc (.cells #[.string (st []), .string (st []), .int .i64 0] 43)) b mb L Q L Q v1 v2 u1 u2) := ((HA4.out.keep hb5).keep ((Below.refl _ w5).alloc (Nat.le_refl _) _)).gg
            clear hb5 hxb d8 HA4 HXB HA HTA HB4
            go_wp2
            go_meet
            case rel => exact ⟨rfl, L, Q, v1, v2, u1, u2, by omega, by omega, HZ.out⟩
        | false =>
          have hb0 : Below w3.heap.size w3 w3.drew := (Below.refl _ w3).drew
          obtain ⟨L1, hL1⟩ : ∃ L1, L1 = askL (r0, r1, r2, r3, r4, r5) (ch % 8) L := ⟨_, rfl⟩
          obtain ⟨Q1, hQ1⟩ : ∃ Q1, Q1 = askQ (r0, r1, r2, r3, r4, r5) (ch % 8) L Q := ⟨_, rfl⟩
          obtain ⟨A1, hA1⟩ : ∃ A1, A1 = askA (r0, r1, r2, r3, r4, r5) (ch % 8) L := ⟨_, rfl⟩
          obtain ⟨n1, hn1e⟩ : ∃ n1, n1 = A1.length := ⟨_, rfl⟩
          have HNE := Lib.hid hn1e
          have HEL := Lib.hid hL1
          have HEQ1 := Lib.hid hQ1
          have HEA := Lib.hid hA1
          have HN1 : Hid (n1 ≤ 1000000) := by show _ ≤ _; rw [hn1e, hA1]; have := askA_len (r0, r1, r2, r3, r4, r5) (ch % 8) L; omega
          have HL1 : Hid (L1.length ≤ k + 1) := by show _ ≤ _; rw [hL1]; have := (askL_len (r0, r1, r2, r3, r4, r5) (ch % 8) L).2; omega
          have HQ1 : Hid (Q1.length ≤ k + 1) := by show _ ≤ _; rw [hQ1]; have := askQ_len (r0, r1, r2, r3, r4, r5) (ch % 8) L Q; omega
          clear hL1 hQ1 hA1 hn1e
          go_wp2_with fail
          refine wp_region_E (Sgat ba (r0, r1, r2, r3, r4, r5) ch) [] (by kernel_rfl) ?_
          have HAW := Lib.hid (HA.out.keep hb0)
          generalize w3.drew = W at HAW ⊢
          have HASK := Lib.hid (ask_any w.heap.size b L Q v1 v2 (r0, r1, r2, r3, r4, r5) ch W HAW.out.gg.prog hLl hQl HCH.out)
          rw [← HEL.out, ← HEQ1.out, ← HEA.out] at HASK
          unfold AskG at HASK
          rw [← HNE.out] at HASK
          have HS0 : Hid (Sgat ba (r0, r1, r2, r3, r4, r5) ch W) := sgat_of HAW.out.act
          have HI2 : Hid ((Try.prog.info? 35).map (·.size) = some (cRq (r0, r1, r2, r3, r4, r5)).length) := infoReq16
          clear hb0 HA
          refine wpAnyE_take 0 (some 58) (.pointer (some ⟨b, 0, none⟩)) rfl rfl (by kernel_rfl) (by kernel_rfl) (by kernel_rfl) (by kernel_rfl) (fun _ _ _ h => h) (yields_move rfl _ rfl _ rfl) HS0.out ?_
          simp only [Act.put, List.setIfInBounds_toArray, List.set_cons_zero, List.set_cons_succ]
          refine wpAnyE_take 1 (some 59) (.pointer (some ⟨ba, 0, none⟩)) rfl rfl (by kernel_rfl) (by kernel_rfl) (by kernel_rfl) (by kernel_rfl) (fun _ _ _ h => h) (Or.inl ⟨by rfl, fun w _ => by go_simp⟩) HS0.out ?_
          simp only [Act.put, List.setIfInBounds_toArray, List.set_cons_zero, List.set_cons_succ]
          refine wpAnyE_take 2 (some 60) (.agg (cRq (r0, r1, r2, r3, r4, r5)).toArray) rfl rfl (by kernel_rfl) (by kernel_rfl) (by kernel_rfl) (by kernel_rfl) (fun _ _ _ h => h) (yieldsIf_load_mid rfl 35 _ rfl ba 0 rfl _ _ (fun w h => h.1) Try.underlying35 rfl HI2.out) HS0.out ?_
          simp only [Act.put, List.setIfInBounds_toArray, List.set_cons_zero, List.set_cons_succ]
          refine wpAnyE_take 3 (some 61) (.pointer (some ⟨ba, 6, none⟩)) rfl rfl (by kernel_rfl) (by kernel_rfl) (by kernel_rfl) (by kernel_rfl) (fun _ _ _ h => h) (Or.inl ⟨by rfl, fun w _ => by go_simp⟩) HS0.out ?_
          simp only [Act.put, List.setIfInBounds_toArray, List.set_cons_zero, List.set_cons_succ]
          refine wpAnyE_take 4 (some 62) (.int .u8 (ch : Int)) rfl rfl (by kernel_rfl) (by kernel_rfl) (by kernel_rfl) (by kernel_rfl) (fun _ _ _ h => h) (yields_load rfl 5 _ rfl Try.underlying5 rfl _ rfl _ (fun w h => h.2)) HS0.out ?_
          simp only [Act.put, List.setIfInBounds_toArray, List.set_cons_zero, List.set_cons_succ]
          refine wpAnyE_take 7 (some 65) (.pointer (some ⟨mb, 0, none⟩)) rfl rfl (by kernel_rfl) (by kernel_rfl) (by kernel_rfl) (by kernel_rfl) (fun _ _ _ h => h) (yields_move rfl _ rfl _ rfl) HS0.out ?_
          simp only [Act.put, List.setIfInBounds_toArray, List.set_cons_zero, List.set_cons_succ]
          refine wpAnyE_take 8 (some 66) (.pointer (some ⟨ba, 0, none⟩)) rfl rfl (by kernel_rfl) (by kernel_rfl) (by kernel_rfl) (by kernel_rfl) (fun _ _ _ h => h) (Or.inl ⟨by rfl, fun w _ => by go_simp⟩) HS0.out ?_
          simp only [Act.put, List.setIfInBounds_toArray, List.set_cons_zero, List.set_cons_succ]
          refine wpAnyE_take 9 (some 67) (.agg (cRq (r0, r1, r2, r3, r4, r5)).toArray) rfl rfl (by kernel_rfl) (by kernel_rfl) (by kernel_rfl) (by kernel_rfl) (fun _ _ _ h => h) (yieldsIf_load_mid rfl 35 _ rfl ba 0 rfl _ _ (fun w h => h.1) Try.underlying35 rfl HI2.out) HS0.out ?_
          simp only [Act.put, List.setIfInBounds_toArray, List.set_cons_zero, List.set_cons_succ]
          refine wpAnyE_take 10 (some 68) (.pointer (some ⟨ba, 6, none⟩)) rfl rfl (by kernel_rfl) (by kernel_rfl) (by kernel_rfl) (by kernel_rfl) (fun _ _ _ h => h) (Or.inl ⟨by rfl, fun w _ => by go_simp⟩) HS0.out ?_
          simp only [Act.put, List.setIfInBounds_toArray, List.set_cons_zero, List.set_cons_succ]
          refine wpAnyE_take 11 (some 69) (.int .u8 (ch : Int)) rfl rfl (by kernel_rfl) (by kernel_rfl) (by kernel_rfl) (by kernel_rfl) (fun _ _ _ h => h) (yields_load rfl 5 _ rfl Try.underlying5 rfl _ rfl _ (fun w h => h.2)) HS0.out ?_
          simp only [Act.put, List.setIfInBounds_toArray, List.set_cons_zero, List.set_cons_succ]
          refine wpAnyE_oneG 5 (by kernel_rfl) rfl (by rfl) (fun K hK => ?_)
          go_simp
          refine HASK.out.mono ?_
          rintro e w4 ⟨ar, acp, rfl, hrow, hnew, ht⟩
          obtain ⟨a1, a2, ha⟩ := HAW.out.one ht
          have HA4 := Lib.hid ha
          have HS1 : Hid (Sgat ba (r0, r1, r2, r3, r4, r5) ch w4) := sgat_of ha.act
          have HOF := Lib.hid (of16_any ar acp A1 w4 hrow (by rw [← HNE.out]; exact HN1.out))
          unfold RowToG at HOF
          rw [← HNE.out] at HOF
          clear hrow hnew ht ha HASK HS0 HAW
          try go_wp2_with fail
          refine hK.out _ _ HS1.out ?_
          clear hK K
          try simp only [Act.put, List.setIfInBounds_toArray, List.set_cons_zero, List.set_cons_succ]
          refine wpAnyE_oneG 6 (by kernel_rfl) rfl (by rfl) (fun K hK => ?_)
          go_simp
          refine HOF.out.mono ?_
          rintro e w5 ⟨ar2, acp2, rfl, hrow2, hnew2, hb5⟩
          have HA5 := Lib.hid (HA4.out.keep hb5)
          have HS2 : Hid (Sgat ba (r0, r1, r2, r3, r4, r5) ch w5) := sgat_of HA5.out.act
          have HR2 := Lib.hid hrow2
          have HFR : Hid (∀ p, ar2 = some p → p.block ∉ fpG mb u1 u2) := fun p hp hm => by have := hnew2 p hp; have := (HA4.out.gg.doc.lt _ hm).1; omega
          have HRASK := Lib.hid (rask_any w.heap.size mb L Q u1 u2 (r0, r1, r2, r3, r4, r5) ch w5 HA5.out.gg.doc hLl hQl HCH.out)
          rw [← HEL.out, ← HEQ1.out, ← HEA.out] at HRASK
          unfold AskG at HRASK
          rw [← HNE.out] at HRASK
          clear hrow2 hnew2 hb5 HOF HS1 HA4
          try go_wp2_with fail
          refine hK.out _ _ HS2.out ?_
          clear hK K
          try simp only [Act.put, List.setIfInBounds_toArray, List.set_cons_zero, List.set_cons_succ]
          refine wpAnyE_oneG 12 (by kernel_rfl) rfl (by rfl) (fun K hK => ?_)
          go_simp
          refine HRASK.out.mono ?_
          rintro e w6 ⟨ar3, acp3, rfl, hrow3, hnew3, ht⟩
          obtain ⟨d1, d2, hd⟩ := HA5.out.two ht
          have hr6 : RowG 3 cRp w6 ar2 A1 := by
            obtain ⟨_, _, _, hs, _⟩ := ht
            exact HR2.out.stp hs HFR.out
          have HA6 := Lib.hid hd
          have HS3 : Hid (Sgat ba (r0, r1, r2, r3, r4, r5) ch w6) := sgat_of hd.act
          have HEQ := Lib.hid (eqRRp_same ar2 ar3 acp2 acp3 A1 n1 w6 HNE.out hr6 hrow3 HN1.out)
          clear hrow3 hnew3 ht hd hr6 HRASK HS2 HR2 HFR HA5
          try go_wp2_with fail
          refine hK.out _ _ HS3.out ?_
          clear hK K
          try simp only [Act.put, List.setIfInBounds_toArray, List.set_cons_zero, List.set_cons_succ]
          refine wpAnyE_oneG 13 (by kernel_rfl) rfl (by rfl) (fun K hK => ?_)
          go_simp
          refine HEQ.out.mono ?_
          rintro e w7 ⟨rfl, hb7⟩
          have HA7 := Lib.hid (HA6.out.keep hb7)
          have HS4 : Hid (Sgat ba (r0, r1, r2, r3, r4, r5) ch w7) := sgat_of HA7.out.act
          clear hb7 HEQ HS3 HA6
          try go_wp2_with fail
          refine hK.out _ _ HS4.out ?_
          clear hK K
          try simp only [Act.put, List.setIfInBounds_toArray, List.set_cons_zero, List.set_cons_succ]
          refine wpAnyE_step 14 (some 72) (.bool false) (by kernel_rfl) rfl rfl (Or.inl ⟨by rfl, fun w _ => by go_simp⟩) HS4.out ?_
          simp only [Act.put, List.setIfInBounds_toArray, List.set_cons_zero, List.set_cons_succ]
          refine wpAnyE_done (by kernel_rfl) ?_ _
          have HZ := Lib.hid HA7.out.gg
          clear HS4 HA7 HI2 HEL HEQ1 HEA HNE HN1
          go_wp2
          go_meet
          case rel => exact ⟨rfl, L1, Q1, a1, a2, d1, d2, HL1.out, HQ1.out, HZ.out⟩
      case rest =>
        obtain ⟨rfl, L1, Q1, a1, a2, d1, d2, hL1, hQ1, HZ⟩ := hcut
        clear HA
        generalize wc = wz at HZ ⊢
        have HL1 : Hid (L1.length ≤ 1000000) := by show _ ≤ _; omega
        have HQ1 : Hid (Q1.length ≤ 1000000) := by show _ ≤ _; omega
        obtain ⟨ua, uc, hu1, hru⟩ := HZ.out.doc.row1
        obtain ⟨qa, qc, hu2, _⟩ := HZ.out.doc.row2
        subst hu1
        subst hu2
        have hb0 : Below wz.heap.size wz wz.drew := (Below.refl _ wz).drew
        obtain ⟨n1, hn1e⟩ : ∃ n1, n1 = L1.length := ⟨_, rfl⟩
        have HNE := Lib.hid hn1e
        obtain ⟨n2, hn2e⟩ : ∃ n2, n2 = Q1.length := ⟨_, rfl⟩
        have HN2 := Lib.hid hn2e
        rw [← hn1e] at HL1
        rw [← hn1e, ← hn2e] at HZ
        clear hn1e hn2e
        go_wp2_with fail
        refine wp_region_E (Sgd mb (.slice ua n1 uc) (.slice qa n2 qc)) [] (by kernel_rfl) ?_
        have HZW := Lib.hid (HZ.out.keep hb0)
        have HRU := Lib.hid (hru.keep hb0)
        generalize wz.drew = W at HZW HRU ⊢
        have HREC := Lib.hid (records_any w.heap.size b L1 Q1 a1 a2 W HZW.out.prog (by rw [← HNE.out]; exact HL1.out))
        unfold RowToG at HREC
        rw [← HNE.out] at HREC
        have HS0 : Hid (Sgd mb (.slice ua n1 uc) (.slice qa n2 qc) W) := ⟨HZW.out.doc.cell0, HZW.out.doc.cell1⟩
        clear hb0 hru HZ
        refine wpAnyE_take 0 (some 73) (.pointer (some ⟨b, 0, none⟩)) rfl rfl (by kernel_rfl) (by kernel_rfl) (by kernel_rfl) (by kernel_rfl) (fun _ _ _ h => h) (yields_move rfl _ rfl _ rfl) HS0.out ?_
        simp only [Act.put, List.setIfInBounds_toArray, List.set_cons_zero, List.set_cons_succ]
        refine wpAnyE_take 3 (some 76) (.pointer (some ⟨mb, 0, none⟩)) rfl rfl (by kernel_rfl) (by kernel_rfl) (by kernel_rfl) (by kernel_rfl) (fun _ _ _ h => h) (yields_move rfl _ rfl _ rfl) HS0.out ?_
        simp only [Act.put, List.setIfInBounds_toArray, List.set_cons_zero, List.set_cons_succ]
        refine wpAnyE_take 4 (some 77) (.pointer (some ⟨mb, 0, none⟩)) rfl rfl (by kernel_rfl) (by kernel_rfl) (by kernel_rfl) (by kernel_rfl) (fun _ _ _ h => h) (yields_nilCheck rfl _ rfl _ rfl) HS0.out ?_
        simp only [Act.put, List.setIfInBounds_toArray, List.set_cons_zero, List.set_cons_succ]
        refine wpAnyE_take 5 (some 78) (.pointer (some ⟨mb, 0, none⟩)) rfl rfl (by kernel_rfl) (by kernel_rfl) (by kernel_rfl) (by kernel_rfl) (fun _ _ _ h => h) (Or.inl ⟨by rfl, fun w _ => by go_simp⟩) HS0.out ?_
        simp only [Act.put, List.setIfInBounds_toArray, List.set_cons_zero, List.set_cons_succ]
        refine wpAnyE_take 6 (some 79) (.slice ua n1 uc) rfl rfl (by kernel_rfl) (by kernel_rfl) (by kernel_rfl) (by kernel_rfl) (fun _ _ _ h => h) (yields_load rfl 30 _ rfl Try.underlying30 rfl _ rfl _ (fun w h => h.1)) HS0.out ?_
        simp only [Act.put, List.setIfInBounds_toArray, List.set_cons_zero, List.set_cons_succ]
        refine wpAnyE_oneG 1 (by kernel_rfl) rfl (by rfl) (fun K hK => ?_)
        go_simp
        refine HREC.out.mono ?_
        rintro e w4 ⟨ar, acp, rfl, hrow, hnew, hb4⟩
        have HZ4 := Lib.hid (HZW.out.keep hb4)
        have HRU4 := Lib.hid (HRU.out.keep hb4)
        have HS1 : Hid (Sgd mb (.slice ua n1 uc) (.slice qa n2 qc) w4) := ⟨HZ4.out.doc.cell0, HZ4.out.doc.cell1⟩
        have HOF := Lib.hid (recs16_any ar acp L1 w4 hrow (by rw [← HNE.out]; exact HL1.out))
        unfold RowToG at HOF
        rw [← HNE.out] at HOF
        clear hrow hnew hb4 HREC HS0 HZW HRU
        try go_wp2_with fail
        refine hK.out _ _ HS1.out ?_
        clear hK K
        try simp only [Act.put, List.setIfInBounds_toArray, List.set_cons_zero, List.set_cons_succ]
        refine wpAnyE_oneG 2 (by kernel_rfl) rfl (by rfl) (fun K hK => ?_)
        go_simp
        refine HOF.out.mono ?_
        rintro e w5 ⟨ar2, acp2, rfl, hrow2, hnew2, hb5⟩
        have HZ5 := Lib.hid (HZ4.out.keep hb5)
        have HRU5 := Lib.hid (HRU4.out.keep hb5)
        have HS2 : Hid (Sgd mb (.slice ua n1 uc) (.slice qa n2 qc) w5) := ⟨HZ5.out.doc.cell0, HZ5.out.doc.cell1⟩
        have HEQ := Lib.hid (eqRRc_same ar2 ua acp2 uc L1 n1 w5 HNE.out hrow2 HRU5.out HL1.out)
        clear hrow2 hnew2 hb5 HOF HS1 HZ4 HRU4
        try go_wp2_with fail
        refine hK.out _ _ HS2.out ?_
        clear hK K
        try simp only [Act.put, List.setIfInBounds_toArray, List.set_cons_zero, List.set_cons_succ]
        refine wpAnyE_oneG 7 (by kernel_rfl) rfl (by rfl) (fun K hK => ?_)
        go_simp
        refine HEQ.out.mono ?_
        rintro e w6 ⟨rfl, hb6⟩
        have HZ6 := Lib.hid (HZ5.out.keep hb6)
        have HS3 : Hid (Sgd mb (.slice ua n1 uc) (.slice qa n2 qc) w6) := ⟨HZ6.out.doc.cell0, HZ6.out.doc.cell1⟩
        have HWT := Lib.hid (waiting_any w.heap.size b L1 Q1 a1 a2 w6 HZ6.out.prog)
        rw [← HN2.out] at HWT
        clear hb6 HEQ HS2 HZ5 HRU5
        try go_wp2_with fail
        refine hK.out _ _ HS3.out ?_
        clear hK K
        try simp only [Act.put, List.setIfInBounds_toArray, List.set_cons_zero, List.set_cons_succ]
        refine wpAnyE_step 8 (some 81) (.bool false) (by kernel_rfl) rfl rfl (Or.inl ⟨by rfl, fun w _ => by go_simp⟩) HS3.out ?_
        simp only [Act.put, List.setIfInBounds_toArray, List.set_cons_zero, List.set_cons_succ]
        refine wpAnyE_step 9 (some 82) (.bool false) (by kernel_rfl) rfl rfl (yields_move rfl _ rfl _ rfl) HS3.out ?_
        simp only [Act.put, List.setIfInBounds_toArray, List.set_cons_zero, List.set_cons_succ]
        refine wpAnyE_take 10 (some 83) (.pointer (some ⟨b, 0, none⟩)) rfl rfl (by kernel_rfl) (by kernel_rfl) (by kernel_rfl) (by kernel_rfl) (fun _ _ _ h => h) (Or.inl ⟨by rfl, fun w _ => by go_simp⟩) HS3.out ?_
        simp only [Act.put, List.setIfInBounds_toArray, List.set_cons_zero, List.set_cons_succ]
        refine wpAnyE_take 12 (some 85) (.pointer (some ⟨mb, 0, none⟩)) rfl rfl (by kernel_rfl) (by kernel_rfl) (by kernel_rfl) (by kernel_rfl) (fun _ _ _ h => h) (Or.inl ⟨by rfl, fun w _ => by go_simp⟩) HS3.out ?_
        simp only [Act.put, List.setIfInBounds_toArray, List.set_cons_zero, List.set_cons_succ]
        refine wpAnyE_take 13 (some 86) (.pointer (some ⟨mb, 0, none⟩)) rfl rfl (by kernel_rfl) (by kernel_rfl) (by kernel_rfl) (by kernel_rfl) (fun _ _ _ h => h) (Or.inl ⟨by rfl, fun w _ => by go_simp⟩) HS3.out ?_
        simp only [Act.put, List.setIfInBounds_toArray, List.set_cons_zero, List.set_cons_succ]
        refine wpAnyE_take 14 (some 87) (.pointer (some ⟨mb, 1, none⟩)) rfl rfl (by kernel_rfl) (by kernel_rfl) (by kernel_rfl) (by kernel_rfl) (fun _ _ _ h => h) (Or.inl ⟨by rfl, fun w _ => by go_simp⟩) HS3.out ?_
        simp only [Act.put, List.setIfInBounds_toArray, List.set_cons_zero, List.set_cons_succ]
        refine wpAnyE_take 15 (some 88) (.slice qa n2 qc) rfl rfl (by kernel_rfl) (by kernel_rfl) (by kernel_rfl) (by kernel_rfl) (fun _ _ _ h => h) (Or.inl ⟨by rfl, fun w hw => by have hw2 := hw.2; go_simp⟩) HS3.out ?_
        simp only [Act.put, List.setIfInBounds_toArray, List.set_cons_zero, List.set_cons_succ]
        refine wpAnyE_take 16 (some 89) (.int .i64 (n2 : Int)) rfl rfl (by kernel_rfl) (by kernel_rfl) (by kernel_rfl) (by kernel_rfl) (fun _ _ _ h => h) (Or.inl ⟨by rfl, fun w _ => by go_simp⟩) HS3.out ?_
        simp only [Act.put, List.setIfInBounds_toArray, List.set_cons_zero, List.set_cons_succ]
        refine wpAnyE_oneG 11 (by kernel_rfl) rfl (by rfl) (fun K hK => ?_)
        go_simp
        refine HWT.out.mono ?_
        rintro e w7 ⟨rfl, rfl⟩
        clear HWT
        try go_wp2_with fail
        refine hK.out _ _ HS3.out ?_
        clear hK K
        try simp only [Act.put, List.setIfInBounds_toArray, List.set_cons_zero, List.set_cons_succ]
        refine wpAnyE_step 17 (some 90) (.bool false) (by kernel_rfl) rfl rfl (Or.inl ⟨by rfl, fun w _ => by go_simp⟩) HS3.out ?_
        simp only [Act.put, List.setIfInBounds_toArray, List.set_cons_zero, List.set_cons_succ]
        refine wpAnyE_step 18 (some 91) (.bool false) (by kernel_rfl) rfl rfl (Or.inl ⟨by rfl, fun w _ => by go_simp⟩) HS3.out ?_
        simp only [Act.put, List.setIfInBounds_toArray, List.set_cons_zero, List.set_cons_succ]
        refine wpAnyE_done (by kernel_rfl) ?_ _
        have HZF := HZ6
        rw [HNE.out, HN2.out] at HZF
        clear HS3 HZ6 HNE HN2
        go_wp2
        go_roundg (n - (k + 1))
        case measure => omega
        case rel => exact ⟨k + 1, L1, Q1, a1, a2, _, _, by omega, by go_num, by omega, by omega, by omega, HZF.out⟩
    · have HZ : Hid (Below w.heap.size w wr) := HS.out.below
      have H1 : Hid (∀ W, Calls Try.prog 6 #[.pointer none, .int .i64 0] W fun e w' => e = .returned (.tuple #[.agg #[.string ⟨#[]⟩, .string ⟨#[]⟩, .int .i64 0], .bool false]) ∧ Below W.heap.size W w') := fun W => late_nil 0 W (by decide)
      have H2 : Hid (∀ W, Calls Try.prog 10 #[.pointer none, .agg #[.string ⟨#[112, 97, 121]⟩, .string ⟨#[]⟩, .string ⟨#[]⟩, .string ⟨#[]⟩, .int .i64 0, .int .i64 0], .int .u8 1] W fun e w' => e = .returned (.slice none 0 0) ∧ Below W.heap.size W w') := fun W => ask_nil kPay [] [] [] 0 0 1 W (by decide)
      have HBS : Hid (w.heap.size ≤ wr.heap.size) := HS.out.size
      clear HS
      go_wp2_with fail
      refine (H1.out _).mono ?_
      rintro e w4 ⟨rfl, hb4⟩
      have hb5 : Below w.heap.size w w4 := bel_onG HZ.out HBS.out hb4
      have HB5 : Hid (Below w.heap.size w (w4.alloc (.cells #[.string ⟨#[]⟩, .string ⟨#[]⟩, .int .i64 0] 40))) := hb5.alloc hb5.size _
      clear hb4 hb5 H1 HZ HBS
      go_wp2_with fail
      refine (H2.out _).mono ?_
      rintro e w5 ⟨rfl, hb6⟩
      have HB6 : Hid (Below w.heap.size w w5) := bel_onG HB5.out HB5.out.size hb6
      clear hb6 H2 HB5
      go_wp2_with fail
      refine (waiting_nil w5).mono ?_
      rintro e w6 ⟨rfl, rfl⟩
      go_wp2_with fail
      refine (records_nil w5).mono ?_
      rintro e w6 ⟨rfl, rfl⟩
      go_wp2
      go_ret
      exact ⟨rfl, HB6.out⟩

theorem asks_walk (a : Option Addr) (cp n : Nat) (xs : List Ga) (w : World) (hl : xs.length = n) (hr : RowG 9 cGa w a xs) (hok : ∀ x ∈ xs, OkGa x) :
    Calls Try.prog 3 #[.slice a n cp] w fun e w' => e = .returned (.bool true) ∧ Below w.heap.size w w' := by
  subst hl
  by_cases h : xs.length ≤ 100
  · exact asks_few a cp xs w hr hok h
  · exact asks_many a _ cp w (by omega)
end Go.Proofs.Ytkhkcpoadccflaa
