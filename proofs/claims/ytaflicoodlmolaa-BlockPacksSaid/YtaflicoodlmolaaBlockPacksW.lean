/-
  The walk of souklaw04.BlockPacks.
-/
import Derived.Test.YtaflicoodlmolaaBlkH
import Derived.Test.YtaflicoodlmolaaBlkL
namespace Go.Proofs.Ytaflicoodlmolaa
open Go.RowKit

theorem blks_begin (number : Nat) (p : List UInt8) (more : List (List UInt8)) (h : recOK number p) : ∃ ds, Begins number (blks number p ++ more) ds ∧ ds.flatten = p ∧ ds.length = cnt p.length := by
  refine begins_of h ?_ (by rw [List.length_append, blks_length]; omega)
  rw [List.take_append_of_le_length (by rw [blks_length]; omega), List.take_of_length_le (by rw [blks_length]; omega)]

theorem lowL_inj {n x y : Nat} (hx : x < 256 ^ n) (hy : y < 256 ^ n) (h : lowL n x = lowL n y) : x = y := by
  rw [← numL_lowL n x hx, h, numL_lowL n y hy]

theorem blkL_number {number number' place count place' count' : Nat} {d d' : List UInt8} (hn : number ≤ 4294967294) (hn' : number' ≤ 4294967294) (h : blkL number place count d = blkL number' place' count' d') : number = number' := by
  have h1 : (blkL number place count d).take 4 = lowL 4 (number + 1) := by
    unfold blkL bodyL
    simp only [List.append_assoc]
    rw [List.take_append_of_le_length (by rw [lowL_length]; omega), List.take_of_length_le (by rw [lowL_length]; omega)]
  have h2 : (blkL number' place' count' d').take 4 = lowL 4 (number' + 1) := by
    unfold blkL bodyL
    simp only [List.append_assoc]
    rw [List.take_append_of_le_length (by rw [lowL_length]; omega), List.take_of_length_le (by rw [lowL_length]; omega)]
  rw [h, h2] at h1
  have := lowL_inj (n := 4) (by omega) (by omega) h1
  omega

theorem blks_other {number number' : Nat} {p : List UInt8} (hn : number ≤ 4294967294) (hn' : number' ≤ 4294967294) (hne : number ≠ number') (hp : 1 ≤ p.length) : ∀ ds, ¬ Begins number' (blks number p) ds := by
  intro ds h
  obtain ⟨d, hd⟩ : ∃ d, ds[0]? = some d := ⟨_, List.getElem?_eq_getElem (by have := h.1; omega)⟩
  have hb := h.2.2.2 0 _ d (blks_get number p 0 (by unfold cnt; omega)) hd
  exact hne (blkL_number hn hn' hb.2.2.2.2)

theorem equalS_same (a1 a2 : Option Addr) (c1 c2 n : Nat) (xs : List (List UInt8)) (w : World) (h1 : RowS w a1 xs) (h2 : RowS w a2 xs) (hx : xs.length = n) (hn : 1 ≤ n) (hb : n ≤ 1000) :
    Calls Try.prog 11 #[.slice a1 n c1, .slice a2 n c2] w fun e w' => e = .returned (.bool true) ∧ Below w.heap.size w w' := by
  subst hx
  obtain ⟨b1, o1, rfl, hc1⟩ := h1 (by omega)
  obtain ⟨b2, o2, rfl, hc2⟩ := h2 (by omega)
  have hl : (xs.map st).length = xs.length := by simp
  have get : ∀ j, j < xs.length → ∃ x, xs[j]? = some x ∧ (xs.map st).getD j ByteArray.empty = st x := fun j hj => by
    refine ⟨_, List.getElem?_eq_getElem hj, ?_⟩
    rw [List.getD_eq_getElem?_getD, List.getElem?_map, List.getElem?_eq_getElem hj]; rfl
  refine (Try.slices_Equal_string b1 o1 xs.length c1 b2 o2 xs.length c2 (xs.map st) (xs.map st) w (by omega) (by omega) (by omega) (by omega)
    (fun j hj => by obtain ⟨x, g1, g2⟩ := get j (by omega); rw [g2]; exact hc1 j x g1)
    (fun j hj => by obtain ⟨x, g1, g2⟩ := get j (by omega); rw [g2]; exact hc2 j x g1)).mono ?_
  rintro e w' ⟨rfl, q, rfl⟩
  exact ⟨by simp, below_drewN (Below.refl _ _) _⟩

theorem mod_next (number : Nat) : ∃ m : Nat, ((number : Int) + 1) % 4294967295 = (m : Int) ∧ m ≤ 4294967294 ∧ m ≠ number := by
  refine ⟨(number + 1) % 4294967295, by omega, by omega, ?_⟩
  omega

set_option maxHeartbeats 4000000 in
set_option maxRecDepth 100000 in
theorem packs_walk (number : Int) (p : List UInt8) (a : Option Addr) (c : Nat) (more : List (List UInt8)) (w : World) (hr : RowS w a more) (hA : a = none → more.length = 0 ∧ c = 0) (hm : more.length ≤ 9223372036854775807) (hp : p.length ≤ 9223372036854775807) (hi0 : -9223372036854775808 ≤ number) (hi1 : number ≤ 9223372036854775807) :
    Calls Try.prog 3 #[.int .i64 number, .string (st p), .slice a more.length c] w fun e w' => e = .returned (.bool true) ∧ Below w.heap.size w w' := by
  have HR := Lib.hid hr
  have HA := Lib.hid hA
  have hsz := st_size p
  obtain ⟨n, hnn⟩ : ∃ n, n = p.length := ⟨_, rfl⟩
  obtain ⟨k, hkk⟩ : ∃ k, k = more.length := ⟨_, rfl⟩
  rw [← hnn] at hsz hp
  rw [← hkk] at hm ⊢
  have HN := Lib.hid hnn
  have HK := Lib.hid hkk
  clear hr hA hnn hkk
  have H1 := Lib.hid (lives4_any w)
  by_cases hbig : 14000 < n ∨ 20 < k
  · have t1 : decide ((14000 : Int) < (n : Int)) = decide (14000 < n) := by rw [decide_eq_decide]; omega
    have HL : ∀ W, Hid (Calls Try.prog 6 #[] W fun e w' => e = .returned (.bool true) ∧ Below W.heap.size W w') := fun W => lives4_any W
    by_cases h1 : 14000 < n
    · clear hbig t1
      go_enter Try.func3, Try.ntmps3
      go_wp2_with fail
      refine H1.out.mono ?_
      rintro e w1 ⟨rfl, hb1⟩
      have HB1 := Lib.hid hb1
      clear hb1 H1
      go_wp2_with fail
      refine (HL _).out.mono ?_
      rintro e w2 ⟨rfl, hb2⟩
      have HB2 := Lib.hid (HB1.out.trans (hb2.mono HB1.out.size))
      clear hb2
      go_wp2
      go_ret
      exact ⟨rfl, HB2.out⟩
    · have h2 : 20 < k := by omega
      clear hbig t1
      go_enter Try.func3, Try.ntmps3
      go_wp2_with fail
      refine H1.out.mono ?_
      rintro e w1 ⟨rfl, hb1⟩
      have HB1 := Lib.hid hb1
      clear hb1 H1
      go_wp2_with fail
      refine (HL _).out.mono ?_
      rintro e w2 ⟨rfl, hb2⟩
      have HB2 := Lib.hid (HB1.out.trans (hb2.mono HB1.out.size))
      clear hb2
      go_wp2
      go_ret
      exact ⟨rfl, HB2.out⟩
  · have hn14 : ¬ 14000 < n := by omega
    have hk20 : ¬ 20 < k := by omega
    clear hbig
    by_cases hrec : recOK number p
    · obtain ⟨N, hN⟩ : ∃ N : Nat, number = (N : Int) := ⟨number.toNat, by have := hrec.1; omega⟩
      subst hN
      have hr2 := hrec.2.1
      have hn1 : 1 ≤ n := by rw [HN.out]; exact hrec.2.2.1
      obtain ⟨q, hq⟩ : ∃ q, q = cnt p.length := ⟨_, rfl⟩
      have hq1 : 1 ≤ q := by rw [hq]; unfold cnt; have := hrec.2.2.1; omega
      have hq2 : q ≤ 255 := by rw [hq]; unfold cnt; have := hrec.2.2.2; omega
      have HQ := Lib.hid hq
      have HREC := Lib.hid hrec
      have H2 : ∀ W, Hid (Calls Try.prog 7 #[.int .i64 N, .string (st p)] W fun e w' => ∃ g, e = .returned (.tuple #[.slice (some ⟨g, 0, none⟩) q q, .int .i64 0]) ∧ Below W.heap.size W w' ∧ w'.ownsRow W.heap.size 9 1 (.slice (some ⟨g, 0, none⟩) q q) q (sv (blks N p))) := fun W => by rw [hq]; exact pack_yes N p W hrec
      have H3 : ∀ W, Hid (Calls Try.prog 9 #[.int .i64 N, .string (st p)] W fun e w' => ∃ v, e = .returned (.tuple #[v, .bool true]) ∧ Below W.heap.size W w' ∧ w'.ownsRow W.heap.size 9 1 v q (sv (blks N p))) := fun W => by rw [hq]; exact rBlocks_yes N p W hrec
      clear hq hrec
      go_enter Try.func3, Try.ntmps3
      go_wp2_with fail
      refine H1.out.mono ?_
      rintro e w1 ⟨rfl, hb1⟩
      have HB1 := Lib.hid hb1
      clear hb1 H1
      go_wp2_with fail
      refine (H2 _).out.mono ?_
      rintro e w2 ⟨g, rfl, hb2, hown⟩
      have HB2 := Lib.hid (HB1.out.trans (hb2.mono HB1.out.size))
      have HRL := Lib.hid (RowS.of_own hown)
      clear hb2 hown H2
      go_wp2_with fail
      refine (H3 _).out.mono ?_
      rintro e w3 ⟨v, rfl, hb3, hown⟩
      obtain ⟨a3, c3, rfl⟩ := own_slice hown
      have HB3 := Lib.hid (HB2.out.trans (hb3.mono HB2.out.size))
      have HRW := Lib.hid (RowS.of_own hown)
      have HRL := Lib.hid (HRL.out.keep hb3)
      clear hb3 hown H3
      obtain ⟨M, hM, hM1, hM2⟩ := mod_next N
      have HBk := Lib.hid (blks_begin N p more HREC.out)
      have HOT := Lib.hid (blks_other (number := N) (number' := M) (p := p) (by omega) hM1 (Ne.symm hM2) (by rw [← HN.out]; exact hn1))
      have hlb : (blks N p).length = q := by rw [blks_length, HQ.out]
      have HLB := Lib.hid hlb
      have H4 := Lib.hid (concat_any w3.heap.size (some ⟨g, 0, none⟩) a q q k c (blks N p) more (w3.alloc (.cells #[.slice (some ⟨g, 0, none⟩) q q, .slice a k c] 22))
        ((Blk.new w3 22 #[.slice (some ⟨g, 0, none⟩) q q, .slice a k c]).cell 0) ((Blk.new w3 22 #[.slice (some ⟨g, 0, none⟩) q q, .slice a k c]).cell 1)
        (HRL.out.keep ((Below.refl _ _).alloc (Nat.le_refl _) _)) ((HR.out.keep HB3.out).keep ((Below.refl _ _).alloc (Nat.le_refl _) _)) hlb HK.out.symm hq1 (by omega) (by omega) (fun h => by cases h) (fun h => by rw [HK.out]; exact HA.out h))
      clear hlb hM2
      go_wp2_with fail
      refine H4.out.mono ?_
      rintro e w4 ⟨v4, rfl, hb4, hown⟩
      obtain ⟨a4, c4, rfl⟩ := own_slice hown
      have hbA := (Below.refl w3.heap.size w3).alloc (Nat.le_refl _) (.cells #[.slice (some ⟨g, 0, none⟩) q q, .slice a k c] 22)
      have hb34 : Below w3.heap.size w3 w4 := hbA.trans (hb4.mono hbA.size)
      have HB4 := Lib.hid (HB3.out.trans (hb34.mono HB3.out.size))
      have HRC := Lib.hid (RowS.of_own hown)
      have HRW := Lib.hid (HRW.out.keep hb34)
      have HRL := Lib.hid (HRL.out.keep hb34)
      have H5 := unpack_any N a4 c4 (blks N p ++ more) w4 HRC.out (by omega) (by rw [List.length_append, HLB.out]; omega) (by rw [List.length_append, HLB.out, ← HK.out]; omega)
      rw [List.length_append, HLB.out, ← HK.out] at H5
      have H5 := Lib.hid H5
      clear hb4 hown H4 hbA hb34
      go_wp2_with fail
      refine H5.out.mono ?_
      rintro e w5 ⟨hu, hb5⟩
      have HB5 := Lib.hid (HB4.out.trans (hb5.mono HB4.out.size))
      have HRW := Lib.hid (HRW.out.keep hb5)
      have HRL := Lib.hid (HRL.out.keep hb5)
      have hee : e = .returned (.tuple #[.string (st p), .int .i64 (q : Nat), .int .i64 0]) := by
        obtain ⟨ds, hd, hf, hl⟩ := HBk.out
        rcases hu with ⟨ds', hd', he⟩ | ⟨hno, _⟩
        · have := hd.inj hd'
          subst this
          rw [he, hf, hl, ← HQ.out]
        · exact absurd hd (hno ds)
      subst hee
      have H6 := unpack_any M (some ⟨g, 0, none⟩) q (blks N p) w5 HRL.out hM1 (by rw [HLB.out]; omega) (by rw [HLB.out]; omega)
      rw [HLB.out] at H6
      have H6 := Lib.hid H6
      clear hb5 hu H5
      go_wp2_with fail
      refine H6.out.mono ?_
      rintro e w6 ⟨hu, hb6⟩
      have HB6 := Lib.hid (HB5.out.trans (hb6.mono HB5.out.size))
      have HRW := Lib.hid (HRW.out.keep hb6)
      have HRL := Lib.hid (HRL.out.keep hb6)
      have hee : e = .returned (.tuple #[.string (st []), .int .i64 0, .int .i64 5]) := by
        rcases hu with ⟨ds', hd', _⟩ | ⟨_, he⟩
        · exact absurd hd' (HOT.out ds')
        · exact he
      subst hee
      have H7 := Lib.hid (unpack_none (N : Int) none 0 w6)
      clear hb6 hu H6 hM
      go_wp2_with fail
      refine H7.out.mono ?_
      rintro e w7 ⟨rfl, rfl⟩
      have H8 := Lib.hid (equalS_same (some ⟨g, 0, none⟩) a3 q c3 q (blks N p) w6 HRL.out HRW.out HLB.out hq1 (by omega))
      clear H7
      go_wp2_with fail
      refine H8.out.mono ?_
      rintro e w8 ⟨rfl, hb8⟩
      have HB8 := Lib.hid (HB6.out.trans (hb8.mono HB6.out.size))
      clear hb8 H8
      go_wp2
      go_ret
      exact ⟨rfl, HB8.out⟩
    · have H2 : ∀ W, Hid (Calls Try.prog 7 #[.int .i64 number, .string (st p)] W fun e w' => e = .returned (.tuple #[.slice none 0 0, .int .i64 1]) ∧ W = w') := fun W => pack_no number p W (by rw [← HN.out]; omega) hrec
      by_cases hnum : 0 ≤ number ∧ number ≤ 4294967294
      · obtain ⟨hx0, hx1⟩ := hnum
        have H3 : ∀ W, Hid (Calls Try.prog 9 #[.int .i64 number, .string (st p)] W fun e w' => e = .returned (.tuple #[.slice none 0 0, .bool false]) ∧ W = w') := fun W => rBlocks_no number p W (by rw [← HN.out]; omega) hrec
        clear hrec
        go_enter Try.func3, Try.ntmps3
        go_wp2_with fail
        refine H1.out.mono ?_
        rintro e w1 ⟨rfl, hb1⟩
        have HB1 := Lib.hid hb1
        clear hb1 H1
        go_wp2_with fail
        refine (H2 _).out.mono ?_
        rintro e w2 ⟨rfl, rfl⟩
        go_wp2_with fail
        refine (H3 _).out.mono ?_
        rintro e w2 ⟨rfl, rfl⟩
        go_wp2
        go_ret
        exact ⟨rfl, HB1.out⟩
      · have H4 : ∀ (W : World) (b : Nat), Hid (Calls Try.prog 8 #[.int .i64 number, .slice (some ⟨b, 0, none⟩) 1 1] W fun e w' => e = .returned (.tuple #[.string (st []), .int .i64 0, .int .i64 1]) ∧ W = w') := fun W b => unpack_num number (some ⟨b, 0, none⟩) 1 1 W (by omega) hnum
        clear hrec
        by_cases hx0 : number < 0
        · clear hnum
          go_enter Try.func3, Try.ntmps3
          go_wp2_with fail
          refine H1.out.mono ?_
          rintro e w1 ⟨rfl, hb1⟩
          have HB1 := Lib.hid hb1
          clear hb1 H1
          go_wp2_with fail
          refine (H2 _).out.mono ?_
          rintro e w2 ⟨rfl, rfl⟩
          go_wp2_with fail
          refine (H4 _ _).out.mono ?_
          rintro e w2 ⟨rfl, rfl⟩
          go_wp2
          go_ret
          exact ⟨rfl, HB1.out.alloc HB1.out.size _⟩
        · have hx1 : 4294967294 < number := by omega
          clear hnum
          go_enter Try.func3, Try.ntmps3
          go_wp2_with fail
          refine H1.out.mono ?_
          rintro e w1 ⟨rfl, hb1⟩
          have HB1 := Lib.hid hb1
          clear hb1 H1
          go_wp2_with fail
          refine (H2 _).out.mono ?_
          rintro e w2 ⟨rfl, rfl⟩
          go_wp2_with fail
          refine (H4 _ _).out.mono ?_
          rintro e w2 ⟨rfl, rfl⟩
          go_wp2
          go_ret
          exact ⟨rfl, HB1.out.alloc HB1.out.size _⟩
end Go.Proofs.Ytaflicoodlmolaa
