/-
  The walk of souklaw14.LotsActs.
-/
import Derived.Test.YtoiiaicjlefclaaLotM
import Derived.Deep.RegionHeld3
import Derived.Deep.CutRange
import Derived.Deep.AppendLies
namespace Go.Proofs.Ytoiiaicjlefclaa
open Go.RowKit Go.Deep

theorem At4.below {ba : Nat} {p c : List UInt8} {m d : Int} {w w' : World} (h : At4 ba p c m d w) (hb : Below w.heap.size w w') : At4 ba p c m d w' := by
  obtain ⟨h1, h2, h3, h4⟩ := h
  exact ⟨(hb.cell (p := ⟨ba, 1, none⟩) (World.block_lt_of_cell? w _ h1)).trans h1, (hb.cell (p := ⟨ba, 2, none⟩) (World.block_lt_of_cell? w _ h2)).trans h2, (hb.cell (p := ⟨ba, 3, none⟩) (World.block_lt_of_cell? w _ h3)).trans h3, (hb.cell (p := ⟨ba, 4, none⟩) (World.block_lt_of_cell? w _ h4)).trans h4⟩
theorem At4.grown {ba : Nat} {p c : List UInt8} {m d : Int} {w w' : World} {row : Option Nat} (h : At4 ba p c m d w) (hg : w.grownBy w' row) (hne : some ba ≠ row) : At4 ba p c m d w' := by
  obtain ⟨h1, h2, h3, h4⟩ := h
  exact ⟨(hg.cell_far ⟨ba, 1, none⟩ (World.block_lt_of_cell? w _ h1) hne).trans h1, (hg.cell_far ⟨ba, 2, none⟩ (World.block_lt_of_cell? w _ h2) hne).trans h2, (hg.cell_far ⟨ba, 3, none⟩ (World.block_lt_of_cell? w _ h3) hne).trans h3, (hg.cell_far ⟨ba, 4, none⟩ (World.block_lt_of_cell? w _ h4) hne).trans h4⟩

set_option maxHeartbeats 1600000 in
set_option maxRecDepth 100000 in
theorem acts_many (a : Option Addr) (n c : Nat) (w : World) (hn : 100 < n) :
    Calls Try.prog 3 #[.slice a n c] w fun e w' => e = .returned (.bool true) ∧ Below w.heap.size w w' := by
  have HL := Lib.hid lives14_any
  have hgt : (100 : Int) < (n : Int) := by omega
  clear hn
  go_enter Try.func3, Try.ntmps3
  go_wp2_with fail
  refine (HL.out _).mono ?_
  rintro e w1 ⟨rfl, hb⟩
  have HB := Lib.hid hb
  clear hb
  go_wp2_with fail
  refine (HL.out _).mono ?_
  rintro e w2 ⟨rfl, hb⟩
  have HB2 := Lib.hid (bel_onG HB.out HB.out.size hb)
  clear hb HL
  go_wp2
  go_ret
  exact ⟨rfl, HB2.out⟩

set_option maxHeartbeats 12800000 in
set_option maxRecDepth 100000 in
theorem acts_few (a : Option Addr) (cp : Nat) (xs : List Ac14) (w : World) (hr : RowG 6 cAc w a xs) (hok : ∀ x ∈ xs, OkAc x) (hn : xs.length ≤ 100) :
    Calls Try.prog 3 #[.slice a xs.length cp] w fun e w' => e = .returned (.bool true) ∧ Below w.heap.size w w' := by
  have HL := Lib.hid lives14_any
  have HR := Lib.hid hr
  have HOK := Lib.hid hok
  obtain ⟨n, hnn⟩ : ∃ n, n = xs.length := ⟨_, rfl⟩
  have HN := Lib.hid hnn
  rw [← hnn] at hn ⊢
  have hgt : ¬ (100 : Int) < (n : Int) := by omega
  obtain ⟨B, hB⟩ : ∃ B, B = w.heap.size := ⟨_, rfl⟩
  have HBE := Lib.hid hB
  clear hr hok hnn hB
  go_enter Try.func3, Try.ntmps3
  go_wp2_with fail
  refine (HL.out _).mono ?_
  rintro e w1 ⟨rfl, hb⟩
  have HS0 : Hid (LotS B w (w1.alloc (.cells #[.slice none 0 0] 27)) w1.heap.size [] (.slice none 0 0) none) := by
    have hb' : Below B w w1 := by rw [HBE.out]; exact hb
    have hs : B ≤ w1.heap.size := by rw [HBE.out]; exact hb.size
    exact ⟨⟨hs, Blk.new w1 _ _, World.ownsRow_nil _ _ _ _⟩, RowG.nil _ _, (fun p hp => by cases hp), hb'.alloc hs _, by simp⟩
  clear hb HL
  go_wp2
  obtain ⟨b, hb⟩ : ∃ b, b = w1.heap.size := ⟨_, rfl⟩
  rw [← hb] at HS0
  try rw [← hb]
  generalize w1.alloc (.cells #[.slice none 0 0] 27) = w2 at HS0 ⊢
  clear hb
  go_loopg [4, 6, 7, 8, 9, 10, 11, 12, 13, 15, 16, 17, 18, 19, 35, 46, 94, 95, 96, 120, 131] n (fun gk r4 _ _ _ _ _ _ _ _ _ _ _ _ _ i _ _ _ _ _ _ wr => ∃ (k q : Nat) (ms : List Lt) (v : Value) (am : Option Addr) (cm : Nat), k ≤ n ∧ i = .int .i64 k ∧ r4 = .slice am q cm ∧ n - k ≤ gk ∧ q ≤ k ∧ Hid (q = ms.length) ∧ Hid (LotS B w wr b ms v am))
  case atStart => exact ⟨0, 0, [], .slice none 0 0, none, 0, Nat.zero_le _, rfl, rfl, by omega, Nat.le_refl _, rfl, HS0.out⟩
  case round =>
    clear HS0
    obtain ⟨k, q, ms, v, am, cm, hk, rfl, rfl, hgk, hqk, HQ, HS⟩ := hrel
    by_cases hlt : k < n
    · obtain ⟨x, hx⟩ : ∃ x, xs[k]? = some x := ⟨_, List.getElem?_eq_getElem (by rw [← HN.out]; exact hlt)⟩
      obtain ⟨K, ⟨p, c, m, d⟩, t⟩ := x
      obtain ⟨b1, off, rfl⟩ := HR.out.form (by rw [← HN.out]; omega)
      obtain ⟨c0, c1, c2, c3, c4, c5⟩ := cells6 (HR.out.keep (by rw [← HBE.out]; exact HS.out.below)) hx
      obtain ⟨hK, ⟨ham, had⟩, hat⟩ := HOK.out _ (List.mem_of_getElem? hx)
      simp only at hK ham had hat
      have HAM : Hid (AmtL (p, c, m, d)) := ⟨ham, had⟩
      have hkz : (0 : Int) ≤ (k : Int) := by omega
      have hkn : (k : Int) < (n : Int) := by omega
      have hql : q ≤ 1000000 := by omega
      obtain ⟨ba, hba⟩ : ∃ ba, ba = wr.heap.size := ⟨_, rfl⟩
      have HBA := Lib.hid hba
      have HAL : Hid (Below wr.heap.size wr (wr.alloc (.cells #[.int .u8 (K : Int), .string (st p), .string (st c), .int .i64 m, .int .i64 d, .int .i64 t] 32))) := (Below.refl _ wr).alloc (Nat.le_refl _) _
      have HBL : Hid (Blk (wr.alloc (.cells #[.int .u8 (K : Int), .string (st p), .string (st c), .int .i64 m, .int .i64 d, .int .i64 t] 32)) ba 32 #[.int .u8 (K : Int), .string (st p), .string (st c), .int .i64 m, .int .i64 d, .int .i64 t]) := by rw [hba]; exact Blk.new wr _ _
      have HCL := Lib.hid (cloneL_any B b ms v _ (HS.out.keep HAL.out).lots (by rw [← HQ.out]; exact hql))
      have HLT : Hid (∀ k ∈ fpL b v, k < ba) := fun k hk => by rw [hba]; exact (HS.out.lots.lt k hk).1
      have HAP : Hid (∀ p, am = some p → p.block ∉ fpL b v) := HS.out.apart
      clear hx ham had hat
      go_wp2_with fail
      refine HCL.out.mono ?_
      rintro e w3 ⟨g, vc, rfl, hlc, hb3⟩
      obtain ⟨Bc, hBc⟩ : ∃ Bc, Bc = (wr.alloc (.cells #[.int .u8 (K : Int), .string (st p), .string (st c), .int .i64 m, .int .i64 d, .int .i64 t] 32)).heap.size := ⟨_, rfl⟩
      have HBB : Hid (ba ≤ Bc) := by rw [hBc, hba]; show _ ≤ _; simp
      rw [← hba]
      rw [← hBc] at hlc
      have HRN : Hid (RnP B w w3 b g ba Bc ms ms v vc am am #[.int .u8 (K : Int), .string (st p), .string (st c), .int .i64 m, .int .i64 d, .int .i64 t]) :=
        ⟨(HS.out.keep HAL.out).keep hb3, hlc, (HS.out.ref.keep HAL.out).keep hb3, HBL.out.since hb3⟩
      clear hlc hb3 hBc hba HCL HBL HAL HS c0 c1 c2 c3 c4 c5
      have d0 := HRN.out.act.cell 0
      have d1 := HRN.out.act.cell 1
      have d2 := HRN.out.act.cell 2
      have d3 := HRN.out.act.cell 3
      have d4 := HRN.out.act.cell 4
      have d5 := HRN.out.act.cell 5
      simp only [List.getElem?_toArray, List.getElem?_cons_zero, List.getElem?_cons_succ] at d0 d1 d2 d3 d4 d5
      have hway : (K : Int) % 3 = 2 ∨ (¬ (K : Int) % 3 = 2 ∧ badLt (p, c, m, d) = true) ∨ (¬ (K : Int) % 3 = 2 ∧ badLt (p, c, m, d) = false ∧ ¬ 0 < m) ∨ (¬ (K : Int) % 3 = 2 ∧ badLt (p, c, m, d) = false ∧ 0 < m) := by
        by_cases h1 : (K : Int) % 3 = 2
        · exact .inl h1
        · cases h2 : badLt (p, c, m, d) with
          | true => exact .inr (.inl ⟨h1, rfl⟩)
          | false =>
            by_cases h3 : 0 < m
            · exact .inr (.inr (.inr ⟨h1, rfl, h3⟩))
            · exact .inr (.inr (.inl ⟨h1, rfl, h3⟩))
      go_upto_if 45 with fail
      go_cut [4, 9, 10, 11, 12, 35] from 35 to 179 (fun r4 _ _ _ _ i wx => i = .int .i64 k ∧ ∃ (q2 : Nat) (ms2 : List Lt) (v2 : Value) (am2 : Option Addr) (cm2 : Nat), r4 = .slice am2 q2 cm2 ∧ q2 ≤ k + 1 ∧ Hid (q2 = ms2.length) ∧ Hid (RnP B w wx b g ba Bc ms2 ms v2 vc am2 am #[.int .u8 (K : Int), .string (st p), .string (st c), .int .i64 m, .int .i64 d, .int .i64 t]))
      case first =>
       rcases hway with hk2 | ⟨hk2, hbad⟩ | ⟨hk2, hbad, hm⟩ | ⟨hk2, hbad, hm⟩
       case inl =>
         have H1 := Lib.hid (split_n t am cm q ms w3 HQ.out HRN.out.row hql)
         go_wp2_with fail
         refine H1.out.mono ?_
         rintro e w4 ⟨a1, cc1, a2, cc2, rfl, r1, r2, hb1, hb2, hb4⟩
         obtain ⟨q1, hq1⟩ : ∃ q1, q1 = (dueL t ms).length := ⟨_, rfl⟩
         obtain ⟨q2, hq2e⟩ : ∃ q2, q2 = (restL t ms).length := ⟨_, rfl⟩
         rw [← hq1, ← hq2e]
         have HQ1 := Lib.hid hq1
         have HQ2 := Lib.hid hq2e
         have hq1l : q1 ≤ q := by rw [hq1, HQ.out]; exact List.length_filter_le _ _
         have hq2 : q2 ≤ k + 1 := by
           have : q2 ≤ q := by rw [hq2e, HQ.out]; exact List.length_filter_le _ _
           omega
         have HRN4 := Lib.hid (HRN.out.keep hb4)
         have H2 := Lib.hid (due_any t B b ms v w4 HRN4.out.cur.lots (by rw [← HQ.out]; exact hql))
         have HR1 := Lib.hid r1
         have HR2 := Lib.hid r2
         have HK1 := Lib.hid hb1
         have HK2 := Lib.hid hb2
         have HS3 : Hid (∀ k ∈ fpL b v, k < w3.heap.size) := fun k hk => (HRN.out.cur.lots.lt k hk).1
         have j5 := HRN4.out.act.cell 5
         simp only [List.getElem?_toArray, List.getElem?_cons_zero, List.getElem?_cons_succ] at j5
         clear hq1 hq2e r1 r2 hb1 hb2 hb4 H1 HRN d0 d1 d2 d3 d4 d5
         go_wp2_with fail
         refine H2.out.mono ?_
         rintro e w5 ⟨a3, cc3, v2, rfl, r3, hb3, hl5, hs5, hv5⟩
         rw [← HQ1.out]
         have HRN5 : Hid (RnP B w w5 b g ba Bc (restL t ms) ms v2 vc a2 am #[.int .u8 (K : Int), .string (st p), .string (st c), .int .i64 m, .int .i64 d, .int .i64 t]) := by
           refine HRN4.out.turn hs5 (fun k hk => ?_) HLT.out HBB.out HAP.out hl5 (HR2.out.stp hs5 fun p hp hm => ?_) (fun p hp hm => ?_) (fun x hx => HRN4.out.cur.amt x (List.mem_filter.1 hx).1)
           · rw [List.mem_singleton] at hk
             exact mem_fpL.2 (.inl hk)
           · rw [List.mem_singleton] at hm
             have := (HK2.out p hp).1
             have := HS3.out b (mem_fpL.2 (.inl rfl))
             omega
           · have h2 := HK2.out p hp
             rcases mem_fpL.1 hm with hm | hm
             · have := HS3.out b (mem_fpL.2 (.inl rfl))
               omega
             · have := hv5 _ hm
               omega
         have HR15 : Hid (RowG 4 cLt w5 a1 (dueL t ms)) := HR1.out.stp hs5 fun p hp hm => by
           rw [List.mem_singleton] at hm
           have := HK1.out p hp
           have := HS3.out b (mem_fpL.2 (.inl rfl))
           omega
         have H3 := Lib.hid (of14_n a3 cc3 q1 (dueL t ms) w5 HQ1.out r3 (by omega))
         clear r3 hb3 hl5 hs5 hv5 HRN4 H2 j5 HR1 HR2 HK1 HK2 HS3
         go_wp2_with fail
         refine H3.out.mono ?_
         rintro e w6 ⟨a4, cc4, rfl, r4, hb6⟩
         have HRN6 := Lib.hid (HRN5.out.keep hb6)
         have H4 := Lib.hid (eqLots_same a4 a1 cc4 cc1 (dueL t ms) q1 w6 HQ1.out r4 (HR15.out.keep hb6) (by omega))
         clear r4 hb6 HRN5 HR15 H3
         go_wp2_with fail
         refine H4.out.mono ?_
         rintro e wz ⟨rfl, hb7⟩
         have HZ := Lib.hid (HRN6.out.keep hb7)
         have HQW := Lib.hid HQ.out
         clear hb7 HRN6 H4 HQ HLT HBB HAP HAM HQ1 HBA hq1l
         go_wp2
         go_meet
         case rel => exact ⟨rfl, q2, _, _, _, _, rfl, hq2, HQ2.out, HZ.out⟩
       case inr.inl =>
         have H1 := Lib.hid (right_any p c m d w3)
         rw [hbad] at H1
         go_wp2_with fail
         refine H1.out.mono ?_
         rintro e w4 ⟨rfl, hb4⟩
         have HRN4 := Lib.hid (HRN.out.keep hb4)
         have H2 := Lib.hid (add_bad b p c m d w4 hbad)
         have j1 := HRN4.out.act.cell 1
         have j2 := HRN4.out.act.cell 2
         have j3 := HRN4.out.act.cell 3
         have j4 := HRN4.out.act.cell 4
         simp only [List.getElem?_toArray, List.getElem?_cons_zero, List.getElem?_cons_succ] at j1 j2 j3 j4
         clear hb4 H1 HRN d0 d1 d2 d3 d4 d5
         go_wp2_with fail
         refine H2.out.mono ?_
         rintro e wz ⟨rfl, hb5⟩
         have HZ := Lib.hid (HRN4.out.keep hb5)
         have hq2 : q ≤ k + 1 := by omega
         have d3 := HZ.out.act.cell 3
         simp only [List.getElem?_toArray, List.getElem?_cons_zero, List.getElem?_cons_succ] at d3
         clear hb5 HRN4 H2 j1 j2 j3 j4 HLT HBB HAP HAM HBA
         go_wp2
         go_meet
         case rel => exact ⟨rfl, q, _, _, _, _, rfl, hq2, HQ.out, HZ.out⟩
       case inr.inr.inl =>
         have H1 := Lib.hid (right_any p c m d w3)
         rw [hbad] at H1
         go_wp2_with fail
         refine H1.out.mono ?_
         rintro e w4 ⟨rfl, hb4⟩
         have HRN4 := Lib.hid (HRN.out.keep hb4)
         have H2 := Lib.hid (add_zero b p c m d w4 hbad (by omega))
         have j1 := HRN4.out.act.cell 1
         have j2 := HRN4.out.act.cell 2
         have j3 := HRN4.out.act.cell 3
         have j4 := HRN4.out.act.cell 4
         simp only [List.getElem?_toArray, List.getElem?_cons_zero, List.getElem?_cons_succ] at j1 j2 j3 j4
         clear hb4 H1 HRN d0 d1 d2 d3 d4 d5
         go_wp2_with fail
         refine H2.out.mono ?_
         rintro e wz ⟨rfl, hb5⟩
         have HZ := Lib.hid (HRN4.out.keep hb5)
         have hq2 : q ≤ k + 1 := by omega
         have d3 := HZ.out.act.cell 3
         simp only [List.getElem?_toArray, List.getElem?_cons_zero, List.getElem?_cons_succ] at d3
         clear hb5 HRN4 H2 j1 j2 j3 j4 HLT HBB HAP HAM HBA
         go_wp2
         go_meet
         case rel => exact ⟨rfl, q, _, _, _, _, rfl, hq2, HQ.out, HZ.out⟩
       case inr.inr.inr =>
         have H1 := Lib.hid (right_any p c m d w3)
         rw [hbad] at H1
         go_wp2_with fail
         refine H1.out.mono ?_
         rintro e w4 ⟨rfl, hb4⟩
         have HRN4 := Lib.hid (HRN.out.keep hb4)
         have H2 := Lib.hid (add_yes B b ms v p c m d w4 HRN4.out.cur.lots hbad hm (by rw [← HQ.out]; exact hql))
         have j1 := HRN4.out.act.cell 1
         have j2 := HRN4.out.act.cell 2
         have j3 := HRN4.out.act.cell 3
         have j4 := HRN4.out.act.cell 4
         simp only [List.getElem?_toArray, List.getElem?_cons_zero, List.getElem?_cons_succ] at j1 j2 j3 j4
         clear hb4 H1 HRN d0 d1 d2 d3 d4 d5
         go_wp2_with fail
         refine H2.out.mono ?_
         rintro e w5 ⟨rfl, v2, hl5, hs5, hv5⟩
         have HST := Lib.hid hs5
         have HL5 := Lib.hid hl5
         have HCL5 : Hid (LotsP Bc w5 g ms vc) := HRN4.out.cl.stp hs5 fun k hk => by have := HLT.out k hk; have := HBB.out; omega
         have HRW5 : Hid (RowG 4 cLt w5 am ms) := HRN4.out.row.stp hs5 fun p hp => HAP.out p hp
         have HAC5 : Hid (Blk w5 ba 32 #[.int .u8 (K : Int), .string (st p), .string (st c), .int .i64 m, .int .i64 d, .int .i64 t]) := HRN4.out.act.stp hs5 fun hm => by have := HLT.out _ hm; omega
         have HBW5 : Hid (Below B w w5) := HRN4.out.cur.below.trans (hs5.below (fun k hk => (HRN4.out.cur.lots.lt k hk).2) HRN4.out.cur.size)
         have HAM5 : Hid (∀ x ∈ ms ++ [(p, c, m, d)], AmtL x) := fun x hx => by
           rcases List.mem_append.1 hx with hx | hx
           · exact HRN4.out.cur.amt x hx
           · rw [List.mem_singleton] at hx
             rw [hx]
             exact HAM.out
         have d3 := HAC5.out.cell 3
         simp only [List.getElem?_toArray, List.getElem?_cons_zero, List.getElem?_cons_succ] at d3
         have HA4 : Hid (At4 ba p c m d w5) := at4_blk HAC5.out
         have HAd : Hid (At4 ba p c m d w5.drew) := HA4.out
         obtain ⟨wa, hwa⟩ : ∃ wa, wa = (w5.alloc (.cells #[.string (st p), .string (st c), .int .i64 m, .int .i64 d] 37)).drew := ⟨_, rfl⟩
         have HBa : Hid (Below w5.heap.size w5 wa) := by rw [hwa]; exact ((Below.refl _ w5).alloc (Nat.le_refl _) _).drew
         have HBL : Hid (Blk wa w5.heap.size 37 #[.string (st p), .string (st c), .int .i64 m, .int .i64 d]) := by rw [hwa]; exact Blk.new w5 _ _
         have HAa : Hid (At4 ba p c m d wa) := HA4.out.below HBa.out
         have HCd := Lib.hid (clone_n am cm q ms w5 w5.drew HQ.out HRW5.out hql (Below.refl _ w5).drew)
         have HCa := Lib.hid (clone_n am cm q ms w5 wa HQ.out (HRW5.out.keep HBa.out) hql HBa.out)
         have hkd := HAd.out
         have hka := HAa.out
         have HBAL : Hid (ba < w5.heap.size) := HAC5.out.lt
         unfold At4 at hkd hka
         rw [hwa] at hka HCa
         obtain ⟨i0, hi0, hzz⟩ := Option.map_eq_some_iff.1 infoRLot
         simp only [Prod.mk.injEq] at hzz
         obtain ⟨hz0, hz1, hz2⟩ := hzz
         clear hl5 hs5 hv5 H2 j1 j2 j3 j4 HLT HBB HAP HAM HRN4
         go_wp2_with fail
         go_region_held3 (fun w' => w'.cell? ⟨ba, 1, none⟩ = some (.string (st p)) ∧ w'.cell? ⟨ba, 2, none⟩ = some (.string (st c)) ∧ w'.cell? ⟨ba, 3, none⟩ = some (.int .i64 m) ∧ w'.cell? ⟨ba, 4, none⟩ = some (.int .i64 d))
           (first | with_reducible exact hkd | with_reducible exact hka | with_reducible exact hk6 | with_reducible exact hk7 | with_reducible exact hk9 | go_keep)
           (first
             | (go_at_call 12; ((with_reducible refine HCd.out.mono ?_); rintro e w6 ⟨⟨A6, c6, rfl, ho6, hb6⟩, hbb6⟩; have hk6' : At4 ba p c m d w6 := HAd.out.below hbb6; have hk7' : At4 ba p c m d (w6.alloc (.cells #[.string (st p), .string (st c), .int .i64 m, .int .i64 d] 37)) := hk6'.below ((Below.refl _ w6).alloc (Nat.le_refl _) _); have hk6 := hk6'; have hk7 := hk7'; unfold At4 at hk6 hk7))
             | (go_at_call 12; ((with_reducible refine HCa.out.mono ?_); rintro e w6 ⟨⟨A6, c6, rfl, ho6, hb6⟩, hbb6⟩; rw [← hwa] at hbb6; have hbl6 := HBL.out.since hbb6; have hk6' : At4 ba p c m d w6 := HAa.out.below hbb6; have hk6 := hk6'; unfold At4 at hk6))
             | (refine step_append_lies _ (by rfl) _ _ _ (by rfl) w5.heap.size 37 i0 _ 4 48 Try.underlying28 hi0 hz0 hz1 hz2 rfl (by omega) (.slice A6 q c6) q (ms.flatMap cLt) (by rfl) (ho6.alloc _) ⟨w6.heap.size, 0, none⟩ 1 1 [.string (st p), .string (st c), .int .i64 m, .int .i64 d] (by rfl) (by rfl) (World.news_of_block (cs := #[.string (st p), .string (st c), .int .i64 m, .int .i64 d]) (t := 37) (fr := (0, 0)) (Blk.new w6 _ _)) (by simp [Value.oneCell']) (by omega) (by unfold maxLen; omega) (by omega) (by have := hb6.size; simp; omega) (w6.heap.size + 1) (by simp) ?_; intro gg cap wz hown9 hgrow hat hlt9; have hk9 := hk7'.grown hgrow (fun e => by have := (ho6.lt ba e.symm).1; have := HBAL.out; omega); have HB9 : Hid (Below w5.heap.size w5 wz) := (hb6.alloc hb6.size _).grown hgrow (by have := hb6.size; simp; omega) (fun z hz => (ho6.lt z hz).1); unfold At4 at hk9)
             | (refine step_append_lies _ (by rfl) _ _ _ (by rfl) w5.heap.size 37 i0 _ 4 48 Try.underlying28 hi0 hz0 hz1 hz2 rfl (by omega) (.slice A6 q c6) q (ms.flatMap cLt) (by rfl) ho6 ⟨w5.heap.size, 0, none⟩ 1 1 [.string (st p), .string (st c), .int .i64 m, .int .i64 d] (by rfl) (by rfl) (World.news_of_block (cs := #[.string (st p), .string (st c), .int .i64 m, .int .i64 d]) (t := 37) (fr := (0, 0)) hbl6) (by simp [Value.oneCell']) (by omega) (by unfold maxLen; omega) (by omega) hb6.size w6.heap.size rfl ?_; intro gg cap wz hown9 hgrow hat hlt9; have hk9 := hk6'.grown hgrow (fun e => by have := (ho6.lt ba e.symm).1; have := HBAL.out; omega); have HB9 : Hid (Below w5.heap.size w5 wz) := hb6.grown hgrow hb6.size (fun z hz => (ho6.lt z hz).1); unfold At4 at hk9))
         all_goals
           obtain ⟨q2, hq2e⟩ : ∃ q2, q2 = q + 1 := ⟨_, rfl⟩
           have HO9 : Hid (wz.ownsRow w5.heap.size 37 4 (.slice (some ⟨gg, 0, none⟩) q2 cap) q2 ((ms ++ [(p, c, m, d)]).flatMap cLt)) := by
             show World.ownsRow _ _ _ _ _ _ _
             rw [List.flatMap_append, hq2e]
             simpa [cLt] using hown9
           have HQ2 : Hid (q2 = (ms ++ [(p, c, m, d)]).length) := by show _ = _; rw [List.length_append, ← HQ.out]; exact hq2e
           have HQW := Lib.hid HQ.out
           have hq2 : q2 ≤ k + 1 := by omega
           have HZ : Hid (RnP B w wz b g ba Bc (ms ++ [(p, c, m, d)]) ms v2 vc (some ⟨gg, 0, none⟩) am #[.int .u8 (K : Int), .string (st p), .string (st c), .int .i64 m, .int .i64 d, .int .i64 t]) := by
             obtain ⟨a9, cc9, e1, e2, e3, _⟩ := RowG.own cLt_len HO9.out HQ2.out
             injection e1 with e1 _ _
             subst e1
             refine ⟨⟨HL5.out.keep HB9.out, e2, fun p hp hm => ?_, bel_onG HBW5.out (by have := HL5.out.hb; have := HL5.out.box.lt; omega) HB9.out, HAM5.out⟩, HCL5.out.keep HB9.out, HRW5.out.keep HB9.out, HAC5.out.since HB9.out⟩
             have h1 := e3 p hp
             have h2 := (HL5.out.lt _ hm).1
             omega
           clear HST HL5 HCL5 HRW5 HAC5 HBW5 HAM5 d3 HA4 HAd hwa HBa HBL HAa HCd HCa hkd hka HBAL hi0 hz0 hz1 hz2 HB9 hown9 hgrow hat hlt9 hk9 ho6 hb6 hbb6 hk6 hk6' HO9 HQ HBA
           rw [← hq2e]
           go_wp2
           go_meet
           case rel => exact ⟨rfl, q2, _, _, _, _, rfl, hq2, HQ2.out, HZ.out⟩
      case rest =>
        obtain ⟨rfl, q2, ms2, v2, am2, cm2, rfl, hq2, HQ2, HZ⟩ := hcut
        have HQW := Lib.hid HQ.out
        clear HQ HRN HLT HBB HAP HAM HBA hway d0 d1 d2 d3 d4 d5
        generalize wc = wz at HZ ⊢
        have hq2l : q2 ≤ 1000000 := by omega
        obtain ⟨Bz, hBz⟩ : ∃ Bz, Bz = wz.heap.size := ⟨_, rfl⟩
        have HBZ := Lib.hid hBz
        clear hBz
        have d3 := HZ.out.act.cell 3
        simp only [List.getElem?_toArray, List.getElem?_cons_zero, List.getElem?_cons_succ] at d3
        go_wp2
        go_loopg [13, 15, 96] q2 (fun gj r13 _ i wq => ∃ (j m1 : Nat) (v13 : Value), j ≤ q2 ∧ i = .int .i64 j ∧ v13 = r13 ∧ q2 - j ≤ gj ∧ m1 ≤ j ∧ Hid (m1 = (mineL p c (ms2.take j)).length) ∧ Hid (wq.ownsRow Bz 2 1 v13 m1 (iv (mineL p c (ms2.take j)))) ∧ Hid (Below Bz wz wq))
        case atStart => exact ⟨0, 0, _, Nat.zero_le _, rfl, rfl, by omega, Nat.le_refl _, rfl, World.ownsRow_nil _ _ _ _, Below.refl _ _⟩
        case round =>
          obtain ⟨j, m1, v13, hj, rfl, rfl, hgj, hmj, HM, HOW, HB⟩ := hrel
          have HZ1 := Lib.hid (HZ.out.keep (HBZ.out ▸ HB.out))
          by_cases hlj : j < q2
          · obtain ⟨y, hy⟩ : ∃ y, ms2[j]? = some y := ⟨_, List.getElem?_eq_getElem (by rw [← HQ2.out]; exact hlj)⟩
            obtain ⟨p2, c2, m2, d2⟩ := y
            obtain ⟨b2, off2, rfl⟩ := HZ1.out.cur.ref.form (by rw [← HQ2.out]; omega)
            obtain ⟨f0, f1, f2, f3⟩ := cells4 HZ1.out.cur.ref hy
            have hjz : (0 : Int) ≤ (j : Int) := by omega
            have hjn : (j : Int) < (q2 : Int) := by omega
            have e1 : ∀ o, (wr.alloc o).cell? ⟨ba, 1, none⟩ = some (.string (st p)) := fun o => (HZ1.out.act.alloc o).cell 1
            have e2 : ∀ o, (wr.alloc o).cell? ⟨ba, 2, none⟩ = some (.string (st c)) := fun o => (HZ1.out.act.alloc o).cell 2
            have HBS : Hid (Bz ≤ wr.heap.size) := by have := HB.out.size; have := HBZ.out; show _ ≤ _; omega
            have HBo : Hid (∀ o : Obj, Below Bz wz (wr.alloc o)) := fun o => HB.out.alloc HBS.out o
            have HOo : Hid (∀ o : Obj, (wr.alloc o).ownsRow Bz 2 1 v13 m1 (iv (mineL p c (ms2.take j)))) := fun o => HOW.out.alloc o
            by_cases h1 : p2 = p
            · by_cases h2 : c2 = c
              · have HY := Lib.hid (mine_yes (p := p) (c := c) hy h1 h2)
                subst h1
                subst h2
                clear hy
                go_wp2_with (first | (at_builtin; refine wpList_append_one rfl (.tmp 114) (.tmp 117) 44 rfl Bz 2 (.int .i64 0) 8 Try.underlying44 infoI64 rfl _ (.int .i64 m2) rfl v13 m1 _ rfl (new_at _ _) (HOo.out _) (by have := HBS.out; simp; omega) (by unfold maxLen; omega) (by omega) ?_; intro v5 w5 h1 h2; have HO5 := Lib.hid h1; have HB5 : Hid (Below Bz wz w5) := (HBo.out _).trans h2; clear h1 h2) | fail)
                go_roundg (q2 - (j + 1))
                case measure => omega
                case rel => exact ⟨j + 1, m1 + 1, v5, by omega, by go_num, rfl, by omega, by omega, by show _ = _; rw [HY.out, List.length_append, ← HM.out]; rfl, by rw [HY.out]; have h := HO5.out; unfold iv at h ⊢; rw [List.map_append]; exact h, HB5.out⟩
              · have HY := Lib.hid (mine_no (p := p) (c := c) hy (.inr h2))
                subst h1
                have hne := st_neb h2
                clear hy h2
                go_wp2
                go_roundg (q2 - (j + 1))
                case measure => omega
                case rel => exact ⟨j + 1, m1, v13, by omega, by go_num, rfl, by omega, by omega, by show _ = _; rw [HY.out]; exact HM.out, by rw [HY.out]; exact HOo.out _, HBo.out _⟩
            · have HY := Lib.hid (mine_no (p := p) (c := c) hy (.inl h1))
              have hne := st_neb h1
              clear hy h1
              go_wp2
              go_roundg (q2 - (j + 1))
              case measure => omega
              case rel => exact ⟨j + 1, m1, v13, by omega, by go_num, rfl, by omega, by omega, by show _ = _; rw [HY.out]; exact HM.out, by rw [HY.out]; exact HOo.out _, HBo.out _⟩
          · have e : j = q2 := by omega
            have HTK : Hid (ms2.take j = ms2) := List.take_of_length_le (by rw [← HQ2.out]; omega)
            have hm := HM.out
            have ho := HOW.out
            rw [HTK.out] at hm ho
            obtain ⟨A13, c13, rfl⟩ := own_sliceG ho
            obtain ⟨S, E, okb, hS, hE, hO, hway⟩ := sum_ways (mineL p c ms2)
            have h1 := held_any B b ms2 _ p c wr HZ1.out.cur.lots HZ1.out.cur.amt (by rw [← HQ2.out]; exact hq2l)
            have hrow : RowI .i64 wr A13 (mineL p c ms2) := RowI.of_own (n := m1) (c := c13) (base := Bz) ho
            have h2 : ∀ W, Below wr.heap.size wr W → Calls Try.prog 14 #[.slice A13 m1 c13] W fun e w' => e = .returned (.tuple #[.int .i64 S, .bool okb]) ∧ W = w' := fun W hW => by
              have := sum_n A13 c13 m1 (mineL p c ms2) W hm (rowI_keep14 hrow hW) (mine_amt HZ1.out.cur.amt) (by omega)
              rw [hS, hO] at this
              exact this
            rw [hS, hE] at h1
            have H1 := Lib.hid h1
            have H2 := Lib.hid h2
            have j1 : wr.cell? ⟨ba, 1, none⟩ = some (.string (st p)) := HZ1.out.act.cell 1
            have j2 : wr.cell? ⟨ba, 2, none⟩ = some (.string (st c)) := HZ1.out.act.cell 2
            clear hlj hj hm ho hrow h1 h2 hS hE hO HOW HM HZ d3 HTK
            subst e
            rcases hway with ⟨rfl, rfl⟩ | ⟨rfl, rfl, rfl⟩
            all_goals
              go_wp2_with fail
              refine H1.out.mono ?_
              rintro e w10 ⟨rfl, hb10⟩
              have HZ10 := Lib.hid (HZ1.out.keep hb10)
              have H2b := Lib.hid (H2.out w10 hb10)
              clear hb10 H1 H2 HZ1 j1 j2
              go_wp2_with fail
              refine H2b.out.mono ?_
              rintro e w11 ⟨rfl, rfl⟩
              have H3 := Lib.hid (all_n B b j ms2 _ w10 HQ2.out HZ10.out.cur.lots hq2l)
              clear H2b
              go_wp2_with fail
              refine H3.out.mono ?_
              rintro e w11 ⟨a11, cc11, rfl, r11, hb11⟩
              have HZ11 := Lib.hid (HZ10.out.keep hb11)
              have H4 := Lib.hid (of14_n a11 cc11 j ms2 w11 HQ2.out r11 hq2l)
              clear H3 hb11 r11 HZ10
              go_wp2_with fail
              refine H4.out.mono ?_
              rintro e w12 ⟨a12, cc12, rfl, r12, hb12⟩
              have HZ12 := Lib.hid (HZ11.out.keep hb12)
              have HR12 := Lib.hid r12
              clear H4 hb12 r12 HZ11
              go_wp2_with fail
              refine (eqLots_same _ _ _ _ ms2 j w12 HQ2.out HR12.out HZ12.out.cur.ref hq2l).mono ?_
              rintro e w13 ⟨rfl, hb13⟩
              have HZ13 := Lib.hid (HZ12.out.keep hb13)
              clear hb13 HR12 HZ12
              go_wp2_with fail
              refine (next_any B b ms2 _ w13 HZ13.out.cur.lots (by rw [← HQ2.out]; exact hq2l)).mono ?_
              rintro e w14 ⟨rfl, hb14⟩
              have HZ14 := Lib.hid (HZ13.out.keep hb14)
              clear hb14 HZ13
              go_wp2_with fail
              refine (rnext_n _ _ j ms2 w14 HQ2.out HZ14.out.cur.ref hq2l).mono ?_
              rintro e w15 ⟨rfl, rfl⟩
              go_wp2_with fail
              refine (all_n Bc g _ _ vc w14 HQW.out HZ14.out.cl (by omega)).mono ?_
              rintro e w15 ⟨a15, cc15, rfl, r15, hb15⟩
              have HZ15 := Lib.hid (HZ14.out.keep hb15)
              have HR15 := Lib.hid r15
              clear r15 hb15 HZ14
              go_wp2_with fail
              refine (of14_n a15 cc15 _ _ w15 HQW.out HR15.out (by omega)).mono ?_
              rintro e w16 ⟨a16, cc16, rfl, r16, hb16⟩
              have HZ16 := Lib.hid (HZ15.out.keep hb16)
              have HR16 := Lib.hid r16
              clear r16 hb16 HZ15 HR15
              go_wp2_with fail
              refine (eqLots_same _ _ _ _ _ _ w16 HQW.out HR16.out HZ16.out.row (by omega)).mono ?_
              rintro e w17 ⟨rfl, hb17⟩
              have HZ17 := Lib.hid (HZ16.out.keep hb17)
              clear hb17 HR16 HZ16
              go_wp2
              go_roundg (n - (k + 1))
              case measure => omega
              case rel => exact ⟨k + 1, _, ms2, _, _, _, by omega, by go_num, rfl, by omega, hq2, HQ2.out, HZ17.out.cur⟩
    · have e : n = k := by omega
      have HBF := Lib.hid HS.out.below
      have HBFs : Hid (B ≤ wr.heap.size) := HS.out.size
      clear hlt hk hgk hqk HQ HS
      subst e
      go_wp2_with fail
      refine (held_nil _ _ wr).mono ?_
      rintro e w3 ⟨rfl, rfl⟩
      go_wp2_with fail
      refine (add_nil [97] [69, 85, 82] 0 0 wr).mono ?_
      rintro e w4 ⟨rfl, hb4⟩
      have HB4 : Hid (Below w.heap.size w w4) := by rw [← HBE.out]; exact bel_onG HBF.out HBFs.out hb4
      clear hb4 HBF HBFs
      go_wp2_with fail
      refine (due_nil _ w4).mono ?_
      rintro e w5 ⟨rfl, rfl⟩
      go_wp2_with fail
      refine (next_nil w4).mono ?_
      rintro e w5 ⟨rfl, rfl⟩
      go_wp2_with fail
      refine (all_nil w4).mono ?_
      rintro e w5 ⟨rfl, rfl⟩
      go_wp2_with fail
      refine (cloneL_nil w4).mono ?_
      rintro e w5 ⟨rfl, rfl⟩
      go_wp2
      go_ret
      exact ⟨rfl, HB4.out⟩
theorem acts_walk (a : Option Addr) (cp n : Nat) (xs : List Ac14) (w : World) (hl : xs.length = n) (hr : RowG 6 cAc w a xs) (hok : ∀ x ∈ xs, OkAc x) :
    Calls Try.prog 3 #[.slice a n cp] w fun e w' => e = .returned (.bool true) ∧ Below w.heap.size w w' := by
  by_cases h : 100 < n
  · exact acts_many a n cp w h
  · rw [← hl]
    exact acts_few a cp xs w hr hok (by omega)
end Go.Proofs.Ytoiiaicjlefclaa
