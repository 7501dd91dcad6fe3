/-
  The walk of souklaw16.GateOnce.
-/
import Derived.Test.YtkhkcpoadccflaaGtN
import Derived.Laws.StructEq
namespace Go.Proofs.Ytkhkcpoadccflaa
open Go.RowKit Go.Deep Go.Lib

set_option maxHeartbeats 1600000 in
set_option maxRecDepth 100000 in
theorem once_many (a : Option Addr) (n c : Nat) (w : World) (hn : 100 < n) :
    Calls Try.prog 4 #[.slice a n c] w fun e w' => e = .returned (.bool true) ∧ Below w.heap.size w w' := by
  have HL := Lib.hid lives16_any
  have hgt : (100 : Int) < (n : Int) := by omega
  clear hn
  go_enter Try.func4, Try.ntmps4
  go_wp2_with fail
  refine (HL.out _).mono ?_
  rintro e w1 ⟨rfl, hb⟩
  have HB := Lib.hid hb
  clear hb
  go_wp2_with fail
  refine (HL.out _).mono ?_
  rintro e w2 ⟨rfl, hb⟩
  have HB2 := Lib.hid (bel_onG HB.out HB.out.size hb)
  clear hb HL
  go_wp2
  go_ret
  exact ⟨rfl, HB2.out⟩

/-- a gateway, and what lies below -/
structure GW (B : Nat) (w wr : World) (b : Nat) (L : List Rc) (Q : List Rp) (v1 v2 : Value) : Prop where
  gate : GateP 28 58 40 B wr b L Q v1 v2
  below : Below B w wr
theorem GW.size {B b : Nat} {w wr : World} {L : List Rc} {Q : List Rp} {v1 v2 : Value} (h : GW B w wr b L Q v1 v2) : B ≤ wr.heap.size := Nat.le_of_lt (Nat.lt_of_le_of_lt h.gate.hb h.gate.box.lt)
theorem GW.keep {B b : Nat} {w wr wr' : World} {L : List Rc} {Q : List Rp} {v1 v2 : Value} (h : GW B w wr b L Q v1 v2) (hb : Below wr.heap.size wr wr') : GW B w wr' b L Q v1 v2 := ⟨h.gate.keep hb, bel_onG h.below h.size hb⟩

set_option maxHeartbeats 12800000 in
set_option maxRecDepth 100000 in
theorem once_few (a : Option Addr) (cp : Nat) (xs : List Ga) (w : World) (hr : RowG 9 cGa w a xs) (hok : ∀ x ∈ xs, OkGa x) (hn : xs.length ≤ 100) :
    Calls Try.prog 4 #[.slice a xs.length cp] w fun e w' => e = .returned (.bool true) ∧ Below w.heap.size w w' := by
  have HL := Lib.hid lives16_any
  have HR := Lib.hid hr
  have HOK := Lib.hid hok
  obtain ⟨n, hnn⟩ : ∃ n, n = xs.length := ⟨_, rfl⟩
  have HN := Lib.hid hnn
  rw [← hnn] at hn ⊢
  have hgt : ¬ (100 : Int) < (n : Int) := by omega
  clear hr hok hnn
  go_enter Try.func4, Try.ntmps4
  go_wp2_with fail
  refine (HL.out _).mono ?_
  rintro e w1 ⟨rfl, hb⟩
  have HS0 : Hid (GW w.heap.size w (w1.alloc (.cells #[.slice none 0 0, .slice none 0 0] 28)) w1.heap.size [] [] (.slice none 0 0) (.slice none 0 0)) := ⟨zero_gate tyG w1 w.heap.size hb.size, hb.alloc hb.size _⟩
  clear hb HL
  go_wp2
  obtain ⟨b, hb⟩ : ∃ b, b = w1.heap.size := ⟨_, rfl⟩
  rw [← hb] at HS0
  try rw [← hb]
  generalize w1.alloc (.cells #[.slice none 0 0, .slice none 0 0] 28) = w2 at HS0 ⊢
  clear hb
  go_loopg [5, 6, 7, 8, 9, 10, 12, 25, 61, 62, 63, 73, 74, 75] n (fun gk _ _ _ _ _ _ _ i _ _ _ _ _ _ wr => ∃ (k : Nat) (L : List Rc) (Q : List Rp) (v1 v2 : Value), k ≤ n ∧ i = .int .i64 k ∧ n - k ≤ gk ∧ L.length ≤ k ∧ Q.length ≤ k ∧ Hid (One L) ∧ Hid (GW w.heap.size w wr b L Q v1 v2))
  case atStart => exact ⟨0, [], [], _, _, Nat.zero_le _, rfl, by omega, Nat.le_refl _, Nat.le_refl _, One.nil, HS0.out⟩
  case round =>
    clear HS0
    obtain ⟨k, L, Q, v1, v2, hk, rfl, hgk, hLk, hQk, HON, HS⟩ := hrel
    by_cases hlt : k < n
    · obtain ⟨x, hx⟩ : ∃ x, xs[k]? = some x := ⟨_, List.getElem?_eq_getElem (by rw [← HN.out]; exact hlt)⟩
      obtain ⟨b1, off, rfl⟩ := HR.out.form (by rw [← HN.out]; omega)
      obtain ⟨c0, c1, c2, c3, c4, c5, c6, c7, c8⟩ := cells9 (HR.out.keep HS.out.below) hx
      obtain ⟨hch, hn1, hn2⟩ := HOK.out _ (List.mem_of_getElem? hx)
      obtain ⟨⟨r0, r1, r2, r3, r4, r5⟩, ch, late, num⟩ := x
      simp only at hch hn1 hn2 c0 c1 c2 c3 c4 c5 c6 c7 c8
      have hkz : (0 : Int) ≤ (k : Int) := by omega
      have hkn : (k : Int) < (n : Int) := by omega
      have HCH := Lib.hid hch
      have hLl : L.length < 1000000 := by omega
      have hQl : Q.length ≤ 1000000 := by omega
      have hbe : Below wr.heap.size wr (wr.alloc (.cells #[.string (st r0), .string (st r1), .string (st r2), .string (st r3), .int .i64 r4, .int .i64 r5, .int .u8 (ch : Int), .bool late, .int .i8 num] 38)) := (Below.refl _ wr).alloc (Nat.le_refl _) _
      have HS1 := Lib.hid (HS.out.keep hbe)
      have HA1 : Hid (Blk (wr.alloc (.cells #[.string (st r0), .string (st r1), .string (st r2), .string (st r3), .int .i64 r4, .int .i64 r5, .int .u8 (ch : Int), .bool late, .int .i8 num] 38)) wr.heap.size 38 #[.string (st r0), .string (st r1), .string (st r2), .string (st r3), .int .i64 r4, .int .i64 r5, .int .u8 (ch : Int), .bool late, .int .i8 num]) := Blk.new wr _ _
      have HFA : Hid (wr.heap.size ∉ fpG b v1 v2) := fun hm => by have := (HS.out.gate.lt _ hm).1; omega
      obtain ⟨nw, hnw⟩ : ∃ nw, nw = L.length := ⟨_, rfl⟩
      have HNW := Lib.hid hnw
      have hnwk : nw ≤ k := by omega
      have H1 := Lib.hid (records_any w.heap.size b L Q v1 v2 _ HS1.out.gate (Nat.le_of_lt hLl))
      unfold RowToG at H1
      rw [← hnw] at H1
      clear hx hbe HS hch hnw hn1 hn2
      go_wp2_with fail
      refine H1.out.mono ?_
      rintro e w4 ⟨a6, cp6, rfl, hr6, hn6, hb4⟩
      have HS4 := Lib.hid (HS1.out.keep hb4)
      have HA4 := Lib.hid (HA1.out.since hb4)
      have HR6 := Lib.hid hr6
      obtain ⟨ba, hba⟩ : ∃ ba, ba = wr.heap.size := ⟨_, rfl⟩
      have HF6 : Hid (∀ p, a6 = some p → p.block ∉ fpG b v1 v2) := fun p hp hm => by
        have h1 := hn6 p hp
        have h2 := (HS1.out.gate.lt _ hm).1
        omega
      rw [← hba] at HA4 HFA ⊢
      have d0 := HA4.out.cell 0
      have d1 := HA4.out.cell 1
      have d2 := HA4.out.cell 2
      have d3 := HA4.out.cell 3
      have d4 := HA4.out.cell 4
      have d5 := HA4.out.cell 5
      have d6 := HA4.out.cell 6
      simp only [List.getElem?_toArray, List.getElem?_cons_zero, List.getElem?_cons_succ] at d0 d1 d2 d3 d4 d5 d6
      obtain ⟨L1, hL1⟩ : ∃ L1, L1 = askL (r0, r1, r2, r3, r4, r5) (ch % 8) L := ⟨_, rfl⟩
      obtain ⟨Q1, hQ1⟩ : ∃ Q1, Q1 = askQ (r0, r1, r2, r3, r4, r5) (ch % 8) L Q := ⟨_, rfl⟩
      obtain ⟨A1, hA1⟩ : ∃ A1, A1 = askA (r0, r1, r2, r3, r4, r5) (ch % 8) L := ⟨_, rfl⟩
      have H2 : Hid (Calls Try.prog 10 #[.pointer (some ⟨b, 0, none⟩), .agg #[.string (st r0), .string (st r1), .string (st r2), .string (st r3), .int .i64 r4, .int .i64 r5], .int .u8 (ch : Int)] w4 (AskG 28 58 40 w.heap.size b v1 v2 L1 Q1 A1 w4)) := by
        rw [hL1, hQ1, hA1]
        exact ask_any w.heap.size b L Q v1 v2 (r0, r1, r2, r3, r4, r5) ch w4 HS4.out.gate hLl hQl HCH.out
      have HKN : Hid (∀ (j : Nat) (y : Rp), A1[j]? = some y → y.2.1 = knd y.1 L1) := fun j y hy => by rw [hL1]; rw [hA1] at hy; exact told_known hy
      have HO1 : Hid (One L1) := by rw [hL1]; exact HON.out.ask _ _
      have HTK : Hid (L1.take nw = L) := by show _ = _; rw [hL1, HNW.out]; exact ask_head _ _ _
      obtain ⟨ln, hln⟩ : ∃ ln, ln = L1.length := ⟨_, rfl⟩
      have hl1 : nw ≤ ln ∧ ln ≤ nw + 1 := by rw [hln, hL1, HNW.out]; exact askL_len _ _ _
      have hq1 : Q1.length ≤ k + 1 := by rw [hQ1]; have := askQ_len (r0, r1, r2, r3, r4, r5) (ch % 8) L Q; omega
      obtain ⟨tn, htn⟩ : ∃ tn, tn = A1.length := ⟨_, rfl⟩
      have htl : tn ≤ 2 := by rw [htn, hA1]; exact askA_len _ _ _
      have HLN := Lib.hid hln
      have HTN := Lib.hid htn
      unfold AskG at H2
      rw [← htn] at H2
      clear c0 c1 c2 c3 c4 c5 c6 c7 c8 hba hr6 hn6 hb4 H1 HS1 HA1 hL1 hQ1 hA1 hln htn HON
      go_wp2_with fail
      refine H2.out.mono ?_
      rintro e w5 ⟨a7, cp7, rfl, hr7, hn7, p1, p2, hg5, hs5, hf5⟩
      have HS5 : Hid (GW w.heap.size w w5 b L1 Q1 p1 p2) := ⟨hg5, HS4.out.below.trans (hs5.below (fun k hk => (HS4.out.gate.lt k hk).2) HS4.out.size)⟩
      have HR65 := Lib.hid (HR6.out.stp hs5 HF6.out)
      have HR7 := Lib.hid hr7
      have H3 := Lib.hid (records_cap w.heap.size b L1 Q1 p1 p2 w5 hg5 (by rw [← HLN.out]; omega))
      unfold RowToC at H3
      rw [← HLN.out] at H3
      clear hr7 hn7 hg5 hs5 hf5 H2 HS4 HA4 HR6 HF6 HFA d0 d1 d2 d3 d4 d5 d6
      go_wp2_with fail
      refine H3.out.mono ?_
      rintro e w6 ⟨a8, cp8, rfl, hr8, hn8, hb6, hcp⟩
      have HS6 := Lib.hid (HS5.out.keep hb6)
      have HR76 := Lib.hid (HR7.out.keep hb6)
      have HR8 := Lib.hid hr8
      have H4 := Lib.hid (eqRc_same a8 a6 cp8 cp6 L nw w6 HNW.out (by have h := hr8.take nw; rw [HTK.out] at h; exact h) (HR65.out.keep hb6) (by omega))
      have g1 : decide (ln < nw) = false := decide_eq_false (by omega)
      have g2 : decide (nw + 1 < ln) = false := decide_eq_false (by omega)
      have g1i : ¬ (ln : Int) < (nw : Int) := by omega
      have g2i : ¬ (nw : Int) + 1 < (ln : Int) := by omega
      have g3 : nw ≤ cp8 := by omega
      have g4 : (0 : Int) ≤ (nw : Int) := by omega
      clear hr8 hn8 hb6 H3 HS5 HR65 HR7 HTK
      go_wp2_with fail
      refine H4.out.mono ?_
      rintro e w7 ⟨rfl, hb7⟩
      have HS7 := Lib.hid (HS6.out.keep hb7)
      have HR7 := Lib.hid (HR76.out.keep hb7)
      have HR87 := Lib.hid (HR8.out.keep hb7)
      clear hb7 H4 HS6 HR76 HR8 g1 g2 g1i g2i g3 g4
      go_wp2
      obtain ⟨wz, hwz⟩ : ∃ wz, wz = w7 := ⟨_, rfl⟩
      subst hwz
      go_loopg [9, 10, 12, 63, 73, 74, 75] ln (fun gj _ _ _ i2 _ _ _ wi => ∃ j : Nat, j ≤ ln ∧ i2 = .int .i64 j ∧ ln - j ≤ gj ∧ Hid (Below wz.heap.size wz wi))
      case atStart => exact ⟨0, Nat.zero_le _, rfl, by omega, Below.refl _ _⟩
      case round =>
        obtain ⟨j, hj, rfl, hgj, HBJ⟩ := hrel
        by_cases hjl : j < ln
        · obtain ⟨y, hy⟩ : ∃ y, L1[j]? = some y := ⟨_, List.getElem?_eq_getElem (by rw [← HLN.out]; exact hjl)⟩
          have hrj := HR87.out.keep HBJ.out
          obtain ⟨g8, off8, rfl⟩ := hrj.form (by rw [← HLN.out]; omega)
          obtain ⟨f0, f1, f2, f3, f4⟩ := cells5 hrj hy
          have HNO : Hid (hasK y.1 (L1.take j) = false) := HO1.out.not hy
          have HKD : Hid (knd y.1 L1 = knR y) := HO1.out.kind hy
          obtain ⟨y0, y1, y2, y3, y4⟩ := y
          simp only at f0 f1 f2 f3 f4
          have hbe : Below wr.heap.size wr (wr.alloc (.cells #[.string (st y0), .string (st y1), .string (st y2), .int .i64 y3, .bool y4] 58)) := (Below.refl _ wr).alloc (Nat.le_refl _) _
          have HBE := Lib.hid hbe
          have HRB : Hid (Blk (wr.alloc (.cells #[.string (st y0), .string (st y1), .string (st y2), .int .i64 y3, .bool y4] 58)) wr.heap.size 58 #[.string (st y0), .string (st y1), .string (st y2), .int .i64 y3, .bool y4]) := Blk.new wr _ _
          have H5 : Hid (∀ c, Calls Try.prog 17 #[.slice (some ⟨g8, off8, none⟩) j c, .func (.func 18) #[] #[.pointer (some ⟨wr.heap.size, 0, none⟩)]] (wr.alloc (.cells #[.string (st y0), .string (st y1), .string (st y2), .int .i64 y3, .bool y4] 58)) fun e w' => e = .returned (.bool false) ∧ Below (wr.alloc (.cells #[.string (st y0), .string (st y1), .string (st y2), .int .i64 y3, .bool y4] 58)).heap.size (wr.alloc (.cells #[.string (st y0), .string (st y1), .string (st y2), .int .i64 y3, .bool y4] 58)) w') := fun c => by
            have hlj : (L1.take j).length = j := by rw [List.length_take, ← HLN.out]; omega
            have h := cfO_any (some ⟨g8, off8, none⟩) c (L1.take j) y0 wr.heap.size _ ((hrj.keep hbe).take j) (by rw [hlj]; omega) (HRB.out.cell 0)
            rw [hlj, HNO.out] at h
            exact h
          have hjz : (0 : Int) ≤ (j : Int) := by omega
          have hjn : (j : Int) < (ln : Int) := by omega
          have hjc : j ≤ cp8 := by omega
          clear hy hrj hbe HNO
          go_wp2_with fail
          refine (H5.out _).mono ?_
          rintro e w8 ⟨rfl, hb8⟩
          have HR9 := Lib.hid (HRB.out.since hb8)
          have HB9 : Hid (Below wz.heap.size wz w8) := HBJ.out.trans (bel_lessG (bel_onG HBE.out HBE.out.size hb8) HBJ.out.size)
          obtain ⟨rb, hrb⟩ : ∃ rb, rb = wr.heap.size := ⟨_, rfl⟩
          rw [← hrb] at HR9 ⊢
          clear hb8 H5 HRB HBE HBJ f0 f1 f2 f3 f4 hrb
          go_wp2
          go_loopg [12, 75] tn (fun gi _ i3 wi => ∃ q : Nat, q ≤ tn ∧ i3 = .int .i64 q ∧ tn - q ≤ gi ∧ Hid (Below w8.heap.size w8 wi))
          case atStart => exact ⟨0, Nat.zero_le _, rfl, by omega, Below.refl _ _⟩
          case round =>
            obtain ⟨q, hq, rfl, hgq, HBQ⟩ := hrel
            by_cases hql : q < tn
            · obtain ⟨z, hz⟩ : ∃ z, A1[q]? = some z := ⟨_, List.getElem?_eq_getElem (by rw [← HTN.out]; exact hql)⟩
              have hrq := (HR7.out.keep HB9.out).keep HBQ.out
              obtain ⟨g7, off7, rfl⟩ := hrq.form (by rw [← HTN.out]; omega)
              obtain ⟨f0, f1, f2⟩ := cells3 hrq hz
              have HKZ := Lib.hid (HKN.out q z hz)
              obtain ⟨z0, z1, z2⟩ := z
              simp only at f0 f1 f2
              have hqz : (0 : Int) ≤ (q : Int) := by omega
              have hqn : (q : Int) < (tn : Int) := by omega
              have hrbl := (HR9.out.since HBQ.out)
              have m0 : ∀ o, (wr.alloc o).cell? ⟨rb, 0, none⟩ = some (.string (st y0)) := fun o => (hrbl.alloc o).cell 0
              have m4 : ∀ o, (wr.alloc o).cell? ⟨rb, 4, none⟩ = some (.bool y4) := fun o => (hrbl.alloc o).cell 4
              have HBo : Hid (∀ o : Obj, Below w8.heap.size w8 (wr.alloc o)) := fun o => HBQ.out.alloc HBQ.out.size o
              clear hz hrq hrbl
              by_cases hzy : z0 = y0
              · subst hzy
                have HE : Hid (z1 = knR (z0, y1, y2, y3, y4)) := by
                  show _ = _
                  have h := HKZ.out
                  simp only at h
                  rw [h]
                  exact HKD.out
                cases y4 with
                | true =>
                  have p1 : ((st z1).toList == [97, 99, 99, 101, 112, 116, 101, 100]) = true := txt_t HE.out
                  go_wp2
                  go_roundg (tn - (q + 1))
                  case measure => omega
                  case rel => exact ⟨q + 1, by omega, by go_num, by omega, HBo.out _⟩
                | false =>
                  have p1 : ((st z1).toList == [97, 99, 99, 101, 112, 116, 101, 100]) = false := txt_f (by rw [HE.out]; show kDec ≠ kAcc; decide)
                  go_wp2
                  go_roundg (tn - (q + 1))
                  case measure => omega
                  case rel => exact ⟨q + 1, by omega, by go_num, by omega, HBo.out _⟩
              · have p1 := st_neb hzy
                clear hzy
                go_wp2
                go_roundg (tn - (q + 1))
                case measure => omega
                case rel => exact ⟨q + 1, by omega, by go_num, by omega, HBo.out _⟩
            · have e : tn = q := by omega
              have HBJ2 : Hid (Below wz.heap.size wz wr) := HB9.out.trans (bel_lessG HBQ.out HB9.out.size)
              clear HBQ HR9 HKD HB9 hgq
              go_wp2
              go_roundg (ln - (j + 1))
              case measure => omega
              case rel => exact ⟨j + 1, by omega, by go_num, by omega, HBJ2.out⟩
        · have e : j = ln := by omega
          have HSF := Lib.hid (HS7.out.keep HBJ.out)
          have HQ1L : Hid (Q1.length ≤ k + 1) := hq1
          have HL1L : Hid (L1.length ≤ k + 1) := by show _ ≤ _; rw [← HLN.out]; omega
          go_wp2
          go_roundg (n - (k + 1))
          case measure => omega
          case rel => exact ⟨k + 1, L1, Q1, p1, p2, by omega, by go_num, by omega, HL1L.out, HQ1L.out, HO1.out, HSF.out⟩
    · have HZ : Hid (Below w.heap.size w wr) := HS.out.below
      clear HS
      go_wp2
      go_ret
      exact ⟨rfl, HZ.out⟩

theorem once_walk (a : Option Addr) (cp n : Nat) (xs : List Ga) (w : World) (hl : xs.length = n) (hr : RowG 9 cGa w a xs) (hok : ∀ x ∈ xs, OkGa x) :
    Calls Try.prog 4 #[.slice a n cp] w fun e w' => e = .returned (.bool true) ∧ Below w.heap.size w w' := by
  subst hl
  by_cases h : xs.length ≤ 100
  · exact once_few a cp xs w hr hok h
  · exact once_many a _ cp w (by omega)
end Go.Proofs.Ytkhkcpoadccflaa
