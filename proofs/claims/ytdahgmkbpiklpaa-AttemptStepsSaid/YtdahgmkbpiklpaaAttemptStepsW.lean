/-
  The walk of souklaw17.AttemptSteps.
-/
import Derived.Test.YtdahgmkbpiklpaaAtL
import Derived.Test.YtdahgmkbpiklpaaAtS
import Derived.Laws.StructEq
import Derived.BigRegion
namespace Go.Proofs.Ytdahgmkbpiklpaa
open Go.RowKit Go.Deep Go.Lib

theorem bel_go {B : Nat} {w wr w1 : World} (e : B = w.heap.size) (h : Below B w wr) (hb : Below wr.heap.size wr w1) : Below B w w1 := bel_onG h (by rw [e]; exact h.size) hb
theorem bel_new {B : Nat} {w wr : World} (e : B = w.heap.size) (h : Below B w wr) (o : Obj) : Below B w (wr.alloc o) := h.alloc (by rw [e]; exact h.size) o

set_option maxHeartbeats 3200000 in
theorem steps_wide (k q c : List UInt8) (m : Int) (s : List UInt8) (n t a : Int) (d : List UInt8) (n0 n1 : Int) (w : World) (hs : (smB n && (smB t && (smB a && (smB n0 && smB n1)))) = false) :
    Calls Try.prog 3 #[.agg #[.string (st k), .string (st q), .string (st c), .int .i64 m, .string (st s), .int .i64 n, .int .i64 t, .int .i64 a], .string (st d), .agg #[.int .i64 n0, .int .i64 n1]] w fun e w' => e = .returned (.bool true) ∧ Below w.heap.size w w' := by
  have HL := Lib.hid lives17_any
  have hb0 : Below w.heap.size w (w.alloc (.cells #[.string (st k), .string (st q), .string (st c), .int .i64 m, .string (st s), .int .i64 n, .int .i64 t, .int .i64 a] 23)) := (Below.refl _ w).alloc (Nat.le_refl _) _
  have HB0 := Lib.hid (hb0.alloc hb0.size (.cells #[.int .i64 n0, .int .i64 n1] 24))
  have HP0 : Hid (Blk ((w.alloc (.cells #[.string (st k), .string (st q), .string (st c), .int .i64 m, .string (st s), .int .i64 n, .int .i64 t, .int .i64 a] 23)).alloc (.cells #[.int .i64 n0, .int .i64 n1] 24)) w.heap.size 23 #[.string (st k), .string (st q), .string (st c), .int .i64 m, .string (st s), .int .i64 n, .int .i64 t, .int .i64 a]) := (Blk.new w _ _).alloc _
  have HA0 : Hid (Blk ((w.alloc (.cells #[.string (st k), .string (st q), .string (st c), .int .i64 m, .string (st s), .int .i64 n, .int .i64 t, .int .i64 a] 23)).alloc (.cells #[.int .i64 n0, .int .i64 n1] 24)) (w.heap.size + 1) 24 #[.int .i64 n0, .int .i64 n1]) := blk_two _ _ _ _
  have HSM : Hid (∀ W g, Blk W g 2 #[.int .i64 n, .int .i64 t, .int .i64 a, .int .i64 n0, .int .i64 n1] → Calls Try.prog 7 #[.slice (some ⟨g, 0, none⟩) 5 5] W fun e w' => e = .returned (.bool false) ∧ W = w') := fun W g h => hs ▸ small_five g n t a n0 n1 _ W h
  clear hb0 hs
  go_enter Try.func3, Try.ntmps3
  go_wp2_with fail
  refine (HL.out _).mono ?_
  rintro e w1 ⟨rfl, hb⟩
  obtain ⟨ab, hab⟩ : ∃ ab, ab = w.heap.size + 1 := ⟨_, rfl⟩
  rw [← hab] at HA0 ⊢
  obtain ⟨pb, hpb⟩ : ∃ pb, pb = w.heap.size := ⟨_, rfl⟩
  have HPB := Lib.hid hpb
  rw [← hpb] at HP0 HB0 ⊢
  clear hab hpb
  have HB1 := Lib.hid (bel_go HPB.out HB0.out hb)
  have HP1 := Lib.hid (HP0.out.since hb)
  have HA1 := Lib.hid (HA0.out.since hb)
  have l1 := HP1.out.lt
  have l2 := HA1.out.lt
  obtain ⟨c0, c1, c2, c3, c4, c5, c6, c7⟩ := HP1.out.cells8
  obtain ⟨a0, a1⟩ := HA1.out.cells2
  clear hb HP0 HA0 HB0
  go_wp2_with fail
  refine (HSM.out _ _ (Blk.new _ _ _)).mono ?_
  rintro e w2 ⟨rfl, rfl⟩
  have HB2 := Lib.hid (bel_new HPB.out HB1.out (.cells #[.int .i64 n, .int .i64 t, .int .i64 a, .int .i64 n0, .int .i64 n1] 2))
  go_wp2_with fail
  refine (HL.out _).mono ?_
  rintro e w3 ⟨rfl, hb⟩
  have HB3 := Lib.hid (bel_go HPB.out HB2.out hb)
  clear hb
  go_wp2
  go_ret
  exact ⟨rfl, by rw [← HPB.out]; exact HB3.out⟩

set_option maxHeartbeats 3200000 in
theorem steps_long (k q c : List UInt8) (m : Int) (s : List UInt8) (n t a : Int) (d : List UInt8) (n0 n1 : Int) (w : World) (hs : (smB n && (smB t && (smB a && (smB n0 && smB n1)))) = true) (hd : 100 < d.length) :
    Calls Try.prog 3 #[.agg #[.string (st k), .string (st q), .string (st c), .int .i64 m, .string (st s), .int .i64 n, .int .i64 t, .int .i64 a], .string (st d), .agg #[.int .i64 n0, .int .i64 n1]] w fun e w' => e = .returned (.bool true) ∧ Below w.heap.size w w' := by
  have hsz := st_size d
  obtain ⟨ln, hln⟩ : ∃ ln, ln = d.length := ⟨_, rfl⟩
  rw [← hln] at hsz hd
  have g1 : (100 : Int) < (ln : Int) := by omega
  have HL := Lib.hid lives17_any
  have hb0 : Below w.heap.size w (w.alloc (.cells #[.string (st k), .string (st q), .string (st c), .int .i64 m, .string (st s), .int .i64 n, .int .i64 t, .int .i64 a] 23)) := (Below.refl _ w).alloc (Nat.le_refl _) _
  have HB0 := Lib.hid (hb0.alloc hb0.size (.cells #[.int .i64 n0, .int .i64 n1] 24))
  have HP0 : Hid (Blk ((w.alloc (.cells #[.string (st k), .string (st q), .string (st c), .int .i64 m, .string (st s), .int .i64 n, .int .i64 t, .int .i64 a] 23)).alloc (.cells #[.int .i64 n0, .int .i64 n1] 24)) w.heap.size 23 #[.string (st k), .string (st q), .string (st c), .int .i64 m, .string (st s), .int .i64 n, .int .i64 t, .int .i64 a]) := (Blk.new w _ _).alloc _
  have HA0 : Hid (Blk ((w.alloc (.cells #[.string (st k), .string (st q), .string (st c), .int .i64 m, .string (st s), .int .i64 n, .int .i64 t, .int .i64 a] 23)).alloc (.cells #[.int .i64 n0, .int .i64 n1] 24)) (w.heap.size + 1) 24 #[.int .i64 n0, .int .i64 n1]) := blk_two _ _ _ _
  have HSM : Hid (∀ W g, Blk W g 2 #[.int .i64 n, .int .i64 t, .int .i64 a, .int .i64 n0, .int .i64 n1] → Calls Try.prog 7 #[.slice (some ⟨g, 0, none⟩) 5 5] W fun e w' => e = .returned (.bool true) ∧ W = w') := fun W g h => hs ▸ small_five g n t a n0 n1 _ W h
  clear hb0 hs hln hd
  go_enter Try.func3, Try.ntmps3
  go_wp2_with fail
  refine (HL.out _).mono ?_
  rintro e w1 ⟨rfl, hb⟩
  obtain ⟨ab, hab⟩ : ∃ ab, ab = w.heap.size + 1 := ⟨_, rfl⟩
  rw [← hab] at HA0 ⊢
  obtain ⟨pb, hpb⟩ : ∃ pb, pb = w.heap.size := ⟨_, rfl⟩
  have HPB := Lib.hid hpb
  rw [← hpb] at HP0 HB0 ⊢
  clear hab hpb
  have HB1 := Lib.hid (bel_go HPB.out HB0.out hb)
  have HP1 := Lib.hid (HP0.out.since hb)
  have HA1 := Lib.hid (HA0.out.since hb)
  have l1 := HP1.out.lt
  have l2 := HA1.out.lt
  obtain ⟨c0, c1, c2, c3, c4, c5, c6, c7⟩ := HP1.out.cells8
  obtain ⟨a0, a1⟩ := HA1.out.cells2
  clear hb HP0 HA0 HB0
  go_wp2_with fail
  refine (HSM.out _ _ (Blk.new _ _ _)).mono ?_
  rintro e w2 ⟨rfl, rfl⟩
  have HB2 := Lib.hid (bel_new HPB.out HB1.out (.cells #[.int .i64 n, .int .i64 t, .int .i64 a, .int .i64 n0, .int .i64 n1] 2))
  go_wp2_with fail
  refine (HL.out _).mono ?_
  rintro e w3 ⟨rfl, hb⟩
  have HB3 := Lib.hid (bel_go HPB.out HB2.out hb)
  clear hb
  go_wp2
  go_ret
  exact ⟨rfl, by rw [← HPB.out]; exact HB3.out⟩

set_option maxHeartbeats 12800000 in
set_option maxRecDepth 100000 in
theorem steps_core (k q c : List UInt8) (m : Int) (s : List UInt8) (n t a : Int) (d : List UInt8) (n0 n1 : Int) (w : World) (k2 q2 e2 : List UInt8) (m2 : Int) (s2 : List UInt8) (x2 t2 y2 : Int) (r0 r1 r2 r3 : List UInt8) (r4 r5 : Int) (B : Bool) (k3 q3 e3 : List UInt8) (m3 : Int) (s3 : List UInt8) (x3 t3 y3 : Int) (C : Bool)
    (hs : (smB n && (smB t && (smB a && (smB n0 && smB n1)))) = true) (hd : d.length ≤ 100)
    (S1 : Hid (∀ W, Calls Try.prog 8 #[.agg #[.string (st k), .string (st q), .string (st c), .int .i64 m, .string (st s), .int .i64 n, .int .i64 t, .int .i64 a], .int .i64 n0] W fun e w' => e = .returned (.tuple #[.agg #[.string (st k2), .string (st q2), .string (st e2), .int .i64 m2, .string (st s2), .int .i64 x2, .int .i64 t2, .int .i64 y2], .agg #[.string (st r0), .string (st r1), .string (st r2), .string (st r3), .int .i64 r4, .int .i64 r5], .bool B]) ∧ Below W.heap.size W w'))
    (S2 : Hid (∀ W, Calls Try.prog 9 #[.agg #[.string (st k), .string (st q), .string (st c), .int .i64 m, .string (st s), .int .i64 n, .int .i64 t, .int .i64 a], .int .i64 n0] W fun e w' => e = .returned (.tuple #[.agg #[.string (st k2), .string (st q2), .string (st e2), .int .i64 m2, .string (st s2), .int .i64 x2, .int .i64 t2, .int .i64 y2], .agg #[.string (st r0), .string (st r1), .string (st r2), .string (st r3), .int .i64 r4, .int .i64 r5], .bool B]) ∧ Below W.heap.size W w'))
    (H1 : Hid (∀ W, Calls Try.prog 10 #[.agg #[.string (st k), .string (st q), .string (st c), .int .i64 m, .string (st s), .int .i64 n, .int .i64 t, .int .i64 a], .string (st d), .int .i64 n1, .int .i64 n0] W fun e w' => e = .returned (.tuple #[.agg #[.string (st k3), .string (st q3), .string (st e3), .int .i64 m3, .string (st s3), .int .i64 x3, .int .i64 t3, .int .i64 y3], .bool C]) ∧ Below W.heap.size W w'))
    (H2 : Hid (∀ W, Calls Try.prog 11 #[.agg #[.string (st k), .string (st q), .string (st c), .int .i64 m, .string (st s), .int .i64 n, .int .i64 t, .int .i64 a], .string (st d), .int .i64 n1, .int .i64 n0] W fun e w' => e = .returned (.tuple #[.agg #[.string (st k3), .string (st q3), .string (st e3), .int .i64 m3, .string (st s3), .int .i64 x3, .int .i64 t3, .int .i64 y3], .bool C]) ∧ Below W.heap.size W w')) :
    Calls Try.prog 3 #[.agg #[.string (st k), .string (st q), .string (st c), .int .i64 m, .string (st s), .int .i64 n, .int .i64 t, .int .i64 a], .string (st d), .agg #[.int .i64 n0, .int .i64 n1]] w fun e w' => e = .returned (.bool true) ∧ Below w.heap.size w w' := by
  have hsz := st_size d
  obtain ⟨ln, hln⟩ : ∃ ln, ln = d.length := ⟨_, rfl⟩
  rw [← hln] at hsz hd
  have g1 : ¬ (100 : Int) < (ln : Int) := by omega
  have HL := Lib.hid lives17_any
  have hb0 : Below w.heap.size w (w.alloc (.cells #[.string (st k), .string (st q), .string (st c), .int .i64 m, .string (st s), .int .i64 n, .int .i64 t, .int .i64 a] 23)) := (Below.refl _ w).alloc (Nat.le_refl _) _
  have HB0 := Lib.hid (hb0.alloc hb0.size (.cells #[.int .i64 n0, .int .i64 n1] 24))
  have HP0 : Hid (Blk ((w.alloc (.cells #[.string (st k), .string (st q), .string (st c), .int .i64 m, .string (st s), .int .i64 n, .int .i64 t, .int .i64 a] 23)).alloc (.cells #[.int .i64 n0, .int .i64 n1] 24)) w.heap.size 23 #[.string (st k), .string (st q), .string (st c), .int .i64 m, .string (st s), .int .i64 n, .int .i64 t, .int .i64 a]) := (Blk.new w _ _).alloc _
  have HA0 : Hid (Blk ((w.alloc (.cells #[.string (st k), .string (st q), .string (st c), .int .i64 m, .string (st s), .int .i64 n, .int .i64 t, .int .i64 a] 23)).alloc (.cells #[.int .i64 n0, .int .i64 n1] 24)) (w.heap.size + 1) 24 #[.int .i64 n0, .int .i64 n1]) := blk_two _ _ _ _
  have HSM : Hid (∀ W g, Blk W g 2 #[.int .i64 n, .int .i64 t, .int .i64 a, .int .i64 n0, .int .i64 n1] → Calls Try.prog 7 #[.slice (some ⟨g, 0, none⟩) 5 5] W fun e w' => e = .returned (.bool true) ∧ W = w') := fun W g h => hs ▸ small_five g n t a n0 n1 _ W h
  clear hb0 hs hln hd
  go_enter Try.func3, Try.ntmps3
  go_wp2_with fail
  refine (HL.out _).mono ?_
  rintro e w1 ⟨rfl, hb⟩
  obtain ⟨ab, hab⟩ : ∃ ab, ab = w.heap.size + 1 := ⟨_, rfl⟩
  rw [← hab] at HA0 ⊢
  obtain ⟨pb, hpb⟩ : ∃ pb, pb = w.heap.size := ⟨_, rfl⟩
  have HPB := Lib.hid hpb
  rw [← hpb] at HP0 HB0 ⊢
  clear hab hpb
  have HB1 := Lib.hid (bel_go HPB.out HB0.out hb)
  have HP1 := Lib.hid (HP0.out.since hb)
  have HA1 := Lib.hid (HA0.out.since hb)
  have l1 := HP1.out.lt
  have l2 := HA1.out.lt
  obtain ⟨c0, c1, c2, c3, c4, c5, c6, c7⟩ := HP1.out.cells8
  obtain ⟨a0, a1⟩ := HA1.out.cells2
  clear hb HP0 HA0 HB0
  go_wp2_with fail
  refine (HSM.out _ _ (Blk.new _ _ _)).mono ?_
  rintro e w2 ⟨rfl, rfl⟩
  have HB2 := Lib.hid (bel_new HPB.out HB1.out (.cells #[.int .i64 n, .int .i64 t, .int .i64 a, .int .i64 n0, .int .i64 n1] 2))
  have HP2 := Lib.hid (HP1.out.alloc (.cells #[.int .i64 n, .int .i64 t, .int .i64 a, .int .i64 n0, .int .i64 n1] 2))
  have HA2 := Lib.hid (HA1.out.alloc (.cells #[.int .i64 n, .int .i64 t, .int .i64 a, .int .i64 n0, .int .i64 n1] 2))
  go_wp2_with fail
  refine (S1.out _).mono ?_
  rintro e w3 ⟨rfl, hb⟩
  have HM3 := Lib.hid ((blk_two w1 (.cells #[.int .i64 n, .int .i64 t, .int .i64 a, .int .i64 n0, .int .i64 n1] 2) 27 #[.string (st k), .string (st q), .string (st c), .int .i64 m, .string (st s), .int .i64 n, .int .i64 t, .int .i64 a]).since hb)
  have HP3 := Lib.hid ((HP2.out.alloc _).since hb)
  have HA3 := Lib.hid ((HA2.out.alloc _).since hb)
  have HB3 := Lib.hid (bel_go HPB.out (bel_new HPB.out HB2.out _) hb)
  obtain ⟨mb, hmb⟩ : ∃ mb, mb = w1.heap.size + 1 := ⟨_, rfl⟩
  rw [← hmb] at HM3 ⊢
  clear hb hmb c0 c1 c2 c3 c4 c5 c6 c7 a0 a1 l1 l2 HP2 HA2 HB2 HP1 HA1 HB1 S1 HSM HL
  obtain ⟨c0, c1, c2, c3, c4, c5, c6, c7⟩ := HM3.out.cells8
  obtain ⟨a0, a1⟩ := HA3.out.cells2
  have l1 := HM3.out.lt
  have l2 := HA3.out.lt
  go_wp2_with fail
  refine (S2.out _).mono ?_
  rintro e w4 ⟨rfl, hb⟩
  have HX4 := Lib.hid (((Blk.new w3 23 #[.string (st k2), .string (st q2), .string (st e2), .int .i64 m2, .string (st s2), .int .i64 x2, .int .i64 t2, .int .i64 y2]).alloc (.cells #[.string (st r0), .string (st r1), .string (st r2), .string (st r3), .int .i64 r4, .int .i64 r5] 29)).since hb)
  have HY4 := Lib.hid ((blk_two w3 (.cells #[.string (st k2), .string (st q2), .string (st e2), .int .i64 m2, .string (st s2), .int .i64 x2, .int .i64 t2, .int .i64 y2] 23) 29 #[.string (st r0), .string (st r1), .string (st r2), .string (st r3), .int .i64 r4, .int .i64 r5]).since hb)
  have HM4 := Lib.hid (((HM3.out.alloc _).alloc _).since hb)
  have HP4 := Lib.hid (((HP3.out.alloc _).alloc _).since hb)
  have HA4 := Lib.hid (((HA3.out.alloc _).alloc _).since hb)
  have HB4 := Lib.hid (bel_go HPB.out (bel_new HPB.out (bel_new HPB.out HB3.out _) _) hb)
  obtain ⟨yb, hyb⟩ : ∃ yb, yb = w3.heap.size + 1 := ⟨_, rfl⟩
  rw [← hyb] at HY4 ⊢
  clear hb hyb c0 c1 c2 c3 c4 c5 c6 c7 a0 a1 l1 l2 HM3 HP3 HA3 HB3 S2
  obtain ⟨c0, c1, c2, c3, c4, c5, c6, c7⟩ := HX4.out.cells8
  obtain ⟨d0, d1, d2, d3, d4, d5⟩ := HY4.out.cells6
  obtain ⟨f0, f1, f2, f3, f4, f5, f6, f7⟩ := HP4.out.cells8
  obtain ⟨a0, a1⟩ := HA4.out.cells2
  have l1 := HX4.out.lt
  have l2 := HY4.out.lt
  have l3 := HP4.out.lt
  have l4 := HA4.out.lt
  go_wp2_with fail
  refine (H1.out _).mono ?_
  rintro e w5 ⟨rfl, hb⟩
  have HM5 := Lib.hid (((HM4.out.alloc (.cells #[.string (st k2), .string (st q2), .string (st e2), .int .i64 m2, .string (st s2), .int .i64 x2, .int .i64 t2, .int .i64 y2] 27)).alloc (.cells #[.string (st r0), .string (st r1), .string (st r2), .string (st r3), .int .i64 r4, .int .i64 r5] 29)).since hb)
  have HP5 := Lib.hid (((HP4.out.alloc (.cells #[.string (st k2), .string (st q2), .string (st e2), .int .i64 m2, .string (st s2), .int .i64 x2, .int .i64 t2, .int .i64 y2] 27)).alloc (.cells #[.string (st r0), .string (st r1), .string (st r2), .string (st r3), .int .i64 r4, .int .i64 r5] 29)).since hb)
  have HA5 := Lib.hid (((HA4.out.alloc (.cells #[.string (st k2), .string (st q2), .string (st e2), .int .i64 m2, .string (st s2), .int .i64 x2, .int .i64 t2, .int .i64 y2] 27)).alloc (.cells #[.string (st r0), .string (st r1), .string (st r2), .string (st r3), .int .i64 r4, .int .i64 r5] 29)).since hb)
  have HB5 := Lib.hid (bel_go HPB.out (bel_new HPB.out (bel_new HPB.out HB4.out (.cells #[.string (st k2), .string (st q2), .string (st e2), .int .i64 m2, .string (st s2), .int .i64 x2, .int .i64 t2, .int .i64 y2] 27)) (.cells #[.string (st r0), .string (st r1), .string (st r2), .string (st r3), .int .i64 r4, .int .i64 r5] 29)) hb)
  clear hb c0 c1 c2 c3 c4 c5 c6 c7 d0 d1 d2 d3 d4 d5 f0 f1 f2 f3 f4 f5 f6 f7 a0 a1 l1 l2 l3 l4 HX4 HY4 HM4 HP4 HA4 HB4 H1
  obtain ⟨c0, c1, c2, c3, c4, c5, c6, c7⟩ := HM5.out.cells8
  obtain ⟨a0, a1⟩ := HA5.out.cells2
  have l1 := HM5.out.lt
  have l2 := HA5.out.lt
  go_wp2_with fail
  refine (H2.out _).mono ?_
  rintro e w6 ⟨rfl, hb⟩
  have HV6 := Lib.hid ((Blk.new w5 23 #[.string (st k3), .string (st q3), .string (st e3), .int .i64 m3, .string (st s3), .int .i64 x3, .int .i64 t3, .int .i64 y3]).since hb)
  have HM6 := Lib.hid ((HM5.out.alloc _).since hb)
  have HP6 := Lib.hid ((HP5.out.alloc _).since hb)
  have HB6 := Lib.hid (bel_go HPB.out (bel_new HPB.out HB5.out _) hb)
  clear hb c0 c1 c2 c3 c4 c5 c6 c7 a0 a1 l1 l2 HM5 HP5 HA5 HB5 H2
  obtain ⟨c0, c1, c2, c3, c4, c5, c6, c7⟩ := HV6.out.cells8
  obtain ⟨d0, d1, d2, d3, d4, d5, d6, d7⟩ := HM6.out.cells8
  obtain ⟨f0, f1, f2, f3, f4, f5, f6, f7⟩ := HP6.out.cells8
  have l1 := HV6.out.lt
  have l2 := HM6.out.lt
  have l3 := HP6.out.lt
  have HO : Hid (∀ W, Calls Try.prog 12 #[.agg #[.string (st k), .string (st q), .string (st c), .int .i64 m, .string (st s), .int .i64 n, .int .i64 t, .int .i64 a]] W fun e w' => e = .returned (.bool (overB s)) ∧ w' = W.alloc (.cells #[.string (st k), .string (st q), .string (st c), .int .i64 m, .string (st s), .int .i64 n, .int .i64 t, .int .i64 a] 23)) := fun W => over_any k q c m s n t a W
  have HRO : Hid (∀ W, Calls Try.prog 13 #[.agg #[.string (st k), .string (st q), .string (st c), .int .i64 m, .string (st s), .int .i64 n, .int .i64 t, .int .i64 a]] W fun e w' => e = .returned (.bool (overB s)) ∧ w' = W.alloc (.cells #[.string (st k), .string (st q), .string (st c), .int .i64 m, .string (st s), .int .i64 n, .int .i64 t, .int .i64 a] 27)) := fun W => rover_any k q c m s n t a W
  go_wp2_with fail
  generalize overB s = OB at HO HRO
  go_region_with (first | (go_at_call 12; refine (HO.out _).mono ?_; rintro e w' ⟨rfl, rfl⟩) | (go_at_call 13; refine (HRO.out _).mono ?_; rintro e w' ⟨rfl, rfl⟩) | fail)
  all_goals (go_wp2; go_ret; exact ⟨rfl, by rw [← HPB.out]; exact below_drew (bel_new HPB.out (bel_new HPB.out (bel_new HPB.out HB6.out _) _) _)⟩)

/-- ALL WAYS -/
theorem steps_walk (p : Py) (d : List UInt8) (n0 n1 : Int) (w : World) :
    Calls Try.prog 3 #[.agg (cPy p).toArray, .string (st d), .agg #[.int .i64 n0, .int .i64 n1]] w fun e w' => e = .returned (.bool true) ∧ Below w.heap.size w w' := by
  obtain ⟨k, q, c, m, s, n, t, a⟩ := p
  cases hs : (smB n && (smB t && (smB a && (smB n0 && smB n1)))) with
  | false => exact steps_wide k q c m s n t a d n0 n1 w hs
  | true =>
    by_cases hd : d.length ≤ 100
    · have hs' := hs
      rw [Bool.and_eq_true, Bool.and_eq_true, Bool.and_eq_true, Bool.and_eq_true] at hs'
      obtain ⟨h1, h2, h3, h4, h5⟩ := hs'
      have ht := smB_sm h2
      have ha := smB_sm h3
      have hw := smB_sm h4
      obtain ⟨P2, hP2⟩ : ∃ P2, P2 = stepP ⟨k, q, c, m, s, n, t, a⟩ n0 := ⟨_, rfl⟩
      obtain ⟨R2, hR2⟩ : ∃ R2, R2 = stepR ⟨k, q, c, m, s, n, t, a⟩ n0 := ⟨_, rfl⟩
      obtain ⟨P3, hP3⟩ : ∃ P3, P3 = hearP ⟨k, q, c, m, s, n, t, a⟩ d n1 n0 := ⟨_, rfl⟩
      have S1 := fun W => step_any ⟨k, q, c, m, s, n, t, a⟩ n0 W hw ha ht
      have S2 := fun W => rstep_any ⟨k, q, c, m, s, n, t, a⟩ n0 W hw ha ht
      have H1 := fun W => hear_any ⟨k, q, c, m, s, n, t, a⟩ d n1 n0 W hw ht
      have H2 := fun W => rhear_any ⟨k, q, c, m, s, n, t, a⟩ d n1 n0 W hw ht
      rw [← hP2, ← hR2] at S1 S2
      rw [← hP3] at H1 H2
      clear hP2 hR2 hP3
      obtain ⟨k2, q2, e2, m2, s2, x2, t2, y2⟩ := P2
      obtain ⟨r0, r1, r2, r3, r4, r5⟩ := R2
      obtain ⟨k3, q3, e3, m3, s3, x3, t3, y3⟩ := P3
      exact steps_core k q c m s n t a d n0 n1 w k2 q2 e2 m2 s2 x2 t2 y2 r0 r1 r2 r3 r4 r5 _ k3 q3 e3 m3 s3 x3 t3 y3 _ hs hd S1 S2 H1 H2
    · exact steps_long k q c m s n t a d n0 n1 w hs (by omega)
end Go.Proofs.Ytdahgmkbpiklpaa
