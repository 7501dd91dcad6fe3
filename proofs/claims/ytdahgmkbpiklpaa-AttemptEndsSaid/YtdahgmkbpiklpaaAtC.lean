/-
  Contracts of attempt's behind, Hear.
-/
import Derived.Test.YtdahgmkbpiklpaaAtB
import Derived.BigRegion
import Derived.Laws.StructEq
namespace Go.Proofs.Ytdahgmkbpiklpaa
open Go.RowKit Go.Deep Go.Lib

set_option maxHeartbeats 1600000 in
theorem behind_over (k q c : List UInt8) (m : Int) (s : List UInt8) (n t a : Int) (d : List UInt8) (b now : Int) (w : World) (h : overB s = true) :
    Calls Try.prog 21 #[.agg #[.string (st k), .string (st q), .string (st c), .int .i64 m, .string (st s), .int .i64 n, .int .i64 t, .int .i64 a], .string (st d), .int .i64 b, .int .i64 now] w fun e w' => e = .returned (.agg #[.string (st k), .string (st q), .string (st c), .int .i64 m, .string (st s), .int .i64 n, .int .i64 t, .int .i64 a]) ∧ w' = ((w.alloc (.cells #[.string (st k), .string (st q), .string (st c), .int .i64 m, .string (st s), .int .i64 n, .int .i64 t, .int .i64 a] 23)).alloc (.cells #[.string (st k), .string (st q), .string (st c), .int .i64 m, .string (st s), .int .i64 n, .int .i64 t, .int .i64 a] 23)).alloc (.cells #[.string (st k), .string (st q), .string (st c), .int .i64 m, .string (st s), .int .i64 n, .int .i64 t, .int .i64 a] 23) := by
  have HO : Hid (∀ W, Calls Try.prog 12 #[.agg #[.string (st k), .string (st q), .string (st c), .int .i64 m, .string (st s), .int .i64 n, .int .i64 t, .int .i64 a]] W fun e w' => e = .returned (.bool true) ∧ w' = W.alloc (.cells #[.string (st k), .string (st q), .string (st c), .int .i64 m, .string (st s), .int .i64 n, .int .i64 t, .int .i64 a] 23)) := fun W => h ▸ over_any k q c m s n t a W
  clear h
  go_enter Try.func21, Try.ntmps21
  go_wp2_with fail
  refine (HO.out _).mono ?_
  rintro e w' ⟨rfl, rfl⟩
  go_wp2
  refine bodyPost_ret (results_cell_row rfl _ _ _ _ _ (0, 0) _ rfl ((blk_two _ _ _ _).alloc _) Try.underlying23 rfl infoPy) rfl ⟨rfl, rfl⟩

set_option maxHeartbeats 1600000 in
theorem behind_acc (k q c : List UInt8) (m : Int) (s : List UInt8) (n t a : Int) (d : List UInt8) (b now : Int) (w : World) (h : overB s = false) (hd : d = kAcc) :
    Calls Try.prog 21 #[.agg #[.string (st k), .string (st q), .string (st c), .int .i64 m, .string (st s), .int .i64 n, .int .i64 t, .int .i64 a], .string (st d), .int .i64 b, .int .i64 now] w fun e w' => e = .returned (.agg #[.string (st k), .string (st q), .string (st c), .int .i64 m, .string (st kPaid), .int .i64 n, .int .i64 t, .int .i64 a]) ∧ w' = ((w.alloc (.cells #[.string (st k), .string (st q), .string (st c), .int .i64 m, .string (st kPaid), .int .i64 n, .int .i64 t, .int .i64 a] 23)).alloc (.cells #[.string (st k), .string (st q), .string (st c), .int .i64 m, .string (st kPaid), .int .i64 n, .int .i64 t, .int .i64 a] 23)).alloc (.cells #[.string (st k), .string (st q), .string (st c), .int .i64 m, .string (st s), .int .i64 n, .int .i64 t, .int .i64 a] 23) := by
  have HO : Hid (∀ W, Calls Try.prog 12 #[.agg #[.string (st k), .string (st q), .string (st c), .int .i64 m, .string (st s), .int .i64 n, .int .i64 t, .int .i64 a]] W fun e w' => e = .returned (.bool false) ∧ w' = W.alloc (.cells #[.string (st k), .string (st q), .string (st c), .int .i64 m, .string (st s), .int .i64 n, .int .i64 t, .int .i64 a] 23)) := fun W => h ▸ over_any k q c m s n t a W
  have p1 : ((st d).toList == [97, 99, 99, 101, 112, 116, 101, 100]) = true := txt_t hd
  clear h hd
  go_enter Try.func21, Try.ntmps21
  go_wp2_with fail
  refine (HO.out _).mono ?_
  rintro e w' ⟨rfl, rfl⟩
  go_wp2
  refine bodyPost_ret (results_cell_row rfl _ _ _ _ _ (0, 0) _ rfl ((blk_two _ _ _ _).alloc _) Try.underlying23 rfl infoPy) rfl ⟨rfl, rfl⟩

set_option maxHeartbeats 1600000 in
theorem behind_dec (k q c : List UInt8) (m : Int) (s : List UInt8) (n t a : Int) (d : List UInt8) (b now : Int) (w : World) (h : overB s = false) (hd : d = kDec) :
    Calls Try.prog 21 #[.agg #[.string (st k), .string (st q), .string (st c), .int .i64 m, .string (st s), .int .i64 n, .int .i64 t, .int .i64 a], .string (st d), .int .i64 b, .int .i64 now] w fun e w' => e = .returned (.agg #[.string (st k), .string (st q), .string (st c), .int .i64 m, .string (st kBack), .int .i64 n, .int .i64 t, .int .i64 a]) ∧ w' = ((w.alloc (.cells #[.string (st k), .string (st q), .string (st c), .int .i64 m, .string (st kBack), .int .i64 n, .int .i64 t, .int .i64 a] 23)).alloc (.cells #[.string (st k), .string (st q), .string (st c), .int .i64 m, .string (st kBack), .int .i64 n, .int .i64 t, .int .i64 a] 23)).alloc (.cells #[.string (st k), .string (st q), .string (st c), .int .i64 m, .string (st s), .int .i64 n, .int .i64 t, .int .i64 a] 23) := by
  have HO : Hid (∀ W, Calls Try.prog 12 #[.agg #[.string (st k), .string (st q), .string (st c), .int .i64 m, .string (st s), .int .i64 n, .int .i64 t, .int .i64 a]] W fun e w' => e = .returned (.bool false) ∧ w' = W.alloc (.cells #[.string (st k), .string (st q), .string (st c), .int .i64 m, .string (st s), .int .i64 n, .int .i64 t, .int .i64 a] 23)) := fun W => h ▸ over_any k q c m s n t a W
  have p1 : ((st d).toList == [97, 99, 99, 101, 112, 116, 101, 100]) = false := txt_f (by rw [hd]; decide)
  have p2 : ((st d).toList == [100, 101, 99, 108, 105, 110, 101, 100]) = true := txt_t hd
  clear h hd
  go_enter Try.func21, Try.ntmps21
  go_wp2_with fail
  refine (HO.out _).mono ?_
  rintro e w' ⟨rfl, rfl⟩
  go_wp2
  refine bodyPost_ret (results_cell_row rfl _ _ _ _ _ (0, 0) _ rfl ((blk_two _ _ _ _).alloc _) Try.underlying23 rfl infoPy) rfl ⟨rfl, rfl⟩

set_option maxHeartbeats 1600000 in
theorem behind_kind (k q c : List UInt8) (m : Int) (s : List UInt8) (n t a : Int) (d : List UInt8) (b now : Int) (w : World) (h : overB s = false) (h1 : d ≠ kAcc) (h2 : d ≠ kDec) (h3 : d ≠ kUnk) :
    Calls Try.prog 21 #[.agg #[.string (st k), .string (st q), .string (st c), .int .i64 m, .string (st s), .int .i64 n, .int .i64 t, .int .i64 a], .string (st d), .int .i64 b, .int .i64 now] w fun e w' => e = .returned (.agg #[.string (st k), .string (st q), .string (st c), .int .i64 m, .string (st s), .int .i64 n, .int .i64 t, .int .i64 a]) ∧ w' = ((w.alloc (.cells #[.string (st k), .string (st q), .string (st c), .int .i64 m, .string (st s), .int .i64 n, .int .i64 t, .int .i64 a] 23)).alloc (.cells #[.string (st k), .string (st q), .string (st c), .int .i64 m, .string (st s), .int .i64 n, .int .i64 t, .int .i64 a] 23)).alloc (.cells #[.string (st k), .string (st q), .string (st c), .int .i64 m, .string (st s), .int .i64 n, .int .i64 t, .int .i64 a] 23) := by
  have HO : Hid (∀ W, Calls Try.prog 12 #[.agg #[.string (st k), .string (st q), .string (st c), .int .i64 m, .string (st s), .int .i64 n, .int .i64 t, .int .i64 a]] W fun e w' => e = .returned (.bool false) ∧ w' = W.alloc (.cells #[.string (st k), .string (st q), .string (st c), .int .i64 m, .string (st s), .int .i64 n, .int .i64 t, .int .i64 a] 23)) := fun W => h ▸ over_any k q c m s n t a W
  have p1 : ((st d).toList == [97, 99, 99, 101, 112, 116, 101, 100]) = false := txt_f h1
  have p2 : ((st d).toList == [100, 101, 99, 108, 105, 110, 101, 100]) = false := txt_f h2
  have p3 : ((st d).toList == [117, 110, 107, 110, 111, 119, 110]) = false := txt_f h3
  clear h h1 h2 h3
  go_enter Try.func21, Try.ntmps21
  go_wp2_with fail
  refine (HO.out _).mono ?_
  rintro e w' ⟨rfl, rfl⟩
  go_wp2
  refine bodyPost_ret (results_cell_row rfl _ _ _ _ _ (0, 0) _ rfl ((blk_two _ _ _ _).alloc _) Try.underlying23 rfl infoPy) rfl ⟨rfl, rfl⟩

set_option maxHeartbeats 1600000 in
theorem behind_state (k q c : List UInt8) (m : Int) (s : List UInt8) (n t a : Int) (d : List UInt8) (b now : Int) (w : World) (h : overB s = false) (hd : d = kUnk) (hs : s ≠ kQueried) :
    Calls Try.prog 21 #[.agg #[.string (st k), .string (st q), .string (st c), .int .i64 m, .string (st s), .int .i64 n, .int .i64 t, .int .i64 a], .string (st d), .int .i64 b, .int .i64 now] w fun e w' => e = .returned (.agg #[.string (st k), .string (st q), .string (st c), .int .i64 m, .string (st s), .int .i64 n, .int .i64 t, .int .i64 a]) ∧ w' = ((w.alloc (.cells #[.string (st k), .string (st q), .string (st c), .int .i64 m, .string (st s), .int .i64 n, .int .i64 t, .int .i64 a] 23)).alloc (.cells #[.string (st k), .string (st q), .string (st c), .int .i64 m, .string (st s), .int .i64 n, .int .i64 t, .int .i64 a] 23)).alloc (.cells #[.string (st k), .string (st q), .string (st c), .int .i64 m, .string (st s), .int .i64 n, .int .i64 t, .int .i64 a] 23) := by
  have HO : Hid (∀ W, Calls Try.prog 12 #[.agg #[.string (st k), .string (st q), .string (st c), .int .i64 m, .string (st s), .int .i64 n, .int .i64 t, .int .i64 a]] W fun e w' => e = .returned (.bool false) ∧ w' = W.alloc (.cells #[.string (st k), .string (st q), .string (st c), .int .i64 m, .string (st s), .int .i64 n, .int .i64 t, .int .i64 a] 23)) := fun W => h ▸ over_any k q c m s n t a W
  have p1 : ((st d).toList == [97, 99, 99, 101, 112, 116, 101, 100]) = false := txt_f (by rw [hd]; decide)
  have p2 : ((st d).toList == [100, 101, 99, 108, 105, 110, 101, 100]) = false := txt_f (by rw [hd]; decide)
  have p3 : ((st d).toList == [117, 110, 107, 110, 111, 119, 110]) = true := txt_t hd
  have p4 : ((st s).toList == [113, 117, 101, 114, 105, 101, 100]) = false := txt_f hs
  clear h hd hs
  go_enter Try.func21, Try.ntmps21
  go_wp2_with fail
  refine (HO.out _).mono ?_
  rintro e w' ⟨rfl, rfl⟩
  go_wp2
  refine bodyPost_ret (results_cell_row rfl _ _ _ _ _ (0, 0) _ rfl ((blk_two _ _ _ _).alloc _) Try.underlying23 rfl infoPy) rfl ⟨rfl, rfl⟩

set_option maxHeartbeats 1600000 in
theorem behind_att (k q c : List UInt8) (m : Int) (s : List UInt8) (n t a : Int) (d : List UInt8) (b now : Int) (w : World) (h : overB s = false) (hd : d = kUnk) (hs : s = kQueried) (hb : a ≠ b) :
    Calls Try.prog 21 #[.agg #[.string (st k), .string (st q), .string (st c), .int .i64 m, .string (st s), .int .i64 n, .int .i64 t, .int .i64 a], .string (st d), .int .i64 b, .int .i64 now] w fun e w' => e = .returned (.agg #[.string (st k), .string (st q), .string (st c), .int .i64 m, .string (st s), .int .i64 n, .int .i64 t, .int .i64 a]) ∧ w' = ((w.alloc (.cells #[.string (st k), .string (st q), .string (st c), .int .i64 m, .string (st s), .int .i64 n, .int .i64 t, .int .i64 a] 23)).alloc (.cells #[.string (st k), .string (st q), .string (st c), .int .i64 m, .string (st s), .int .i64 n, .int .i64 t, .int .i64 a] 23)).alloc (.cells #[.string (st k), .string (st q), .string (st c), .int .i64 m, .string (st s), .int .i64 n, .int .i64 t, .int .i64 a] 23) := by
  have HO : Hid (∀ W, Calls Try.prog 12 #[.agg #[.string (st k), .string (st q), .string (st c), .int .i64 m, .string (st s), .int .i64 n, .int .i64 t, .int .i64 a]] W fun e w' => e = .returned (.bool false) ∧ w' = W.alloc (.cells #[.string (st k), .string (st q), .string (st c), .int .i64 m, .string (st s), .int .i64 n, .int .i64 t, .int .i64 a] 23)) := fun W => h ▸ over_any k q c m s n t a W
  have p1 : ((st d).toList == [97, 99, 99, 101, 112, 116, 101, 100]) = false := txt_f (by rw [hd]; decide)
  have p2 : ((st d).toList == [100, 101, 99, 108, 105, 110, 101, 100]) = false := txt_f (by rw [hd]; decide)
  have p3 : ((st d).toList == [117, 110, 107, 110, 111, 119, 110]) = true := txt_t hd
  have p4 : ((st s).toList == [113, 117, 101, 114, 105, 101, 100]) = true := txt_t hs
  have p5 : (a == b) = false := by rw [beq_eq_false_iff_ne]; exact hb
  clear h hd hs hb
  go_enter Try.func21, Try.ntmps21
  go_wp2_with fail
  refine (HO.out _).mono ?_
  rintro e w' ⟨rfl, rfl⟩
  go_wp2
  refine bodyPost_ret (results_cell_row rfl _ _ _ _ _ (0, 0) _ rfl ((blk_two _ _ _ _).alloc _) Try.underlying23 rfl infoPy) rfl ⟨rfl, rfl⟩

set_option maxHeartbeats 1600000 in
theorem behind_redo (k q c : List UInt8) (m : Int) (s : List UInt8) (n t a : Int) (d : List UInt8) (b now : Int) (w : World) (h : overB s = false) (hd : d = kUnk) (hs : s = kQueried) (hb : a = b) (hw : Sm now) (ht : Sm t) :
    Calls Try.prog 21 #[.agg #[.string (st k), .string (st q), .string (st c), .int .i64 m, .string (st s), .int .i64 n, .int .i64 t, .int .i64 a], .string (st d), .int .i64 b, .int .i64 now] w fun e w' => e = .returned (.agg #[.string (st k), .string (st q), .string (st c), .int .i64 m, .string (st kReady), .int .i64 (now + bkoI t), .int .i64 (t + 1), .int .i64 a]) ∧ w' = ((((w.alloc (.cells #[.string (st k), .string (st q), .string (st c), .int .i64 m, .string (st kReady), .int .i64 (now + bkoI t), .int .i64 (t + 1), .int .i64 a] 23)).alloc (.cells #[.string (st k), .string (st q), .string (st c), .int .i64 m, .string (st kReady), .int .i64 (now + bkoI t), .int .i64 (t + 1), .int .i64 a] 23)).alloc (.cells #[.string (st k), .string (st q), .string (st c), .int .i64 m, .string (st s), .int .i64 n, .int .i64 t, .int .i64 a] 23)).alloc (.cells #[.string (st k), .string (st q), .string (st c), .int .i64 m, .string (st kReady), .int .i64 (now + bkoI t), .int .i64 (t + 1), .int .i64 a] 23)).alloc (.cells #[.string (st k), .string (st q), .string (st c), .int .i64 m, .string (st kReady), .int .i64 (now + bkoI t), .int .i64 (t + 1), .int .i64 a] 23) := by
  have HO : Hid (∀ W, Calls Try.prog 12 #[.agg #[.string (st k), .string (st q), .string (st c), .int .i64 m, .string (st s), .int .i64 n, .int .i64 t, .int .i64 a]] W fun e w' => e = .returned (.bool false) ∧ w' = W.alloc (.cells #[.string (st k), .string (st q), .string (st c), .int .i64 m, .string (st s), .int .i64 n, .int .i64 t, .int .i64 a] 23)) := fun W => h ▸ over_any k q c m s n t a W
  have p1 : ((st d).toList == [97, 99, 99, 101, 112, 116, 101, 100]) = false := txt_f (by rw [hd]; decide)
  have p2 : ((st d).toList == [100, 101, 99, 108, 105, 110, 101, 100]) = false := txt_f (by rw [hd]; decide)
  have p3 : ((st d).toList == [117, 110, 107, 110, 111, 119, 110]) = true := txt_t hd
  have p4 : ((st s).toList == [113, 117, 101, 114, 105, 101, 100]) = true := txt_t hs
  have p5 : (a == b) = true := by rw [beq_iff_eq]; exact hb
  have HP : Hid (∀ W, Calls Try.prog 18 #[.agg #[.string (st k), .string (st q), .string (st c), .int .i64 m, .string (st kReady), .int .i64 n, .int .i64 t, .int .i64 a], .int .i64 now] W fun e w' => e = .returned (.agg #[.string (st k), .string (st q), .string (st c), .int .i64 m, .string (st kReady), .int .i64 (now + bkoI t), .int .i64 (t + 1), .int .i64 a]) ∧ w' = (W.alloc (.cells #[.string (st k), .string (st q), .string (st c), .int .i64 m, .string (st kReady), .int .i64 (now + bkoI t), .int .i64 (t + 1), .int .i64 a] 23)).alloc (.cells #[.string (st k), .string (st q), .string (st c), .int .i64 m, .string (st kReady), .int .i64 (now + bkoI t), .int .i64 (t + 1), .int .i64 a] 23)) := fun W => putOff_any k q c m kReady n t a now W ht (by unfold Sm at hw; omega)
  obtain ⟨y, hy⟩ : ∃ y, y = now + bkoI t := ⟨_, rfl⟩
  obtain ⟨u, hu⟩ : ∃ u, u = t + 1 := ⟨_, rfl⟩
  rw [← hy, ← hu] at HP ⊢
  clear h hd hs hb hw ht hy hu
  go_enter Try.func21, Try.ntmps21
  go_wp2_with fail
  refine (HO.out _).mono ?_
  rintro e w' ⟨rfl, rfl⟩
  go_wp2_with fail
  refine (HP.out _).mono ?_
  rintro e w' ⟨rfl, rfl⟩
  go_wp2
  refine bodyPost_ret (results_cell_row rfl _ _ _ _ _ (0, 0) _ rfl ((((blk_two _ _ _ _).alloc _).alloc _).alloc _) Try.underlying23 rfl infoPy) rfl ⟨rfl, rfl⟩

end Go.Proofs.Ytdahgmkbpiklpaa
