/-
  Contract of the document's Hear.
-/
import Derived.Test.YtdahgmkbpiklpaaAtR
import Derived.Test.YtdahgmkbpiklpaaAtD
namespace Go.Proofs.Ytdahgmkbpiklpaa
open Go.RowKit Go.Deep Go.Lib

set_option maxHeartbeats 1600000 in
theorem rhear_over (k q c : List UInt8) (m : Int) (s : List UInt8) (n t a : Int) (d : List UInt8) (b now : Int) (w : World) (h : overB s = true) :
    Calls Try.prog 11 #[.agg #[.string (st k), .string (st q), .string (st c), .int .i64 m, .string (st s), .int .i64 n, .int .i64 t, .int .i64 a], .string (st d), .int .i64 b, .int .i64 now] w fun e w' => e = .returned (.tuple #[.agg #[.string (st k), .string (st q), .string (st c), .int .i64 m, .string (st s), .int .i64 n, .int .i64 t, .int .i64 a], .bool false]) ∧ Below w.heap.size w w' := by
  have HO : Hid (∀ W, Calls Try.prog 13 #[.agg #[.string (st k), .string (st q), .string (st c), .int .i64 m, .string (st s), .int .i64 n, .int .i64 t, .int .i64 a]] W fun e w' => e = .returned (.bool true) ∧ w' = W.alloc (.cells #[.string (st k), .string (st q), .string (st c), .int .i64 m, .string (st s), .int .i64 n, .int .i64 t, .int .i64 a] 27)) := fun W => h ▸ rover_any k q c m s n t a W
  clear h
  go_enter Try.func11, Try.ntmps11
  go_wp2_with fail
  refine (HO.out _).mono ?_
  rintro e w' ⟨rfl, rfl⟩
  go_wp2
  refine bodyPost_ret (rhear_ret rfl _ rfl false ((blk_two _ _ _ _).alloc _) rfl) rfl ⟨rfl, Below.more (Below.more (Below.more (Below.refl _ _) (Nat.le_refl _) _) (Nat.le_refl _) _) (Nat.le_refl _) _⟩

set_option maxHeartbeats 1600000 in
theorem rhear_acc (k q c : List UInt8) (m : Int) (s : List UInt8) (n t a : Int) (d : List UInt8) (b now : Int) (w : World) (h : overB s = false) (hd : d = kAcc) :
    Calls Try.prog 11 #[.agg #[.string (st k), .string (st q), .string (st c), .int .i64 m, .string (st s), .int .i64 n, .int .i64 t, .int .i64 a], .string (st d), .int .i64 b, .int .i64 now] w fun e w' => e = .returned (.tuple #[.agg #[.string (st k), .string (st q), .string (st c), .int .i64 m, .string (st kPaid), .int .i64 n, .int .i64 t, .int .i64 a], .bool true]) ∧ Below w.heap.size w w' := by
  have HO : Hid (∀ W, Calls Try.prog 13 #[.agg #[.string (st k), .string (st q), .string (st c), .int .i64 m, .string (st s), .int .i64 n, .int .i64 t, .int .i64 a]] W fun e w' => e = .returned (.bool false) ∧ w' = W.alloc (.cells #[.string (st k), .string (st q), .string (st c), .int .i64 m, .string (st s), .int .i64 n, .int .i64 t, .int .i64 a] 27)) := fun W => h ▸ rover_any k q c m s n t a W
  have p1 : ((st d).toList == [97, 99, 99, 101, 112, 116, 101, 100]) = true := txt_t hd
  clear h hd
  go_enter Try.func11, Try.ntmps11
  go_wp2_with fail
  refine (HO.out _).mono ?_
  rintro e w' ⟨rfl, rfl⟩
  go_wp2
  refine bodyPost_ret (rhear_ret rfl _ rfl true ((blk_two _ _ _ _).alloc _) rfl) rfl ⟨rfl, Below.more (Below.more (Below.more (Below.refl _ _) (Nat.le_refl _) _) (Nat.le_refl _) _) (Nat.le_refl _) _⟩

set_option maxHeartbeats 1600000 in
theorem rhear_dec (k q c : List UInt8) (m : Int) (s : List UInt8) (n t a : Int) (d : List UInt8) (b now : Int) (w : World) (h : overB s = false) (hd : d = kDec) :
    Calls Try.prog 11 #[.agg #[.string (st k), .string (st q), .string (st c), .int .i64 m, .string (st s), .int .i64 n, .int .i64 t, .int .i64 a], .string (st d), .int .i64 b, .int .i64 now] w fun e w' => e = .returned (.tuple #[.agg #[.string (st k), .string (st q), .string (st c), .int .i64 m, .string (st kBack), .int .i64 n, .int .i64 t, .int .i64 a], .bool true]) ∧ Below w.heap.size w w' := by
  have HO : Hid (∀ W, Calls Try.prog 13 #[.agg #[.string (st k), .string (st q), .string (st c), .int .i64 m, .string (st s), .int .i64 n, .int .i64 t, .int .i64 a]] W fun e w' => e = .returned (.bool false) ∧ w' = W.alloc (.cells #[.string (st k), .string (st q), .string (st c), .int .i64 m, .string (st s), .int .i64 n, .int .i64 t, .int .i64 a] 27)) := fun W => h ▸ rover_any k q c m s n t a W
  have p1 : ((st d).toList == [97, 99, 99, 101, 112, 116, 101, 100]) = false := txt_f (by rw [hd]; decide)
  have p2 : ((st d).toList == [100, 101, 99, 108, 105, 110, 101, 100]) = true := txt_t hd
  clear h hd
  go_enter Try.func11, Try.ntmps11
  go_wp2_with fail
  refine (HO.out _).mono ?_
  rintro e w' ⟨rfl, rfl⟩
  go_wp2
  refine bodyPost_ret (rhear_ret rfl _ rfl true ((blk_two _ _ _ _).alloc _) rfl) rfl ⟨rfl, Below.more (Below.more (Below.more (Below.refl _ _) (Nat.le_refl _) _) (Nat.le_refl _) _) (Nat.le_refl _) _⟩

set_option maxHeartbeats 1600000 in
theorem rhear_kind (k q c : List UInt8) (m : Int) (s : List UInt8) (n t a : Int) (d : List UInt8) (b now : Int) (w : World) (h : overB s = false) (h1 : d ≠ kAcc) (h2 : d ≠ kDec) (h3 : d ≠ kUnk) :
    Calls Try.prog 11 #[.agg #[.string (st k), .string (st q), .string (st c), .int .i64 m, .string (st s), .int .i64 n, .int .i64 t, .int .i64 a], .string (st d), .int .i64 b, .int .i64 now] w fun e w' => e = .returned (.tuple #[.agg #[.string (st k), .string (st q), .string (st c), .int .i64 m, .string (st s), .int .i64 n, .int .i64 t, .int .i64 a], .bool false]) ∧ Below w.heap.size w w' := by
  have HO : Hid (∀ W, Calls Try.prog 13 #[.agg #[.string (st k), .string (st q), .string (st c), .int .i64 m, .string (st s), .int .i64 n, .int .i64 t, .int .i64 a]] W fun e w' => e = .returned (.bool false) ∧ w' = W.alloc (.cells #[.string (st k), .string (st q), .string (st c), .int .i64 m, .string (st s), .int .i64 n, .int .i64 t, .int .i64 a] 27)) := fun W => h ▸ rover_any k q c m s n t a W
  have p1 : ((st d).toList == [97, 99, 99, 101, 112, 116, 101, 100]) = false := txt_f h1
  have p2 : ((st d).toList == [100, 101, 99, 108, 105, 110, 101, 100]) = false := txt_f h2
  have p3 : ((st d).toList == [117, 110, 107, 110, 111, 119, 110]) = false := txt_f h3
  clear h h1 h2 h3
  go_enter Try.func11, Try.ntmps11
  go_wp2_with fail
  refine (HO.out _).mono ?_
  rintro e w' ⟨rfl, rfl⟩
  go_wp2
  refine bodyPost_ret (rhear_ret rfl _ rfl false ((blk_two _ _ _ _).alloc _) rfl) rfl ⟨rfl, Below.more (Below.more (Below.more (Below.refl _ _) (Nat.le_refl _) _) (Nat.le_refl _) _) (Nat.le_refl _) _⟩

set_option maxHeartbeats 1600000 in
theorem rhear_state (k q c : List UInt8) (m : Int) (s : List UInt8) (n t a : Int) (d : List UInt8) (b now : Int) (w : World) (h : overB s = false) (hd : d = kUnk) (hs : s ≠ kQueried) :
    Calls Try.prog 11 #[.agg #[.string (st k), .string (st q), .string (st c), .int .i64 m, .string (st s), .int .i64 n, .int .i64 t, .int .i64 a], .string (st d), .int .i64 b, .int .i64 now] w fun e w' => e = .returned (.tuple #[.agg #[.string (st k), .string (st q), .string (st c), .int .i64 m, .string (st s), .int .i64 n, .int .i64 t, .int .i64 a], .bool false]) ∧ Below w.heap.size w w' := by
  have HO : Hid (∀ W, Calls Try.prog 13 #[.agg #[.string (st k), .string (st q), .string (st c), .int .i64 m, .string (st s), .int .i64 n, .int .i64 t, .int .i64 a]] W fun e w' => e = .returned (.bool false) ∧ w' = W.alloc (.cells #[.string (st k), .string (st q), .string (st c), .int .i64 m, .string (st s), .int .i64 n, .int .i64 t, .int .i64 a] 27)) := fun W => h ▸ rover_any k q c m s n t a W
  have p1 : ((st d).toList == [97, 99, 99, 101, 112, 116, 101, 100]) = false := txt_f (by rw [hd]; decide)
  have p2 : ((st d).toList == [100, 101, 99, 108, 105, 110, 101, 100]) = false := txt_f (by rw [hd]; decide)
  have p3 : ((st d).toList == [117, 110, 107, 110, 111, 119, 110]) = true := txt_t hd
  have p4 : ((st s).toList == [113, 117, 101, 114, 105, 101, 100]) = false := txt_f hs
  clear h hd hs
  go_enter Try.func11, Try.ntmps11
  go_wp2_with fail
  refine (HO.out _).mono ?_
  rintro e w' ⟨rfl, rfl⟩
  go_wp2
  refine bodyPost_ret (rhear_ret rfl _ rfl false ((blk_two _ _ _ _).alloc _) rfl) rfl ⟨rfl, Below.more (Below.more (Below.more (Below.refl _ _) (Nat.le_refl _) _) (Nat.le_refl _) _) (Nat.le_refl _) _⟩

set_option maxHeartbeats 1600000 in
theorem rhear_att (k q c : List UInt8) (m : Int) (s : List UInt8) (n t a : Int) (d : List UInt8) (b now : Int) (w : World) (h : overB s = false) (hd : d = kUnk) (hs : s = kQueried) (hb : a ≠ b) :
    Calls Try.prog 11 #[.agg #[.string (st k), .string (st q), .string (st c), .int .i64 m, .string (st s), .int .i64 n, .int .i64 t, .int .i64 a], .string (st d), .int .i64 b, .int .i64 now] w fun e w' => e = .returned (.tuple #[.agg #[.string (st k), .string (st q), .string (st c), .int .i64 m, .string (st s), .int .i64 n, .int .i64 t, .int .i64 a], .bool false]) ∧ Below w.heap.size w w' := by
  have HO : Hid (∀ W, Calls Try.prog 13 #[.agg #[.string (st k), .string (st q), .string (st c), .int .i64 m, .string (st s), .int .i64 n, .int .i64 t, .int .i64 a]] W fun e w' => e = .returned (.bool false) ∧ w' = W.alloc (.cells #[.string (st k), .string (st q), .string (st c), .int .i64 m, .string (st s), .int .i64 n, .int .i64 t, .int .i64 a] 27)) := fun W => h ▸ rover_any k q c m s n t a W
  have p1 : ((st d).toList == [97, 99, 99, 101, 112, 116, 101, 100]) = false := txt_f (by rw [hd]; decide)
  have p2 : ((st d).toList == [100, 101, 99, 108, 105, 110, 101, 100]) = false := txt_f (by rw [hd]; decide)
  have p3 : ((st d).toList == [117, 110, 107, 110, 111, 119, 110]) = true := txt_t hd
  have p4 : ((st s).toList == [113, 117, 101, 114, 105, 101, 100]) = true := txt_t hs
  have p5 : (b == a) = false := by rw [beq_eq_false_iff_ne]; exact fun e => hb e.symm
  clear h hd hs hb
  go_enter Try.func11, Try.ntmps11
  go_wp2_with fail
  refine (HO.out _).mono ?_
  rintro e w' ⟨rfl, rfl⟩
  go_wp2
  refine bodyPost_ret (rhear_ret rfl _ rfl false ((blk_two _ _ _ _).alloc _) rfl) rfl ⟨rfl, Below.more (Below.more (Below.more (Below.refl _ _) (Nat.le_refl _) _) (Nat.le_refl _) _) (Nat.le_refl _) _⟩

set_option maxHeartbeats 1600000 in
theorem rhear_redo (k q c : List UInt8) (m : Int) (s : List UInt8) (n t a : Int) (d : List UInt8) (b now : Int) (w : World) (h : overB s = false) (hd : d = kUnk) (hs : s = kQueried) (hb : a = b) (hw : Sm now) (ht : Sm t) :
    Calls Try.prog 11 #[.agg #[.string (st k), .string (st q), .string (st c), .int .i64 m, .string (st s), .int .i64 n, .int .i64 t, .int .i64 a], .string (st d), .int .i64 b, .int .i64 now] w fun e w' => e = .returned (.tuple #[.agg #[.string (st k), .string (st q), .string (st c), .int .i64 m, .string (st kReady), .int .i64 (now + bkoI t), .int .i64 (t + 1), .int .i64 a], .bool true]) ∧ Below w.heap.size w w' := by
  have HO : Hid (∀ W, Calls Try.prog 13 #[.agg #[.string (st k), .string (st q), .string (st c), .int .i64 m, .string (st s), .int .i64 n, .int .i64 t, .int .i64 a]] W fun e w' => e = .returned (.bool false) ∧ w' = W.alloc (.cells #[.string (st k), .string (st q), .string (st c), .int .i64 m, .string (st s), .int .i64 n, .int .i64 t, .int .i64 a] 27)) := fun W => h ▸ rover_any k q c m s n t a W
  have p1 : ((st d).toList == [97, 99, 99, 101, 112, 116, 101, 100]) = false := txt_f (by rw [hd]; decide)
  have p2 : ((st d).toList == [100, 101, 99, 108, 105, 110, 101, 100]) = false := txt_f (by rw [hd]; decide)
  have p3 : ((st d).toList == [117, 110, 107, 110, 111, 119, 110]) = true := txt_t hd
  have p4 : ((st s).toList == [113, 117, 101, 114, 105, 101, 100]) = true := txt_t hs
  have p5 : (b == a) = true := by rw [beq_iff_eq]; exact hb.symm
  have HK : Hid (∀ W, Calls Try.prog 20 #[.int .i64 t] W fun e w' => e = .returned (.int .i64 (bkoI t)) ∧ W = w') := fun W => rbackoff_any t W ht.tk
  have hbk := bkoI_le t
  obtain ⟨v, hv⟩ : ∃ v, v = bkoI t := ⟨_, rfl⟩
  rw [← hv] at HK hbk ⊢
  unfold Sm at ht hw
  obtain ⟨y, hy⟩ : ∃ y, y = now + v := ⟨_, rfl⟩
  obtain ⟨u, hu⟩ : ∃ u, u = t + 1 := ⟨_, rfl⟩
  rw [← hy, ← hu]
  have i1 : IntKind.i64.wrap (now + v) = y := by rw [hy, IntWalk.i64_in _ (by omega)]
  have i2 : IntKind.i64.wrap (t + 1) = u := by rw [hu, IntWalk.i64_in _ (by omega)]
  clear h hd hs hb hw ht hy hu hv hbk
  go_enter Try.func11, Try.ntmps11
  go_wp2_with fail
  refine (HO.out _).mono ?_
  rintro e w' ⟨rfl, rfl⟩
  go_wp2_with fail
  refine (HK.out _).mono ?_
  rintro e w' ⟨rfl, rfl⟩
  go_wp2
  refine bodyPost_ret (rhear_ret rfl _ rfl true ((blk_two _ _ _ _).alloc _) rfl) rfl ⟨rfl, Below.more (Below.more (Below.more (Below.refl _ _) (Nat.le_refl _) _) (Nat.le_refl _) _) (Nat.le_refl _) _⟩

/-- THE CONTRACT OF the document's Hear -/
theorem rhear_any (p : Py) (d : List UInt8) (b now : Int) (w : World) (hw : Sm now) (ht : Sm p.tries) :
    Calls Try.prog 11 #[.agg (cPy p).toArray, .string (st d), .int .i64 b, .int .i64 now] w fun e w' => e = .returned (.tuple #[.agg (cPy (hearP p d b now)).toArray, .bool (hearB p d b)]) ∧ Below w.heap.size w w' := by
  obtain ⟨k, q, c, m, s, n, t, a⟩ := p
  unfold hearP hearB redoB
  simp only
  cases ho : overB s with
  | true => exact rhear_over k q c m s n t a d b now w ho
  | false =>
    simp only [Bool.false_eq_true, if_false, Bool.not_false, Bool.true_and]
    by_cases h1 : d = kAcc
    · rw [if_pos h1, decide_eq_true h1]; exact rhear_acc k q c m s n t a d b now w ho h1
    rw [if_neg h1, decide_eq_false h1]
    by_cases h2 : d = kDec
    · rw [if_pos h2, decide_eq_true h2]; exact rhear_dec k q c m s n t a d b now w ho h2
    rw [if_neg h2, decide_eq_false h2]
    by_cases h3 : d = kUnk
    · rw [decide_eq_true h3, Bool.true_and]
      by_cases h4 : s = kQueried
      · rw [decide_eq_true h4, Bool.true_and]
        by_cases h5 : a = b
        · rw [decide_eq_true h5]; exact rhear_redo k q c m s n t a d b now w ho h3 h4 h5 hw ht
        · rw [decide_eq_false h5]; exact rhear_att k q c m s n t a d b now w ho h3 h4 h5
      · rw [decide_eq_false h4, Bool.false_and]; exact rhear_state k q c m s n t a d b now w ho h3 h4
    · rw [decide_eq_false h3, Bool.false_and]; exact rhear_kind k q c m s n t a d b now w ho h1 h2 h3
end Go.Proofs.Ytdahgmkbpiklpaa
