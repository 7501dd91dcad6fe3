/-
  Contracts of the document's Over and Step.
-/
import Derived.Test.YtdahgmkbpiklpaaAtB
import Derived.BigRegion
namespace Go.Proofs.Ytdahgmkbpiklpaa
open Go.RowKit Go.Deep Go.Lib

theorem infoRPy : (Try.prog.info? 27).map (·.size) = some 8 := by kernel_rfl
theorem rstep_ret {fn : Func} {s1 s2 s3 : Nat} (h : fn.results = #[.cell s1 27, .cell s2 29, .tmp s3]) {tmps : Array Value} {W : World} (g1 g2 : Nat) (hp : tmps.getD s1 undef = .pointer (some ⟨g1, 0, none⟩)) (hq : tmps.getD s2 undef = .pointer (some ⟨g2, 0, none⟩)) {a0 a1 a2 a3 a4 a5 a6 a7 b0 b1 b2 b3 b4 b5 : Value} (b : Bool)
    (hg1 : Blk W g1 27 #[a0, a1, a2, a3, a4, a5, a6, a7]) (hg2 : Blk W g2 29 #[b0, b1, b2, b3, b4, b5]) (hb : tmps.getD s3 undef = .bool b) :
    (results fn tmps).run Try.prog W = .ok (.tuple #[.agg #[a0, a1, a2, a3, a4, a5, a6, a7], .agg #[b0, b1, b2, b3, b4, b5], .bool b]) W := by
  have hp' : tmps[s1]?.getD undef = .pointer (some ⟨g1, 0, none⟩) := by simpa using hp
  have hq' : tmps[s2]?.getD undef = .pointer (some ⟨g2, 0, none⟩) := by simpa using hq
  have hb' : tmps[s3]?.getD undef = .bool b := by simpa using hb
  rw [results_cell2_tmp h]
  simp [hp', hq', hb', asAddr, Result.andThen, run_loadVar_row W g1 27 27 _ _ _ hg1 Try.underlying27 rfl infoRPy, run_loadVar_row W g2 29 29 _ _ _ hg2 Try.underlying29 rfl infoReq]
theorem rhear_ret {fn : Func} {s1 s3 : Nat} (h : fn.results = #[.cell s1 27, .tmp s3]) {tmps : Array Value} {W : World} (g1 : Nat) (hp : tmps.getD s1 undef = .pointer (some ⟨g1, 0, none⟩)) {a0 a1 a2 a3 a4 a5 a6 a7 : Value} (b : Bool)
    (hg1 : Blk W g1 27 #[a0, a1, a2, a3, a4, a5, a6, a7]) (hb : tmps.getD s3 undef = .bool b) :
    (results fn tmps).run Try.prog W = .ok (.tuple #[.agg #[a0, a1, a2, a3, a4, a5, a6, a7], .bool b]) W := by
  have hp' : tmps[s1]?.getD undef = .pointer (some ⟨g1, 0, none⟩) := by simpa using hp
  have hb' : tmps[s3]?.getD undef = .bool b := by simpa using hb
  rw [results_cell_tmp h]
  simp [hp', hb', asAddr, Result.andThen, run_loadVar_row W g1 27 27 _ _ _ hg1 Try.underlying27 rfl infoRPy]

set_option maxHeartbeats 800000 in
theorem rover_any (k q c : List UInt8) (m : Int) (s : List UInt8) (n t a : Int) (w : World) :
    Calls Try.prog 13 #[.agg #[.string (st k), .string (st q), .string (st c), .int .i64 m, .string (st s), .int .i64 n, .int .i64 t, .int .i64 a]] w fun e w' => e = .returned (.bool (overB s)) ∧ w' = w.alloc (.cells #[.string (st k), .string (st q), .string (st c), .int .i64 m, .string (st s), .int .i64 n, .int .i64 t, .int .i64 a] 27) := by
  unfold overB
  by_cases h1 : s = kPaid
  · have p1 : ((st s).toList == [112, 97, 105, 100]) = true := txt_t h1
    rw [decide_eq_true h1, Bool.true_or]
    clear h1
    go_enter Try.func13, Try.ntmps13
    go_wp2
    go_ret
    exact ⟨rfl, rfl⟩
  · have p1 : ((st s).toList == [112, 97, 105, 100]) = false := txt_f h1
    rw [decide_eq_false h1, Bool.false_or]
    by_cases h2 : s = kBack
    · have p2 : ((st s).toList == [98, 97, 99, 107]) = true := txt_t h2
      rw [decide_eq_true h2]
      clear h1 h2
      go_enter Try.func13, Try.ntmps13
      go_wp2
      go_ret
      exact ⟨rfl, rfl⟩
    · have p2 : ((st s).toList == [98, 97, 99, 107]) = false := txt_f h2
      rw [decide_eq_false h2]
      clear h1 h2
      go_enter Try.func13, Try.ntmps13
      go_wp2
      go_ret
      exact ⟨rfl, rfl⟩

set_option maxHeartbeats 1600000 in
theorem rstep_over (k q c : List UInt8) (m : Int) (s : List UInt8) (n t a : Int) (now : Int) (w : World) (h : overB s = true) :
    Calls Try.prog 9 #[.agg #[.string (st k), .string (st q), .string (st c), .int .i64 m, .string (st s), .int .i64 n, .int .i64 t, .int .i64 a], .int .i64 now] w fun e w' => e = .returned (.tuple #[.agg #[.string (st k), .string (st q), .string (st c), .int .i64 m, .string (st s), .int .i64 n, .int .i64 t, .int .i64 a], .agg #[.string (st []), .string (st []), .string (st []), .string (st []), .int .i64 0, .int .i64 0], .bool false]) ∧ Below w.heap.size w w' := by
  have HO : Hid (∀ W, Calls Try.prog 13 #[.agg #[.string (st k), .string (st q), .string (st c), .int .i64 m, .string (st s), .int .i64 n, .int .i64 t, .int .i64 a]] W fun e w' => e = .returned (.bool true) ∧ w' = W.alloc (.cells #[.string (st k), .string (st q), .string (st c), .int .i64 m, .string (st s), .int .i64 n, .int .i64 t, .int .i64 a] 27)) := fun W => h ▸ rover_any k q c m s n t a W
  clear h
  go_enter Try.func9, Try.ntmps9
  go_wp2_with fail
  refine (HO.out _).mono ?_
  rintro e w' ⟨rfl, rfl⟩
  go_wp2
  refine bodyPost_ret (rstep_ret rfl _ _ rfl rfl false (((blk_two _ _ _ _).alloc _).alloc _) ((blk_three _ _ _ _ _).alloc _) rfl) rfl ⟨rfl, Below.more (Below.more (Below.more (Below.more (Below.refl _ _) (Nat.le_refl _) _) (Nat.le_refl _) _) (Nat.le_refl _) _) (Nat.le_refl _) _⟩

set_option maxHeartbeats 1600000 in
theorem rstep_wait (k q c : List UInt8) (m : Int) (s : List UInt8) (n t a : Int) (now : Int) (w : World) (h : overB s = false) (hn : now < n) :
    Calls Try.prog 9 #[.agg #[.string (st k), .string (st q), .string (st c), .int .i64 m, .string (st s), .int .i64 n, .int .i64 t, .int .i64 a], .int .i64 now] w fun e w' => e = .returned (.tuple #[.agg #[.string (st k), .string (st q), .string (st c), .int .i64 m, .string (st s), .int .i64 n, .int .i64 t, .int .i64 a], .agg #[.string (st []), .string (st []), .string (st []), .string (st []), .int .i64 0, .int .i64 0], .bool false]) ∧ Below w.heap.size w w' := by
  have HO : Hid (∀ W, Calls Try.prog 13 #[.agg #[.string (st k), .string (st q), .string (st c), .int .i64 m, .string (st s), .int .i64 n, .int .i64 t, .int .i64 a]] W fun e w' => e = .returned (.bool false) ∧ w' = W.alloc (.cells #[.string (st k), .string (st q), .string (st c), .int .i64 m, .string (st s), .int .i64 n, .int .i64 t, .int .i64 a] 27)) := fun W => h ▸ rover_any k q c m s n t a W
  clear h
  go_enter Try.func9, Try.ntmps9
  go_wp2_with fail
  refine (HO.out _).mono ?_
  rintro e w' ⟨rfl, rfl⟩
  go_wp2
  refine bodyPost_ret (rstep_ret rfl _ _ rfl rfl false (((blk_two _ _ _ _).alloc _).alloc _) ((blk_three _ _ _ _ _).alloc _) rfl) rfl ⟨rfl, Below.more (Below.more (Below.more (Below.more (Below.refl _ _) (Nat.le_refl _) _) (Nat.le_refl _) _) (Nat.le_refl _) _) (Nat.le_refl _) _⟩

set_option maxHeartbeats 3200000 in
theorem rstep_ready (k q c : List UInt8) (m : Int) (s : List UInt8) (n t a : Int) (now : Int) (w : World) (h : overB s = false) (hn : n ≤ now) (hs : s = kReady) (hw : Sm now) (ha : Sm a) :
    Calls Try.prog 9 #[.agg #[.string (st k), .string (st q), .string (st c), .int .i64 m, .string (st s), .int .i64 n, .int .i64 t, .int .i64 a], .int .i64 now] w fun e w' => e = .returned (.tuple #[.agg #[.string (st k), .string (st q), .string (st c), .int .i64 m, .string (st kAsked), .int .i64 (now + 2), .int .i64 t, .int .i64 (a + 1)], .agg #[.string (st kPay), .string (st k), .string (st q), .string (st c), .int .i64 m, .int .i64 (a + 1)], .bool true]) ∧ Below w.heap.size w w' := by
  have HO : Hid (∀ W, Calls Try.prog 13 #[.agg #[.string (st k), .string (st q), .string (st c), .int .i64 m, .string (st s), .int .i64 n, .int .i64 t, .int .i64 a]] W fun e w' => e = .returned (.bool false) ∧ w' = W.alloc (.cells #[.string (st k), .string (st q), .string (st c), .int .i64 m, .string (st s), .int .i64 n, .int .i64 t, .int .i64 a] 27)) := fun W => h ▸ rover_any k q c m s n t a W
  have g1 : ¬ now < n := by omega
  unfold Sm at hw ha
  obtain ⟨y, hy⟩ : ∃ y, y = now + 2 := ⟨_, rfl⟩
  obtain ⟨z, hz⟩ : ∃ z, z = a + 1 := ⟨_, rfl⟩
  rw [← hz]
  try rw [← hy]
  have i1 : IntKind.i64.wrap (now + 2) = y := by rw [hy, IntWalk.i64_in _ (by omega)]
  have i2 : IntKind.i64.wrap (a + 1) = z := by rw [hz, IntWalk.i64_in _ (by omega)]
  have p1 : ((st s).toList == [114, 101, 97, 100, 121]) = true := txt_t hs
  clear h hn hw ha hy hz hs
  go_enter Try.func9, Try.ntmps9
  go_wp2_with fail
  refine (HO.out _).mono ?_
  rintro e w' ⟨rfl, rfl⟩
  go_wp2
  go_region
  all_goals (go_wp2; refine bodyPost_ret (rstep_ret rfl _ _ rfl rfl true ((((blk_two _ _ _ _).alloc _).alloc _).alloc _) (((blk_three _ _ _ _ _).alloc _).alloc _) rfl) rfl ⟨rfl, below_drew (Below.more (Below.more (Below.more (Below.more (Below.more (Below.refl _ _) (Nat.le_refl _) _) (Nat.le_refl _) _) (Nat.le_refl _) _) (Nat.le_refl _) _) (Nat.le_refl _) _)⟩)

set_option maxHeartbeats 3200000 in
theorem rstep_asked (k q c : List UInt8) (m : Int) (s : List UInt8) (n t a : Int) (now : Int) (w : World) (h : overB s = false) (hn : n ≤ now) (hs : s = kAsked) (hw : Sm now) (ha : Sm a) :
    Calls Try.prog 9 #[.agg #[.string (st k), .string (st q), .string (st c), .int .i64 m, .string (st s), .int .i64 n, .int .i64 t, .int .i64 a], .int .i64 now] w fun e w' => e = .returned (.tuple #[.agg #[.string (st k), .string (st q), .string (st c), .int .i64 m, .string (st kQueried), .int .i64 (now + 2), .int .i64 t, .int .i64 (a + 1)], .agg #[.string (st kQuery), .string (st k), .string (st q), .string (st c), .int .i64 m, .int .i64 (a + 1)], .bool true]) ∧ Below w.heap.size w w' := by
  have HO : Hid (∀ W, Calls Try.prog 13 #[.agg #[.string (st k), .string (st q), .string (st c), .int .i64 m, .string (st s), .int .i64 n, .int .i64 t, .int .i64 a]] W fun e w' => e = .returned (.bool false) ∧ w' = W.alloc (.cells #[.string (st k), .string (st q), .string (st c), .int .i64 m, .string (st s), .int .i64 n, .int .i64 t, .int .i64 a] 27)) := fun W => h ▸ rover_any k q c m s n t a W
  have g1 : ¬ now < n := by omega
  unfold Sm at hw ha
  obtain ⟨y, hy⟩ : ∃ y, y = now + 2 := ⟨_, rfl⟩
  obtain ⟨z, hz⟩ : ∃ z, z = a + 1 := ⟨_, rfl⟩
  rw [← hz]
  try rw [← hy]
  have i1 : IntKind.i64.wrap (now + 2) = y := by rw [hy, IntWalk.i64_in _ (by omega)]
  have i2 : IntKind.i64.wrap (a + 1) = z := by rw [hz, IntWalk.i64_in _ (by omega)]
  have p1 : ((st s).toList == [114, 101, 97, 100, 121]) = false := txt_f (by rw [hs]; decide)
  have p2 : ((st s).toList == [97, 115, 107, 101, 100]) = true := txt_t hs
  clear h hn hw ha hy hz hs
  go_enter Try.func9, Try.ntmps9
  go_wp2_with fail
  refine (HO.out _).mono ?_
  rintro e w' ⟨rfl, rfl⟩
  go_wp2
  go_region
  all_goals (go_wp2; refine bodyPost_ret (rstep_ret rfl _ _ rfl rfl true ((((blk_two _ _ _ _).alloc _).alloc _).alloc _) (((blk_three _ _ _ _ _).alloc _).alloc _) rfl) rfl ⟨rfl, below_drew (Below.more (Below.more (Below.more (Below.more (Below.more (Below.refl _ _) (Nat.le_refl _) _) (Nat.le_refl _) _) (Nat.le_refl _) _) (Nat.le_refl _) _) (Nat.le_refl _) _)⟩)

set_option maxHeartbeats 3200000 in
theorem rstep_other (k q c : List UInt8) (m : Int) (s : List UInt8) (n t a : Int) (now : Int) (w : World) (h : overB s = false) (hn : n ≤ now) (h1 : s ≠ kReady) (h2 : s ≠ kAsked) (ht : Sm t) (hw : Sm now) (ha : Sm a) :
    Calls Try.prog 9 #[.agg #[.string (st k), .string (st q), .string (st c), .int .i64 m, .string (st s), .int .i64 n, .int .i64 t, .int .i64 a], .int .i64 now] w fun e w' => e = .returned (.tuple #[.agg #[.string (st k), .string (st q), .string (st c), .int .i64 m, .string (st s), .int .i64 (now + 2 + bkoI t), .int .i64 (t + 1), .int .i64 (a + 1)], .agg #[.string (st kQuery), .string (st k), .string (st q), .string (st c), .int .i64 m, .int .i64 (a + 1)], .bool true]) ∧ Below w.heap.size w w' := by
  have HO : Hid (∀ W, Calls Try.prog 13 #[.agg #[.string (st k), .string (st q), .string (st c), .int .i64 m, .string (st s), .int .i64 n, .int .i64 t, .int .i64 a]] W fun e w' => e = .returned (.bool false) ∧ w' = W.alloc (.cells #[.string (st k), .string (st q), .string (st c), .int .i64 m, .string (st s), .int .i64 n, .int .i64 t, .int .i64 a] 27)) := fun W => h ▸ rover_any k q c m s n t a W
  have g1 : ¬ now < n := by omega
  have HK : Hid (∀ W, Calls Try.prog 20 #[.int .i64 t] W fun e w' => e = .returned (.int .i64 (bkoI t)) ∧ W = w') := fun W => rbackoff_any t W ht.tk
  have hb := bkoI_le t
  obtain ⟨b, hbb⟩ : ∃ b, b = bkoI t := ⟨_, rfl⟩
  rw [← hbb] at HK hb ⊢
  obtain ⟨x, hx⟩ : ∃ x, x = now + 2 + b := ⟨_, rfl⟩
  obtain ⟨u, hu⟩ : ∃ u, u = t + 1 := ⟨_, rfl⟩
  rw [← hx, ← hu]
  unfold Sm at ht
  unfold Sm at hw ha
  obtain ⟨y, hy⟩ : ∃ y, y = now + 2 := ⟨_, rfl⟩
  obtain ⟨z, hz⟩ : ∃ z, z = a + 1 := ⟨_, rfl⟩
  rw [← hz]
  try rw [← hy]
  have i1 : IntKind.i64.wrap (now + 2) = y := by rw [hy, IntWalk.i64_in _ (by omega)]
  have i2 : IntKind.i64.wrap (a + 1) = z := by rw [hz, IntWalk.i64_in _ (by omega)]
  have p1 : ((st s).toList == [114, 101, 97, 100, 121]) = false := txt_f h1
  have p2 : ((st s).toList == [97, 115, 107, 101, 100]) = false := txt_f h2
  have i3 : IntKind.i64.wrap (t + 1) = u := by rw [hu, IntWalk.i64_in _ (by omega)]
  have i4 : IntKind.i64.wrap (y + b) = x := by rw [hx, hy, IntWalk.i64_in _ (by omega)]
  clear h hn hw ha hy hz h1 h2 ht hbb hb hx hu
  go_enter Try.func9, Try.ntmps9
  go_wp2_with fail
  refine (HO.out _).mono ?_
  rintro e w' ⟨rfl, rfl⟩
  go_wp2_with fail
  refine (HK.out _).mono ?_
  rintro e w' ⟨rfl, rfl⟩
  go_wp2
  go_region
  all_goals (go_wp2; refine bodyPost_ret (rstep_ret rfl _ _ rfl rfl true ((((blk_two _ _ _ _).alloc _).alloc _).alloc _) (((blk_three _ _ _ _ _).alloc _).alloc _) rfl) rfl ⟨rfl, below_drew (Below.more (Below.more (Below.more (Below.more (Below.more (Below.refl _ _) (Nat.le_refl _) _) (Nat.le_refl _) _) (Nat.le_refl _) _) (Nat.le_refl _) _) (Nat.le_refl _) _)⟩)

/-- THE CONTRACT OF the document's Step -/
theorem rstep_any (p : Py) (now : Int) (w : World) (hw : Sm now) (ha : Sm p.att) (ht : Sm p.tries) :
    Calls Try.prog 9 #[.agg (cPy p).toArray, .int .i64 now] w fun e w' => e = .returned (.tuple #[.agg (cPy (stepP p now)).toArray, .agg (cRq (stepR p now)).toArray, .bool (!idleB p now)]) ∧ Below w.heap.size w w' := by
  obtain ⟨k, q, c, m, s, n, t, a⟩ := p
  cases ho : overB s with
  | true =>
    have hi : idleB ⟨k, q, c, m, s, n, t, a⟩ now = true := by unfold idleB; simp only; rw [ho]; rfl
    unfold stepP stepR
    rw [hi]
    exact rstep_over k q c m s n t a now w ho
  | false =>
    by_cases hn : now < n
    · have hi : idleB ⟨k, q, c, m, s, n, t, a⟩ now = true := by unfold idleB; simp only; rw [ho, decide_eq_true hn]; rfl
      unfold stepP stepR
      rw [hi]
      exact rstep_wait k q c m s n t a now w ho hn
    · have hi : idleB ⟨k, q, c, m, s, n, t, a⟩ now = false := by unfold idleB; simp only; rw [ho, decide_eq_false hn]; rfl
      unfold stepP stepR
      rw [hi]
      simp only [Bool.false_eq_true, if_false, Bool.not_false]
      by_cases h1 : s = kReady
      · have e : goP ⟨k, q, c, m, s, n, t, a⟩ now = ⟨k, q, c, m, kAsked, now + 2, t, a + 1⟩ := by unfold goP; rw [if_pos h1]
        have e2 : goR ⟨k, q, c, m, s, n, t, a⟩ = (kPay, k, q, c, m, a + 1) := by unfold goR; rw [if_pos h1]
        rw [e, e2]
        exact rstep_ready k q c m s n t a now w ho (by omega) h1 hw ha
      · have e2 : goR ⟨k, q, c, m, s, n, t, a⟩ = (kQuery, k, q, c, m, a + 1) := by unfold goR; rw [if_neg h1]
        rw [e2]
        by_cases h2 : s = kAsked
        · have e : goP ⟨k, q, c, m, s, n, t, a⟩ now = ⟨k, q, c, m, kQueried, now + 2, t, a + 1⟩ := by unfold goP; rw [if_neg h1, if_pos h2]
          rw [e]
          exact rstep_asked k q c m s n t a now w ho (by omega) h2 hw ha
        · have e : goP ⟨k, q, c, m, s, n, t, a⟩ now = ⟨k, q, c, m, s, now + 2 + bkoI t, t + 1, a + 1⟩ := by unfold goP; rw [if_neg h1, if_neg h2]
          rw [e]
          exact rstep_other k q c m s n t a now w ho (by omega) h1 h2 ht hw ha
end Go.Proofs.Ytdahgmkbpiklpaa
