/-
  Contract of attempt's Step.
-/
import Derived.Test.YtdahgmkbpiklpaaAtA
import Derived.BigRegion
namespace Go.Proofs.Ytdahgmkbpiklpaa
open Go.RowKit Go.Deep Go.Lib

theorem results_cell2_tmp {fn : Func} {p q u : Tmp} {ty tz : TypeId} (h : fn.results = #[.cell p ty, .cell q tz, .tmp u]) (tmps : Array Value) (P : Program) (w : World) :
    (results fn tmps).run P w =
      ((asAddr (tmps.getD p undef)).run P w).andThen fun a w₁ => ((loadVar ty a).run P w₁).andThen fun v w₂ => ((asAddr (tmps.getD q undef)).run P w₂).andThen fun b w₃ => ((loadVar tz b).run P w₃).andThen fun v2 w₄ => .ok (.tuple #[v, v2, tmps.getD u undef]) w₄ := by
  simp only [results, h]
  simp [Sem.run_bind, Result.andThen]

theorem step_ret {fn : Func} {s1 s2 s3 : Nat} (h : fn.results = #[.cell s1 23, .cell s2 29, .tmp s3]) {tmps : Array Value} {W : World} (g1 g2 : Nat) (hp : tmps.getD s1 undef = .pointer (some ⟨g1, 0, none⟩)) (hq : tmps.getD s2 undef = .pointer (some ⟨g2, 0, none⟩)) {a0 a1 a2 a3 a4 a5 a6 a7 b0 b1 b2 b3 b4 b5 : Value} (b : Bool)
    (hg1 : Blk W g1 23 #[a0, a1, a2, a3, a4, a5, a6, a7]) (hg2 : Blk W g2 29 #[b0, b1, b2, b3, b4, b5]) (hb : tmps.getD s3 undef = .bool b) :
    (results fn tmps).run Try.prog W = .ok (.tuple #[.agg #[a0, a1, a2, a3, a4, a5, a6, a7], .agg #[b0, b1, b2, b3, b4, b5], .bool b]) W := by
  have hp' : tmps[s1]?.getD undef = .pointer (some ⟨g1, 0, none⟩) := by simpa using hp
  have hq' : tmps[s2]?.getD undef = .pointer (some ⟨g2, 0, none⟩) := by simpa using hq
  have hb' : tmps[s3]?.getD undef = .bool b := by simpa using hb
  rw [results_cell2_tmp h]
  simp [hp', hq', hb', asAddr, Result.andThen, run_loadVar_row W g1 23 23 _ _ _ hg1 Try.underlying23 rfl infoPy, run_loadVar_row W g2 29 29 _ _ _ hg2 Try.underlying29 rfl infoReq]

theorem blk_three (w : World) (o o2 : Obj) (t : TypeId) (cs : Array Value) : Blk (((w.alloc o).alloc o2).alloc (.cells cs t)) (w.heap.size + 1 + 1) t cs := by
  have h := blk_two (w.alloc o) o2 t cs
  have e : (w.alloc o).heap.size = w.heap.size + 1 := by show (w.heap.push o).size = _; simp
  rw [e] at h
  exact h
theorem Below.more {B : Nat} {w w' : World} (h : Below B w w') (hB : B ≤ w.heap.size) (o : Obj) : Below B w (w'.alloc o) := h.alloc (Nat.le_trans hB h.size) o
theorem below_drew {B : Nat} {w w' : World} (h : Below B w w') : Below B w w'.drew := ⟨h.os, h.tape, h.output, h.size, h.block⟩

set_option maxHeartbeats 1600000 in
theorem step_over (k q c : List UInt8) (m : Int) (s : List UInt8) (n t a : Int) (now : Int) (w : World) (h : overB s = true) :
    Calls Try.prog 8 #[.agg #[.string (st k), .string (st q), .string (st c), .int .i64 m, .string (st s), .int .i64 n, .int .i64 t, .int .i64 a], .int .i64 now] w fun e w' => e = .returned (.tuple #[.agg #[.string (st k), .string (st q), .string (st c), .int .i64 m, .string (st s), .int .i64 n, .int .i64 t, .int .i64 a], .agg #[.string (st []), .string (st []), .string (st []), .string (st []), .int .i64 0, .int .i64 0], .bool false]) ∧ Below w.heap.size w w' := by
  have HO : Hid (∀ W, Calls Try.prog 12 #[.agg #[.string (st k), .string (st q), .string (st c), .int .i64 m, .string (st s), .int .i64 n, .int .i64 t, .int .i64 a]] W fun e w' => e = .returned (.bool true) ∧ w' = W.alloc (.cells #[.string (st k), .string (st q), .string (st c), .int .i64 m, .string (st s), .int .i64 n, .int .i64 t, .int .i64 a] 23)) := fun W => h ▸ over_any k q c m s n t a W
  clear h
  go_enter Try.func8, Try.ntmps8
  go_wp2_with fail
  refine (HO.out _).mono ?_
  rintro e w' ⟨rfl, rfl⟩
  go_wp2
  refine bodyPost_ret (step_ret rfl _ _ rfl rfl false ((blk_two _ _ _ _).alloc _ |>.alloc _) ((blk_three _ _ _ _ _).alloc _) rfl) rfl ⟨rfl, ?_⟩
  exact Below.more (Below.more (Below.more (Below.more (Below.refl _ _) (Nat.le_refl _) _) (Nat.le_refl _) _) (Nat.le_refl _) _) (Nat.le_refl _) _

set_option maxHeartbeats 1600000 in
theorem step_wait (k q c : List UInt8) (m : Int) (s : List UInt8) (n t a : Int) (now : Int) (w : World) (h : overB s = false) (hn : now < n) :
    Calls Try.prog 8 #[.agg #[.string (st k), .string (st q), .string (st c), .int .i64 m, .string (st s), .int .i64 n, .int .i64 t, .int .i64 a], .int .i64 now] w fun e w' => e = .returned (.tuple #[.agg #[.string (st k), .string (st q), .string (st c), .int .i64 m, .string (st s), .int .i64 n, .int .i64 t, .int .i64 a], .agg #[.string (st []), .string (st []), .string (st []), .string (st []), .int .i64 0, .int .i64 0], .bool false]) ∧ Below w.heap.size w w' := by
  have HO : Hid (∀ W, Calls Try.prog 12 #[.agg #[.string (st k), .string (st q), .string (st c), .int .i64 m, .string (st s), .int .i64 n, .int .i64 t, .int .i64 a]] W fun e w' => e = .returned (.bool false) ∧ w' = W.alloc (.cells #[.string (st k), .string (st q), .string (st c), .int .i64 m, .string (st s), .int .i64 n, .int .i64 t, .int .i64 a] 23)) := fun W => h ▸ over_any k q c m s n t a W
  clear h
  go_enter Try.func8, Try.ntmps8
  go_wp2_with fail
  refine (HO.out _).mono ?_
  rintro e w' ⟨rfl, rfl⟩
  go_wp2
  refine bodyPost_ret (step_ret rfl _ _ rfl rfl false ((blk_two _ _ _ _).alloc _ |>.alloc _) ((blk_three _ _ _ _ _).alloc _) rfl) rfl ⟨rfl, ?_⟩
  exact Below.more (Below.more (Below.more (Below.more (Below.refl _ _) (Nat.le_refl _) _) (Nat.le_refl _) _) (Nat.le_refl _) _) (Nat.le_refl _) _

set_option maxHeartbeats 3200000 in
theorem step_ready (k q c : List UInt8) (m : Int) (s : List UInt8) (n t a : Int) (now : Int) (w : World) (h : overB s = false) (hn : n ≤ now) (hs : s = kReady) (hw : Sm now) (ha : Sm a) :
    Calls Try.prog 8 #[.agg #[.string (st k), .string (st q), .string (st c), .int .i64 m, .string (st s), .int .i64 n, .int .i64 t, .int .i64 a], .int .i64 now] w fun e w' => e = .returned (.tuple #[.agg #[.string (st k), .string (st q), .string (st c), .int .i64 m, .string (st kAsked), .int .i64 (now + 2), .int .i64 t, .int .i64 (a + 1)], .agg #[.string (st kPay), .string (st k), .string (st q), .string (st c), .int .i64 m, .int .i64 (a + 1)], .bool true]) ∧ Below w.heap.size w w' := by
  have HO : Hid (∀ W, Calls Try.prog 12 #[.agg #[.string (st k), .string (st q), .string (st c), .int .i64 m, .string (st s), .int .i64 n, .int .i64 t, .int .i64 a]] W fun e w' => e = .returned (.bool false) ∧ w' = W.alloc (.cells #[.string (st k), .string (st q), .string (st c), .int .i64 m, .string (st s), .int .i64 n, .int .i64 t, .int .i64 a] 23)) := fun W => h ▸ over_any k q c m s n t a W
  have HR : Hid (∀ W, Calls Try.prog 19 #[.agg #[.string (st k), .string (st q), .string (st c), .int .i64 m, .string (st kAsked), .int .i64 (now + 2), .int .i64 t, .int .i64 (a + 1)], .string (st kPay)] W fun e w' => e = .returned (.agg #[.string (st kPay), .string (st k), .string (st q), .string (st c), .int .i64 m, .int .i64 (a + 1)]) ∧ w' = (W.alloc (.cells #[.string (st k), .string (st q), .string (st c), .int .i64 m, .string (st kAsked), .int .i64 (now + 2), .int .i64 t, .int .i64 (a + 1)] 23)).alloc (.cells #[.string (st kPay), .string (st k), .string (st q), .string (st c), .int .i64 m, .int .i64 (a + 1)] 29)) := fun W => request_any k q c m kAsked (now + 2) t (a + 1) kPay W
  have g1 : ¬ now < n := by omega
  unfold Sm at hw ha
  obtain ⟨y, hy⟩ : ∃ y, y = now + 2 := ⟨_, rfl⟩
  obtain ⟨z, hz⟩ : ∃ z, z = a + 1 := ⟨_, rfl⟩
  rw [← hy, ← hz] at HR ⊢
  have i1 : IntKind.i64.wrap (now + 2) = y := by rw [hy, IntWalk.i64_in _ (by omega)]
  have i2 : IntKind.i64.wrap (a + 1) = z := by rw [hz, IntWalk.i64_in _ (by omega)]
  have p1 : ((st s).toList == [114, 101, 97, 100, 121]) = true := txt_t hs
  clear hs
  clear h hn hw ha hy hz
  go_enter Try.func8, Try.ntmps8
  go_wp2_with fail
  refine (HO.out _).mono ?_
  rintro e w' ⟨rfl, rfl⟩
  go_wp2
  go_region_with (first | (go_at_call 19; refine (HR.out _).mono ?_; rintro e w' ⟨rfl, rfl⟩) | fail)
  all_goals (go_wp2; refine bodyPost_ret (step_ret rfl _ _ rfl rfl true ((((Blk.drewN (blk_two _ _ _ _) 0).alloc _).alloc _).alloc _ |>.alloc _) ((((blk_three _ _ _ _ _)).alloc _).alloc _ |>.alloc _) rfl) rfl ⟨rfl, below_drew (Below.more (Below.more (Below.more (Below.more (Below.more (Below.more (Below.refl _ _) (Nat.le_refl _) _) (Nat.le_refl _) _) (Nat.le_refl _) _) (Nat.le_refl _) _) (Nat.le_refl _) _) (Nat.le_refl _) _)⟩)

set_option maxHeartbeats 3200000 in
theorem step_asked (k q c : List UInt8) (m : Int) (s : List UInt8) (n t a : Int) (now : Int) (w : World) (h : overB s = false) (hn : n ≤ now) (hs : s = kAsked) (hw : Sm now) (ha : Sm a) :
    Calls Try.prog 8 #[.agg #[.string (st k), .string (st q), .string (st c), .int .i64 m, .string (st s), .int .i64 n, .int .i64 t, .int .i64 a], .int .i64 now] w fun e w' => e = .returned (.tuple #[.agg #[.string (st k), .string (st q), .string (st c), .int .i64 m, .string (st kQueried), .int .i64 (now + 2), .int .i64 t, .int .i64 (a + 1)], .agg #[.string (st kQuery), .string (st k), .string (st q), .string (st c), .int .i64 m, .int .i64 (a + 1)], .bool true]) ∧ Below w.heap.size w w' := by
  have HO : Hid (∀ W, Calls Try.prog 12 #[.agg #[.string (st k), .string (st q), .string (st c), .int .i64 m, .string (st s), .int .i64 n, .int .i64 t, .int .i64 a]] W fun e w' => e = .returned (.bool false) ∧ w' = W.alloc (.cells #[.string (st k), .string (st q), .string (st c), .int .i64 m, .string (st s), .int .i64 n, .int .i64 t, .int .i64 a] 23)) := fun W => h ▸ over_any k q c m s n t a W
  have HR : Hid (∀ W, Calls Try.prog 19 #[.agg #[.string (st k), .string (st q), .string (st c), .int .i64 m, .string (st kQueried), .int .i64 (now + 2), .int .i64 t, .int .i64 (a + 1)], .string (st kQuery)] W fun e w' => e = .returned (.agg #[.string (st kQuery), .string (st k), .string (st q), .string (st c), .int .i64 m, .int .i64 (a + 1)]) ∧ w' = (W.alloc (.cells #[.string (st k), .string (st q), .string (st c), .int .i64 m, .string (st kQueried), .int .i64 (now + 2), .int .i64 t, .int .i64 (a + 1)] 23)).alloc (.cells #[.string (st kQuery), .string (st k), .string (st q), .string (st c), .int .i64 m, .int .i64 (a + 1)] 29)) := fun W => request_any k q c m kQueried (now + 2) t (a + 1) kQuery W
  have g1 : ¬ now < n := by omega
  unfold Sm at hw ha
  obtain ⟨y, hy⟩ : ∃ y, y = now + 2 := ⟨_, rfl⟩
  obtain ⟨z, hz⟩ : ∃ z, z = a + 1 := ⟨_, rfl⟩
  rw [← hy, ← hz] at HR ⊢
  have i1 : IntKind.i64.wrap (now + 2) = y := by rw [hy, IntWalk.i64_in _ (by omega)]
  have i2 : IntKind.i64.wrap (a + 1) = z := by rw [hz, IntWalk.i64_in _ (by omega)]
  have p1 : ((st s).toList == [114, 101, 97, 100, 121]) = false := txt_f (by rw [hs]; decide)
  have p2 : ((st s).toList == [97, 115, 107, 101, 100]) = true := txt_t hs
  clear hs
  clear h hn hw ha hy hz
  go_enter Try.func8, Try.ntmps8
  go_wp2_with fail
  refine (HO.out _).mono ?_
  rintro e w' ⟨rfl, rfl⟩
  go_wp2
  go_region_with (first | (go_at_call 19; refine (HR.out _).mono ?_; rintro e w' ⟨rfl, rfl⟩) | fail)
  all_goals (go_wp2; refine bodyPost_ret (step_ret rfl _ _ rfl rfl true ((((Blk.drewN (blk_two _ _ _ _) 0).alloc _).alloc _).alloc _ |>.alloc _) ((((blk_three _ _ _ _ _)).alloc _).alloc _ |>.alloc _) rfl) rfl ⟨rfl, below_drew (Below.more (Below.more (Below.more (Below.more (Below.more (Below.more (Below.refl _ _) (Nat.le_refl _) _) (Nat.le_refl _) _) (Nat.le_refl _) _) (Nat.le_refl _) _) (Nat.le_refl _) _) (Nat.le_refl _) _)⟩)

set_option maxHeartbeats 3200000 in
theorem step_other (k q c : List UInt8) (m : Int) (s : List UInt8) (n t a : Int) (now : Int) (w : World) (h : overB s = false) (hn : n ≤ now) (h1 : s ≠ kReady) (h2 : s ≠ kAsked) (hw : Sm now) (ha : Sm a) (ht : Sm t) :
    Calls Try.prog 8 #[.agg #[.string (st k), .string (st q), .string (st c), .int .i64 m, .string (st s), .int .i64 n, .int .i64 t, .int .i64 a], .int .i64 now] w fun e w' => e = .returned (.tuple #[.agg #[.string (st k), .string (st q), .string (st c), .int .i64 m, .string (st s), .int .i64 (now + 2 + bkoI t), .int .i64 (t + 1), .int .i64 (a + 1)], .agg #[.string (st kQuery), .string (st k), .string (st q), .string (st c), .int .i64 m, .int .i64 (a + 1)], .bool true]) ∧ Below w.heap.size w w' := by
  have HO : Hid (∀ W, Calls Try.prog 12 #[.agg #[.string (st k), .string (st q), .string (st c), .int .i64 m, .string (st s), .int .i64 n, .int .i64 t, .int .i64 a]] W fun e w' => e = .returned (.bool false) ∧ w' = W.alloc (.cells #[.string (st k), .string (st q), .string (st c), .int .i64 m, .string (st s), .int .i64 n, .int .i64 t, .int .i64 a] 23)) := fun W => h ▸ over_any k q c m s n t a W
  have HR : Hid (∀ W, Calls Try.prog 19 #[.agg #[.string (st k), .string (st q), .string (st c), .int .i64 m, .string (st s), .int .i64 (now + 2 + bkoI t), .int .i64 (t + 1), .int .i64 (a + 1)], .string (st kQuery)] W fun e w' => e = .returned (.agg #[.string (st kQuery), .string (st k), .string (st q), .string (st c), .int .i64 m, .int .i64 (a + 1)]) ∧ w' = (W.alloc (.cells #[.string (st k), .string (st q), .string (st c), .int .i64 m, .string (st s), .int .i64 (now + 2 + bkoI t), .int .i64 (t + 1), .int .i64 (a + 1)] 23)).alloc (.cells #[.string (st kQuery), .string (st k), .string (st q), .string (st c), .int .i64 m, .int .i64 (a + 1)] 29)) := fun W => request_any k q c m s (now + 2 + bkoI t) (t + 1) (a + 1) kQuery W
  have HP : Hid (∀ W, Calls Try.prog 18 #[.agg #[.string (st k), .string (st q), .string (st c), .int .i64 m, .string (st s), .int .i64 (now + 2), .int .i64 t, .int .i64 (a + 1)], .int .i64 (now + 2)] W fun e w' => e = .returned (.agg #[.string (st k), .string (st q), .string (st c), .int .i64 m, .string (st s), .int .i64 (now + 2 + bkoI t), .int .i64 (t + 1), .int .i64 (a + 1)]) ∧ w' = (W.alloc (.cells #[.string (st k), .string (st q), .string (st c), .int .i64 m, .string (st s), .int .i64 (now + 2 + bkoI t), .int .i64 (t + 1), .int .i64 (a + 1)] 23)).alloc (.cells #[.string (st k), .string (st q), .string (st c), .int .i64 m, .string (st s), .int .i64 (now + 2 + bkoI t), .int .i64 (t + 1), .int .i64 (a + 1)] 23)) := fun W => putOff_any k q c m s (now + 2) t (a + 1) (now + 2) W ht (by unfold Sm at hw; omega)
  have g1 : ¬ now < n := by omega
  have hb := bkoI_le t
  unfold Sm at hw ha
  obtain ⟨x, hx⟩ : ∃ x, x = now + 2 + bkoI t := ⟨_, rfl⟩
  rw [← hx] at HR HP ⊢
  obtain ⟨y, hy⟩ : ∃ y, y = now + 2 := ⟨_, rfl⟩
  obtain ⟨z, hz⟩ : ∃ z, z = a + 1 := ⟨_, rfl⟩
  obtain ⟨u, hu⟩ : ∃ u, u = t + 1 := ⟨_, rfl⟩
  rw [← hz, ← hu] at HR HP ⊢
  rw [← hy] at HP
  have i1 : IntKind.i64.wrap (now + 2) = y := by rw [hy, IntWalk.i64_in _ (by omega)]
  have i2 : IntKind.i64.wrap (a + 1) = z := by rw [hz, IntWalk.i64_in _ (by omega)]
  have p1 : ((st s).toList == [114, 101, 97, 100, 121]) = false := txt_f h1
  have p2 : ((st s).toList == [97, 115, 107, 101, 100]) = false := txt_f h2
  clear h hn hw ha hy hz h1 h2 hx hu hb ht
  go_enter Try.func8, Try.ntmps8
  go_wp2_with fail
  refine (HO.out _).mono ?_
  rintro e w' ⟨rfl, rfl⟩
  go_wp2_with fail
  refine (HP.out _).mono ?_
  rintro e w' ⟨rfl, rfl⟩
  go_wp2
  go_region_with (first | (go_at_call 19; refine (HR.out _).mono ?_; rintro e w' ⟨rfl, rfl⟩) | fail)
  all_goals (go_wp2; refine bodyPost_ret (step_ret rfl _ _ rfl rfl true ((((blk_two _ _ _ _).alloc _).alloc _).alloc _ |>.alloc _ |>.alloc _ |>.alloc _) ((((blk_three _ _ _ _ _)).alloc _).alloc _ |>.alloc _ |>.alloc _ |>.alloc _) rfl) rfl ⟨rfl, below_drew (Below.more (Below.more (Below.more (Below.more (Below.more (Below.more (Below.more (Below.more (Below.refl _ _) (Nat.le_refl _) _) (Nat.le_refl _) _) (Nat.le_refl _) _) (Nat.le_refl _) _) (Nat.le_refl _) _) (Nat.le_refl _) _) (Nat.le_refl _) _) (Nat.le_refl _) _)⟩)

/-- THE CONTRACT OF Step -/
theorem step_any (p : Py) (now : Int) (w : World) (hw : Sm now) (ha : Sm p.att) (ht : Sm p.tries) :
    Calls Try.prog 8 #[.agg (cPy p).toArray, .int .i64 now] w fun e w' => e = .returned (.tuple #[.agg (cPy (stepP p now)).toArray, .agg (cRq (stepR p now)).toArray, .bool (!idleB p now)]) ∧ Below w.heap.size w w' := by
  obtain ⟨k, q, c, m, s, n, t, a⟩ := p
  cases ho : overB s with
  | true =>
    have hi : idleB ⟨k, q, c, m, s, n, t, a⟩ now = true := by unfold idleB; simp only; rw [ho]; rfl
    unfold stepP stepR
    rw [hi]
    exact step_over k q c m s n t a now w ho
  | false =>
    by_cases hn : now < n
    · have hi : idleB ⟨k, q, c, m, s, n, t, a⟩ now = true := by unfold idleB; simp only; rw [ho, decide_eq_true hn]; rfl
      unfold stepP stepR
      rw [hi]
      exact step_wait k q c m s n t a now w ho hn
    · have hi : idleB ⟨k, q, c, m, s, n, t, a⟩ now = false := by unfold idleB; simp only; rw [ho, decide_eq_false hn]; rfl
      unfold stepP stepR
      rw [hi]
      simp only [Bool.false_eq_true, if_false, Bool.not_false]
      by_cases h1 : s = kReady
      · have e : goP ⟨k, q, c, m, s, n, t, a⟩ now = ⟨k, q, c, m, kAsked, now + 2, t, a + 1⟩ := by unfold goP; rw [if_pos h1]
        have e2 : goR ⟨k, q, c, m, s, n, t, a⟩ = (kPay, k, q, c, m, a + 1) := by unfold goR; rw [if_pos h1]
        rw [e, e2]
        exact step_ready k q c m s n t a now w ho (by omega) h1 hw ha
      · have e2 : goR ⟨k, q, c, m, s, n, t, a⟩ = (kQuery, k, q, c, m, a + 1) := by unfold goR; rw [if_neg h1]
        rw [e2]
        by_cases h2 : s = kAsked
        · have e : goP ⟨k, q, c, m, s, n, t, a⟩ now = ⟨k, q, c, m, kQueried, now + 2, t, a + 1⟩ := by unfold goP; rw [if_neg h1, if_pos h2]
          rw [e]
          exact step_asked k q c m s n t a now w ho (by omega) h2 hw ha
        · have e : goP ⟨k, q, c, m, s, n, t, a⟩ now = ⟨k, q, c, m, s, now + 2 + bkoI t, t + 1, a + 1⟩ := by unfold goP; rw [if_neg h1, if_neg h2]
          rw [e]
          exact step_other k q c m s n t a now w ho (by omega) h1 h2 hw ha ht
end Go.Proofs.Ytdahgmkbpiklpaa
