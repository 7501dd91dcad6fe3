/-
  Contracts of attempt's Over, request, putOff.
-/
import Derived.Test.YtdahgmkbpiklpaaAtP
import Derived.BigQuiet
namespace Go.Proofs.Ytdahgmkbpiklpaa
open Go.RowKit Go.Deep Go.Lib

set_option maxHeartbeats 800000 in
theorem over_any (k q c : List UInt8) (m : Int) (s : List UInt8) (n t a : Int) (w : World) :
    Calls Try.prog 12 #[.agg #[.string (st k), .string (st q), .string (st c), .int .i64 m, .string (st s), .int .i64 n, .int .i64 t, .int .i64 a]] w fun e w' => e = .returned (.bool (overB s)) ∧ w' = w.alloc (.cells #[.string (st k), .string (st q), .string (st c), .int .i64 m, .string (st s), .int .i64 n, .int .i64 t, .int .i64 a] 23) := by
  unfold overB
  by_cases h1 : s = kPaid
  · have p1 : ((st s).toList == [112, 97, 105, 100]) = true := txt_t h1
    rw [decide_eq_true h1, Bool.true_or]
    clear h1
    go_enter Try.func12, Try.ntmps12
    go_wp2
    go_ret
    exact ⟨rfl, rfl⟩
  · have p1 : ((st s).toList == [112, 97, 105, 100]) = false := txt_f h1
    rw [decide_eq_false h1, Bool.false_or]
    by_cases h2 : s = kBack
    · have p2 : ((st s).toList == [98, 97, 99, 107]) = true := txt_t h2
      rw [decide_eq_true h2]
      clear h1 h2
      go_enter Try.func12, Try.ntmps12
      go_wp2
      go_ret
      exact ⟨rfl, rfl⟩
    · have p2 : ((st s).toList == [98, 97, 99, 107]) = false := txt_f h2
      rw [decide_eq_false h2]
      clear h1 h2
      go_enter Try.func12, Try.ntmps12
      go_wp2
      go_ret
      exact ⟨rfl, rfl⟩

theorem blk_two (w : World) (o : Obj) (t : TypeId) (cs : Array Value) : Blk ((w.alloc o).alloc (.cells cs t)) (w.heap.size + 1) t cs := by
  have h := Blk.new (w.alloc o) t cs
  have e : (w.alloc o).heap.size = w.heap.size + 1 := by show (w.heap.push o).size = _; simp
  rw [e] at h
  exact h

set_option maxHeartbeats 1600000 in
theorem request_any (k q c : List UInt8) (m : Int) (s : List UInt8) (n t a : Int) (d : List UInt8) (w : World) :
    Calls Try.prog 19 #[.agg #[.string (st k), .string (st q), .string (st c), .int .i64 m, .string (st s), .int .i64 n, .int .i64 t, .int .i64 a], .string (st d)] w fun e w' => e = .returned (.agg #[.string (st d), .string (st k), .string (st q), .string (st c), .int .i64 m, .int .i64 a]) ∧
      w' = (w.alloc (.cells #[.string (st k), .string (st q), .string (st c), .int .i64 m, .string (st s), .int .i64 n, .int .i64 t, .int .i64 a] 23)).alloc (.cells #[.string (st d), .string (st k), .string (st q), .string (st c), .int .i64 m, .int .i64 a] 29) := by
  go_enter Try.func19, Try.ntmps19
  go_wp2
  refine bodyPost_ret (results_cell_row rfl _ _ _ _ _ (0, 0) _ rfl (blk_two _ _ _ _) Try.underlying29 rfl infoReq) rfl ⟨rfl, rfl⟩

set_option maxHeartbeats 1600000 in
theorem putOff_any (k q c : List UInt8) (m : Int) (s : List UInt8) (n t a f : Int) (w : World) (ht : Sm t) (hf : -4611686018427387904 ≤ f ∧ f ≤ 4611686018427387906) :
    Calls Try.prog 18 #[.agg #[.string (st k), .string (st q), .string (st c), .int .i64 m, .string (st s), .int .i64 n, .int .i64 t, .int .i64 a], .int .i64 f] w fun e w' => e = .returned (.agg #[.string (st k), .string (st q), .string (st c), .int .i64 m, .string (st s), .int .i64 (f + bkoI t), .int .i64 (t + 1), .int .i64 a]) ∧
      w' = (w.alloc (.cells #[.string (st k), .string (st q), .string (st c), .int .i64 m, .string (st s), .int .i64 (f + bkoI t), .int .i64 (t + 1), .int .i64 a] 23)).alloc (.cells #[.string (st k), .string (st q), .string (st c), .int .i64 m, .string (st s), .int .i64 (f + bkoI t), .int .i64 (t + 1), .int .i64 a] 23) := by
  have H1 : Hid (∀ W, Calls Try.prog 27 #[.int .i64 t] W fun e w' => e = .returned (.int .i64 (bkoI t)) ∧ W = w') := fun W => backoff_any t W ht.tk
  have hb := bkoI_le t
  unfold Sm at ht
  obtain ⟨y, hy⟩ : ∃ y, y = f + bkoI t := ⟨_, rfl⟩
  obtain ⟨z, hz⟩ : ∃ z, z = t + 1 := ⟨_, rfl⟩
  obtain ⟨b, hbb⟩ : ∃ b, b = bkoI t := ⟨_, rfl⟩
  rw [← hbb] at hy hb H1 ⊢
  rw [← hy, ← hz]
  have i1 : IntKind.i64.wrap (f + b) = y := by rw [hy, IntWalk.i64_in _ (by omega)]
  have i2 : IntKind.i64.wrap (t + 1) = z := by rw [hz, IntWalk.i64_in _ (by omega)]
  clear hbb hy hz hb ht hf
  go_enter Try.func18, Try.ntmps18
  go_wp2_with fail
  refine (H1.out _).mono ?_
  rintro e w' ⟨rfl, rfl⟩
  go_wp2
  refine bodyPost_ret (results_cell_row rfl _ _ _ _ _ (0, 0) _ rfl (blk_two _ _ _ _) Try.underlying23 rfl infoPy) rfl ⟨rfl, rfl⟩
end Go.Proofs.Ytdahgmkbpiklpaa
