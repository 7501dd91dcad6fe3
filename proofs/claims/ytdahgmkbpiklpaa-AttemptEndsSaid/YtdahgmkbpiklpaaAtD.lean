/-
  Contract of attempt's Hear.
-/
import Derived.Test.YtdahgmkbpiklpaaAtC
import Derived.BigRegion
import Derived.Laws.StructEq
namespace Go.Proofs.Ytdahgmkbpiklpaa
open Go.RowKit Go.Deep Go.Lib

theorem hear_ret {fn : Func} {s1 s3 : Nat} (h : fn.results = #[.cell s1 23, .tmp s3]) {tmps : Array Value} {W : World} (g1 : Nat) (hp : tmps.getD s1 undef = .pointer (some ⟨g1, 0, none⟩)) {a0 a1 a2 a3 a4 a5 a6 a7 : Value} (b : Bool)
    (hg1 : Blk W g1 23 #[a0, a1, a2, a3, a4, a5, a6, a7]) (hb : tmps.getD s3 undef = .bool b) :
    (results fn tmps).run Try.prog W = .ok (.tuple #[.agg #[a0, a1, a2, a3, a4, a5, a6, a7], .bool b]) W := by
  have hp' : tmps[s1]?.getD undef = .pointer (some ⟨g1, 0, none⟩) := by simpa using hp
  have hb' : tmps[s3]?.getD undef = .bool b := by simpa using hb
  rw [results_cell_tmp h]
  simp [hp', hb', asAddr, Result.andThen, run_loadVar_row W g1 23 23 _ _ _ hg1 Try.underlying23 rfl infoPy]

set_option maxHeartbeats 3200000 in
theorem hear_same (k q c : List UInt8) (m : Int) (s : List UInt8) (n t a : Int) (d : List UInt8) (b now : Int) (w : World) (HC : Hid (∀ W, Calls Try.prog 21 #[.agg #[.string (st k), .string (st q), .string (st c), .int .i64 m, .string (st s), .int .i64 n, .int .i64 t, .int .i64 a], .string (st d), .int .i64 b, .int .i64 now] W fun e w' => e = .returned (.agg #[.string (st k), .string (st q), .string (st c), .int .i64 m, .string (st s), .int .i64 n, .int .i64 t, .int .i64 a]) ∧ w' = ((W.alloc (.cells #[.string (st k), .string (st q), .string (st c), .int .i64 m, .string (st s), .int .i64 n, .int .i64 t, .int .i64 a] 23)).alloc (.cells #[.string (st k), .string (st q), .string (st c), .int .i64 m, .string (st s), .int .i64 n, .int .i64 t, .int .i64 a] 23)).alloc (.cells #[.string (st k), .string (st q), .string (st c), .int .i64 m, .string (st s), .int .i64 n, .int .i64 t, .int .i64 a] 23))) :
    Calls Try.prog 10 #[.agg #[.string (st k), .string (st q), .string (st c), .int .i64 m, .string (st s), .int .i64 n, .int .i64 t, .int .i64 a], .string (st d), .int .i64 b, .int .i64 now] w fun e w' => e = .returned (.tuple #[.agg #[.string (st k), .string (st q), .string (st c), .int .i64 m, .string (st s), .int .i64 n, .int .i64 t, .int .i64 a], .bool false]) ∧ Below w.heap.size w w' := by
  go_enter Try.func10, Try.ntmps10
  go_wp2_with fail
  refine (HC.out _).mono ?_
  rintro e w1 ⟨rfl, rfl⟩
  go_wp2
  go_region
  all_goals (go_wp2; refine bodyPost_ret (hear_ret rfl _ rfl false (((((blk_two _ _ _ _).alloc _).alloc _).alloc _).alloc _) rfl) rfl ⟨rfl, below_drew (Below.more (Below.more (Below.more (Below.more (Below.more (Below.more (Below.refl _ _) (Nat.le_refl _) _) (Nat.le_refl _) _) (Nat.le_refl _) _) (Nat.le_refl _) _) (Nat.le_refl _) _) (Nat.le_refl _) _)⟩)

set_option maxHeartbeats 3200000 in
theorem hear_diff (k q c : List UInt8) (m : Int) (s : List UInt8) (n t a : Int) (d : List UInt8) (b now : Int) (w : World) (s2 : List UInt8) (HC : Hid (∀ W, Calls Try.prog 21 #[.agg #[.string (st k), .string (st q), .string (st c), .int .i64 m, .string (st s), .int .i64 n, .int .i64 t, .int .i64 a], .string (st d), .int .i64 b, .int .i64 now] W fun e w' => e = .returned (.agg #[.string (st k), .string (st q), .string (st c), .int .i64 m, .string (st s2), .int .i64 n, .int .i64 t, .int .i64 a]) ∧ w' = ((W.alloc (.cells #[.string (st k), .string (st q), .string (st c), .int .i64 m, .string (st s2), .int .i64 n, .int .i64 t, .int .i64 a] 23)).alloc (.cells #[.string (st k), .string (st q), .string (st c), .int .i64 m, .string (st s2), .int .i64 n, .int .i64 t, .int .i64 a] 23)).alloc (.cells #[.string (st k), .string (st q), .string (st c), .int .i64 m, .string (st s), .int .i64 n, .int .i64 t, .int .i64 a] 23))) (hs : s2 ≠ s) :
    Calls Try.prog 10 #[.agg #[.string (st k), .string (st q), .string (st c), .int .i64 m, .string (st s), .int .i64 n, .int .i64 t, .int .i64 a], .string (st d), .int .i64 b, .int .i64 now] w fun e w' => e = .returned (.tuple #[.agg #[.string (st k), .string (st q), .string (st c), .int .i64 m, .string (st s2), .int .i64 n, .int .i64 t, .int .i64 a], .bool true]) ∧ Below w.heap.size w w' := by
  have p1 := st_neb hs
  clear hs
  go_enter Try.func10, Try.ntmps10
  go_wp2_with fail
  refine (HC.out _).mono ?_
  rintro e w1 ⟨rfl, rfl⟩
  go_wp2
  go_region
  all_goals (go_wp2; refine bodyPost_ret (hear_ret rfl _ rfl true (((((blk_two _ _ _ _).alloc _).alloc _).alloc _).alloc _) rfl) rfl ⟨rfl, below_drew (Below.more (Below.more (Below.more (Below.more (Below.more (Below.more (Below.refl _ _) (Nat.le_refl _) _) (Nat.le_refl _) _) (Nat.le_refl _) _) (Nat.le_refl _) _) (Nat.le_refl _) _) (Nat.le_refl _) _)⟩)

set_option maxHeartbeats 3200000 in
theorem hear_redo (k q c : List UInt8) (m : Int) (s : List UInt8) (n t a : Int) (d : List UInt8) (b now : Int) (w : World) (s2 : List UInt8) (n2 t2 : Int) (HC : Hid (∀ W, Calls Try.prog 21 #[.agg #[.string (st k), .string (st q), .string (st c), .int .i64 m, .string (st s), .int .i64 n, .int .i64 t, .int .i64 a], .string (st d), .int .i64 b, .int .i64 now] W fun e w' => e = .returned (.agg #[.string (st k), .string (st q), .string (st c), .int .i64 m, .string (st s2), .int .i64 n2, .int .i64 t2, .int .i64 a]) ∧ w' = ((((W.alloc (.cells #[.string (st k), .string (st q), .string (st c), .int .i64 m, .string (st s2), .int .i64 n2, .int .i64 t2, .int .i64 a] 23)).alloc (.cells #[.string (st k), .string (st q), .string (st c), .int .i64 m, .string (st s2), .int .i64 n2, .int .i64 t2, .int .i64 a] 23)).alloc (.cells #[.string (st k), .string (st q), .string (st c), .int .i64 m, .string (st s), .int .i64 n, .int .i64 t, .int .i64 a] 23)).alloc (.cells #[.string (st k), .string (st q), .string (st c), .int .i64 m, .string (st s2), .int .i64 n2, .int .i64 t2, .int .i64 a] 23)).alloc (.cells #[.string (st k), .string (st q), .string (st c), .int .i64 m, .string (st s2), .int .i64 n2, .int .i64 t2, .int .i64 a] 23))) (hs : s2 ≠ s) :
    Calls Try.prog 10 #[.agg #[.string (st k), .string (st q), .string (st c), .int .i64 m, .string (st s), .int .i64 n, .int .i64 t, .int .i64 a], .string (st d), .int .i64 b, .int .i64 now] w fun e w' => e = .returned (.tuple #[.agg #[.string (st k), .string (st q), .string (st c), .int .i64 m, .string (st s2), .int .i64 n2, .int .i64 t2, .int .i64 a], .bool true]) ∧ Below w.heap.size w w' := by
  have p1 := st_neb hs
  clear hs
  go_enter Try.func10, Try.ntmps10
  go_wp2_with fail
  refine (HC.out _).mono ?_
  rintro e w1 ⟨rfl, rfl⟩
  go_wp2
  go_region
  all_goals (go_wp2; refine bodyPost_ret (hear_ret rfl _ rfl true (((((((blk_two _ _ _ _).alloc _).alloc _).alloc _).alloc _).alloc _).alloc _) rfl) rfl ⟨rfl, below_drew (Below.more (Below.more (Below.more (Below.more (Below.more (Below.more (Below.more (Below.more (Below.refl _ _) (Nat.le_refl _) _) (Nat.le_refl _) _) (Nat.le_refl _) _) (Nat.le_refl _) _) (Nat.le_refl _) _) (Nat.le_refl _) _) (Nat.le_refl _) _) (Nat.le_refl _) _)⟩)

theorem over_no {s : List UInt8} (h : overB s = false) : kPaid ≠ s ∧ kBack ≠ s := by
  unfold overB at h
  rw [Bool.or_eq_false_iff, decide_eq_false_iff_not, decide_eq_false_iff_not] at h
  exact ⟨fun e => h.1 e.symm, fun e => h.2 e.symm⟩

/-- THE CONTRACT OF Hear -/
theorem hear_any (p : Py) (d : List UInt8) (b now : Int) (w : World) (hw : Sm now) (ht : Sm p.tries) :
    Calls Try.prog 10 #[.agg (cPy p).toArray, .string (st d), .int .i64 b, .int .i64 now] w fun e w' => e = .returned (.tuple #[.agg (cPy (hearP p d b now)).toArray, .bool (hearB p d b)]) ∧ Below w.heap.size w w' := by
  obtain ⟨k, q, c, m, s, n, t, a⟩ := p
  unfold hearP hearB redoB
  simp only
  cases ho : overB s with
  | true => exact hear_same k q c m s n t a d b now w (fun W => behind_over k q c m s n t a d b now W ho)
  | false =>
    obtain ⟨n1, n2⟩ := over_no ho
    simp only [Bool.false_eq_true, if_false, Bool.not_false, Bool.true_and]
    by_cases h1 : d = kAcc
    · rw [if_pos h1, decide_eq_true h1]; exact hear_diff k q c m s n t a d b now w kPaid (fun W => behind_acc k q c m s n t a d b now W ho h1) n1
    rw [if_neg h1, decide_eq_false h1]
    by_cases h2 : d = kDec
    · rw [if_pos h2, decide_eq_true h2]; exact hear_diff k q c m s n t a d b now w kBack (fun W => behind_dec k q c m s n t a d b now W ho h2) n2
    rw [if_neg h2, decide_eq_false h2]
    by_cases h3 : d = kUnk
    · rw [decide_eq_true h3, Bool.true_and]
      by_cases h4 : s = kQueried
      · rw [decide_eq_true h4, Bool.true_and]
        by_cases h5 : a = b
        · rw [decide_eq_true h5]; exact hear_redo k q c m s n t a d b now w kReady _ _ (fun W => behind_redo k q c m s n t a d b now W ho h3 h4 h5 hw ht) (by rw [h4]; decide)
        · rw [decide_eq_false h5]; exact hear_same k q c m s n t a d b now w (fun W => behind_att k q c m s n t a d b now W ho h3 h4 h5)
      · rw [decide_eq_false h4, Bool.false_and]; exact hear_same k q c m s n t a d b now w (fun W => behind_state k q c m s n t a d b now W ho h3 h4)
    · rw [decide_eq_false h3, Bool.false_and]; exact hear_same k q c m s n t a d b now w (fun W => behind_kind k q c m s n t a d b now W ho h1 h2 h3)
end Go.Proofs.Ytdahgmkbpiklpaa
