/-
  Contracts of part.without, weights, held.
-/
import Derived.Test.YthhcbpimkaahnaaPtB
import Derived.Test.YthhcbpimkaahnaaMsB
namespace Go.Proofs.Ythhcbpimkaahnaa
open Go.RowKit Go.Deep

/-- costs that may be -/
def cstB (A f t h : Int) : Bool := decide (A ≤ 1125899906842624 ∧ 0 ≤ f ∧ 0 ≤ t ∧ 0 ≤ h ∧ h ≤ 10000 ∧ f + t ≤ A)
def wiV (A f t h : Int) : Int := if cstB A f t h then A - f - t else 0
def wiE (A f t h : Int) : Int := if cstB A f t h then 0 else 1
def WiPost (A f t h : Int) (w : World) (e : Ending) (w' : World) : Prop := e = .returned (.tuple #[.int .i64 (wiV A f t h), .int .i64 (wiE A f t h)]) ∧ Below w.heap.size w w'

theorem cst_not {A f t h : Int} (hn : ¬ (A ≤ 1125899906842624 ∧ 0 ≤ f ∧ 0 ≤ t ∧ 0 ≤ h ∧ h ≤ 10000 ∧ f + t ≤ A)) : wiV A f t h = 0 ∧ wiE A f t h = 1 := by
  have e : cstB A f t h = false := decide_eq_false hn
  unfold wiV wiE
  rw [e]
  exact ⟨rfl, rfl⟩
theorem cst_yes {A f t h : Int} (hn : A ≤ 1125899906842624 ∧ 0 ≤ f ∧ 0 ≤ t ∧ 0 ≤ h ∧ h ≤ 10000 ∧ f + t ≤ A) : wiV A f t h = A - f - t ∧ wiE A f t h = 0 := by
  have e : cstB A f t h = true := decide_eq_true hn
  unfold wiV wiE
  rw [e]
  exact ⟨rfl, rfl⟩
theorem cst_get {A f t h : Int} (e : cstB A f t h = true) : A ≤ 1125899906842624 ∧ 0 ≤ f ∧ 0 ≤ t ∧ 0 ≤ h ∧ h ≤ 10000 ∧ f + t ≤ A := of_decide_eq_true e

theorem sumTo_two (f t : Int) (hf : Amt f) : sumTo 0 [f, t] = if Amt (f + t) then some (f + t) else none := by
  unfold sumTo
  rw [Int.zero_add, if_pos hf]
  unfold sumTo
  split
  · rfl
  · rfl

set_option maxHeartbeats 1600000 in
theorem without_any (A f t h k : Int) (w : World) (hA : Amt A) (hf : Amt f) (ht : Amt t) :
    Calls Try.prog 10 #[.int .i64 A, .agg #[.int .i64 f, .int .i64 t, .int .i64 h, .int .i64 k]] w (WiPost A f t h w) := by
  have hb1 : Below w.heap.size w (w.alloc (.cells #[.int .i64 f, .int .i64 t, .int .i64 h, .int .i64 k] 23)) := (Below.refl _ w).alloc (Nat.le_refl _) _
  have HB := Lib.hid hb1
  have bad : ¬ (A ≤ 1125899906842624 ∧ 0 ≤ f ∧ 0 ≤ t ∧ 0 ≤ h ∧ h ≤ 10000 ∧ f + t ≤ A) → ∀ w', Below w.heap.size w w' → Hid (WiPost A f t h w (.returned (.tuple #[.int .i64 0, .int .i64 1])) w') := fun hn w' hb => by
    obtain ⟨e1, e2⟩ := cst_not hn
    show WiPost _ _ _ _ _ _ _
    unfold WiPost
    rw [e1, e2]
    exact ⟨rfl, hb⟩
  have good : A ≤ 1125899906842624 ∧ 0 ≤ f ∧ 0 ≤ t ∧ 0 ≤ h ∧ h ≤ 10000 ∧ f + t ≤ A → ∀ w' x, x = A - (f + t) → Below w.heap.size w w' → Hid (WiPost A f t h w (.returned (.tuple #[.int .i64 x, .int .i64 0])) w') := fun hn w' x hx hb => by
    obtain ⟨e1, e2⟩ := cst_yes hn
    show WiPost _ _ _ _ _ _ _
    unfold WiPost
    rw [e1, e2, hx]
    exact ⟨by rw [show A - (f + t) = A - f - t by omega], hb⟩
  have HGood := Lib.hid good
  have hrow : RowI .i64 ((w.alloc (.cells #[.int .i64 f, .int .i64 t, .int .i64 h, .int .i64 k] 23)).alloc (.cells #[.int .i64 f, .int .i64 t] 2)) (some ⟨w.heap.size + 1, 0, none⟩) [f, t] := fun _ => by
    refine ⟨w.heap.size + 1, 0, rfl, fun i hi => ?_⟩
    have hbk := (Blk.new (w.alloc (.cells #[.int .i64 f, .int .i64 t, .int .i64 h, .int .i64 k] 23)) 2 #[.int .i64 f, .int .i64 t]).cell i
    rw [show (w.alloc (.cells #[.int .i64 f, .int .i64 t, .int .i64 h, .int .i64 k] 23)).heap.size = w.heap.size + 1 by simp] at hbk
    rw [Nat.zero_add, hbk]
    match i, hi with
    | 0, _ => rfl
    | 1, _ => rfl
  have HB2 : Hid (Below w.heap.size w ((w.alloc (.cells #[.int .i64 f, .int .i64 t, .int .i64 h, .int .i64 k] 23)).alloc (.cells #[.int .i64 f, .int .i64 t] 2))) := hb1.alloc hb1.size _
  have hAdd : Calls Try.prog 17 #[.slice (some ⟨w.heap.size + 1, 0, none⟩) 2 2] _ _ := Add_any (some ⟨w.heap.size + 1, 0, none⟩) 2 [f, t] _ hrow (fun z hz => by
    rcases List.mem_cons.1 hz with rfl | hz
    · exact hf
    · rw [List.mem_singleton] at hz; rw [hz]; exact ht) (by simp [maxLen])
  rw [sumTo_two f t hf] at hAdd
  unfold Amt at hA hf ht
  by_cases h1 : 1125899906842624 < A
  · have HX := Lib.hid (bad (by omega) _ hb1)
    clear bad good hb1 hrow hAdd
    go_enter Try.func10, Try.ntmps10
    go_wp2
    go_ret2
    exact HX.out.out
  by_cases h2 : f < 0
  · have HX := Lib.hid (bad (by omega) _ hb1)
    clear bad good hb1 hrow hAdd
    go_enter Try.func10, Try.ntmps10
    go_wp2
    go_ret2
    exact HX.out.out
  by_cases h3 : t < 0
  · have HX := Lib.hid (bad (by omega) _ hb1)
    clear bad good hb1 hrow hAdd
    go_enter Try.func10, Try.ntmps10
    go_wp2
    go_ret2
    exact HX.out.out
  by_cases h4 : h < 0
  · have HX := Lib.hid (bad (by omega) _ hb1)
    clear bad good hb1 hrow hAdd
    go_enter Try.func10, Try.ntmps10
    go_wp2
    go_ret2
    exact HX.out.out
  by_cases h5 : 10000 < h
  · have HX := Lib.hid (bad (by omega) _ hb1)
    clear bad good hb1 hrow hAdd
    go_enter Try.func10, Try.ntmps10
    go_wp2
    go_ret2
    exact HX.out.out
  by_cases h6 : f + t ≤ 9223372036854775807
  · rw [if_pos (show Amt (f + t) by unfold Amt; omega)] at hAdd
    obtain ⟨s, hs⟩ : ∃ s, s = f + t := ⟨_, rfl⟩
    rw [← hs] at hAdd h6
    have HS := Lib.hid hs
    have HA := Lib.hid hAdd
    by_cases h7 : A < s
    · have HX := Lib.hid (bad (by omega) _ HB2.out)
      clear bad good hb1 hrow hAdd hs
      go_enter Try.func10, Try.ntmps10
      go_wp2_with (first | (go_at_call 17; (with_reducible refine HA.out.mono ?_); rintro e w2 ⟨rfl, rfl⟩) | fail)
      go_ret2
      exact HX.out.out
    · have HX := Lib.hid (good (by omega) _ (A - s) (by rw [hs]) HB2.out)
      have hs0 : 0 ≤ s := by omega
      clear bad good hb1 hrow hAdd hs
      go_enter Try.func10, Try.ntmps10
      go_wp2_with (first | (go_at_call 17; (with_reducible refine HA.out.mono ?_); rintro e w2 ⟨rfl, rfl⟩) | fail)
      go_ret2
      exact HX.out.out
  · rw [if_neg (show ¬ Amt (f + t) by unfold Amt; omega)] at hAdd
    have HA := Lib.hid hAdd
    have HX := Lib.hid (bad (by omega) _ HB2.out)
    clear bad good hb1 hrow hAdd
    go_enter Try.func10, Try.ntmps10
    go_wp2_with (first | (go_at_call 17; (with_reducible refine HA.out.mono ?_); rintro e w2 ⟨rfl, rfl⟩) | fail)
    go_ret2
    exact HX.out.out

/-- what is held of a net -/
theorem held_any (N h : Int) (w : World) (hN : Amt N) (hh : Amt h) :
    Calls Try.prog 13 #[.int .i64 N, .int .i64 h] w fun e w' => e = .returned (.int .i64 (mdV N h 10000 0)) ∧ ∃ m, w' = w.drewN m := by
  have H := Lib.hid (mulDiv_any N h 10000 0 w hN hh (by decide) (by decide) (by decide))
  clear hN hh
  go_enter Try.func13, Try.ntmps13
  go_wp2_with fail
  refine H.out.mono ?_
  rintro e w' ⟨rfl, m, rfl⟩
  go_wp2
  go_ret
  exact ⟨rfl, m, rfl⟩

/-- the shares' weights -/
def wts (l : List Sh) : List Int := l.map (·.2)
theorem wts_length (l : List Sh) : (wts l).length = l.length := by simp [wts]
theorem wts_get {l : List Sh} {i : Nat} {s : Sh} (h : l[i]? = some s) : (wts l).getD i 0 = s.2 := by
  unfold wts; rw [List.getD_eq_getElem?_getD, List.getElem?_map, h]; rfl

/-- the shares' weights stand in a new row -/
def WtPost (l : List Sh) (n : Nat) (w : World) (e : Ending) (w' : World) : Prop :=
  ∃ g, e = .returned (.slice (some ⟨g, 0, none⟩) n n) ∧ w.heap.size ≤ g ∧ w'.rowIs g 2 n (fun i => .int .i64 ((wts l).getD i 0)) ∧ Below w.heap.size w w'

/-- the row while the weights are laid down -/
structure WtAt (l : List Sh) (n : Nat) (w wr : World) (k : Nat) : Prop where
  below : Below w.heap.size w wr
  row : wr.rowIs w.heap.size 2 n (fun i => .int .i64 (if i < k then (wts l).getD i 0 else 0))

theorem WtAt.start (l : List Sh) (n : Nat) (w : World) : WtAt l n w (w.alloc (.cells (madeCells #[.int .i64 0] n) 2)) 0 :=
  ⟨(Below.refl _ _).alloc (Nat.le_refl _) _, (World.rowIs_made w _ n _).congr fun i _ => by rw [if_neg (by omega)]⟩
theorem WtAt.step {l : List Sh} {n k : Nat} {w wr : World} {o : Obj} (h : WtAt l n w wr k) : WtAt l n w ((wr.setCell ⟨w.heap.size, k, none⟩ (.int .i64 ((wts l).getD k 0))).alloc o) (k + 1) := by
  refine ⟨(h.below.setCell (Nat.le_refl _) _).alloc (by have := h.below.size; simp [World.setCell]; omega) _, ((h.row.set k _).alloc _).congr fun i hi => ?_⟩
  by_cases e : i = k
  · subst e; simp
  · rw [if_neg e]
    by_cases e2 : i < k
    · rw [if_pos e2, if_pos (by omega)]
    · rw [if_neg e2, if_neg (by omega)]

set_option maxHeartbeats 1600000 in
theorem weights_any (a : Option Addr) (c : Nat) (xs : List Sh) (w : World) (hr : RowG 2 cSh w a xs) (h0 : 0 < xs.length) (h8 : xs.length ≤ 8) :
    Calls Try.prog 12 #[.slice a xs.length c] w (WtPost xs xs.length w) := by
  obtain ⟨n, hn⟩ : ∃ n, n = xs.length := ⟨_, rfl⟩
  have HN := Lib.hid hn
  have HR := Lib.hid hr
  rw [← hn] at h0 h8 ⊢
  clear hn hr
  have hmk := run_make_row' (P := Try.prog) 45 2 (.int .i64 0) 8 Try.underlying45 infoI64 rfl .i64 .i64 n (by omega) (by omega)
  go_enter Try.func12, Try.ntmps12
  go_wp2
  clear hmk
  have HP : Hid (WtAt xs n w _ 0) := WtAt.start xs n w
  obtain ⟨w1, hw1⟩ : ∃ w1, w1 = w.alloc (.cells (madeCells #[.int .i64 0] n) 2) := ⟨_, rfl⟩
  rw [← hw1] at HP ⊢
  clear hw1
  go_loopg [4, 5, 11] n (fun gk _ _ i wr => ∃ k : Nat, k ≤ n ∧ i = .int .i64 k ∧ n - k ≤ gk ∧ Hid (WtAt xs n w wr k))
  case atStart => exact ⟨0, Nat.zero_le _, rfl, by omega, HP⟩
  case round =>
    clear HP
    obtain ⟨k, hk, rfl, hgk, HP⟩ := hrel
    by_cases hlt : k < n
    · obtain ⟨x, hx⟩ : ∃ x, xs[k]? = some x := ⟨_, List.getElem?_eq_getElem (by rw [← HN.out]; exact hlt)⟩
      obtain ⟨p, m⟩ := x
      obtain ⟨b1, off, rfl⟩ := HR.out.form (by rw [← HN.out]; omega)
      have hat := (HR.out.keep HP.out.below).at hx
      have c0 : wr.cell? ⟨b1, off + k * 2, none⟩ = some (.string (st p)) := by simpa using hat 0 _ rfl
      have c1 : wr.cell? ⟨b1, off + k * 2 + 1, none⟩ = some (.int .i64 m) := hat 1 _ rfl
      have f1 := HP.out.row.frozen k
      have c2 := HP.out.row.cell hlt
      rw [if_neg (by omega)] at c2
      have HST : ∀ o, WtAt xs n w ((wr.setCell ⟨w.heap.size, k, none⟩ (.int .i64 m)).alloc o) (k + 1) := fun o => by
        have := HP.out.step (o := o)
        rw [wts_get hx] at this
        exact this
      have HST := Lib.hid HST
      have hkz : (0 : Int) ≤ (k : Int) := by omega
      have hkn : (k : Int) < (n : Int) := by omega
      have hlb := HP.out.row.lt
      have f2 : ∀ o, (wr.alloc o).frozen? ⟨w.heap.size, k, none⟩ = false := fun o => (HP.out.row.alloc o).frozen k
      have c3 : ∀ o, (wr.alloc o).cell? ⟨w.heap.size, k, none⟩ = some (.int .i64 0) := fun o => by
        have := (HP.out.row.alloc o).cell hlt
        rw [if_neg (by omega)] at this
        exact this
      clear hx hat
      go_wp2
      go_roundg (n - (k + 1))
      case measure => omega
      case rel => exact ⟨k + 1, by omega, by go_num, by omega, HST.out _⟩
    · have hkn : ¬ ((k : Int) < (n : Int)) := by omega
      have e : k = n := by omega
      have HRW : Hid (wr.rowIs w.heap.size 2 n (fun i => .int .i64 ((wts xs).getD i 0))) := HP.out.row.congr fun i hi => by rw [if_pos (by omega)]
      clear e
      go_wp2
      go_ret
      exact ⟨w.heap.size, rfl, Nat.le_refl _, HRW.out, HP.out.below⟩
end Go.Proofs.Ythhcbpimkaahnaa
