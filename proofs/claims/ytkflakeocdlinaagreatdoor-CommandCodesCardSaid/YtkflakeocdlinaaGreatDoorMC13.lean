/-
  Contracts of soukref01's bits: at, trim, less, bits.
-/
import Derived.Test.YtkflakeocdlinaaGreatDoorMC02
import Derived.Test.YtkflakeocdlinaaGreatDoorAddAqMC
import Derived.Deep.LoopGhost
import Derived.Outline
import Derived.Laws.Bits64b
namespace Go.Proofs.YtkflakeocdlinaaGreatDoor
open Go.RowKit

/-- v is a slice of bits that reads as bs -/
def WB (w : World) (v : Value) (bs : List Bool) : Prop :=
  ∃ A c, v = .slice A bs.length c ∧ bs.length ≤ c ∧ c ≤ maxLen ∧ (A = none → bs.length = 0 ∧ c = 0) ∧ Cells w A (bs.map Value.bool)

theorem WB.keep {w w' : World} {v : Value} {bs : List Bool} (h : WB w v bs) (hb : Below w.heap.size w w') : WB w' v bs := by
  obtain ⟨A, c, e, h1, h2, h3, h4⟩ := h
  exact ⟨A, c, e, h1, h2, h3, h4.keep hb⟩

theorem bools_at {bs : List Bool} {i : Nat} (h : i < bs.length) : (bs.map Value.bool)[i]? = some (.bool (bs.getD i false)) := by
  simp [h]

theorem Cells.bool {w : World} {A : Option Addr} {bs : List Bool} (h : Cells w A (bs.map Value.bool)) (hp : 0 < bs.length) : ∃ b off, A = some ⟨b, off, none⟩ ∧ ∀ i, i < bs.length → w.cell? ⟨b, off + i, none⟩ = some (.bool (bs.getD i false)) := by
  obtain ⟨b, off, e, hc⟩ := h (by simpa using hp)
  exact ⟨b, off, e, fun i hi => hc i _ (bools_at hi)⟩

theorem WB.nil (w : World) : WB w (.slice none 0 0) [] := ⟨none, 0, rfl, Nat.le_refl _, by simp [maxLen], fun _ => ⟨rfl, rfl⟩, fun h => by simp at h⟩

theorem WB.of_own {w : World} {base : Nat} {v : Value} {bs : List Bool} (h : w.ownsRow base 4 1 v bs.length (bs.map Value.bool)) : WB w v bs := by
  rcases h.2 with ⟨rfl, h0⟩ | ⟨g, cap, cur, rfl, _, _, h1, h2, _⟩
  · obtain rfl : bs = [] := List.eq_nil_of_length_eq_zero h0
    exact WB.nil w
  · exact ⟨_, cap, rfl, h1, h2, fun h => (by cases h), Cells.of_own h⟩

set_option maxHeartbeats 400000 in
theorem at_any (v : Value) (bs : List Bool) (i : Nat) (w : World) (h : WB w v bs) (hi : i ≤ 1000000) (hn : bs.length ≤ 1000000) :
    Calls Tryz.prog 84 #[v, .int .i64 i] w fun e w' => e = .returned (.bool (bs.getD i false)) ∧ w = w' := by
  obtain ⟨A, c, rfl, h1, h2, h3, h4⟩ := h
  by_cases hlt : i < bs.length
  · obtain ⟨b, off, rfl, hc⟩ := h4.bool (by omega)
    have c1 := hc i hlt
    obtain ⟨x, hx⟩ : ∃ x, x = bs.getD i false := ⟨_, rfl⟩
    rw [← hx] at c1 ⊢
    clear hx hc h3 h4
    obtain ⟨n, hn'⟩ : ∃ n, n = bs.length := ⟨_, rfl⟩
    rw [← hn'] at hlt hn h1 ⊢
    clear hn'
    have t1 : decide ((i : Int) < (n : Int)) = true := decide_eq_true (by omega)
    go_enter Tryz.func84, Tryz.ntmps84
    go_wp2
    go_ret
    exact ⟨rfl, rfl⟩
  · rw [getD_past (by omega)]
    obtain ⟨n, hn'⟩ : ∃ n, n = bs.length := ⟨_, rfl⟩
    rw [← hn'] at hlt hn h1 ⊢
    clear hn' h3 h4
    have t1 : decide ((i : Int) < (n : Int)) = false := decide_eq_false (by omega)
    go_enter Tryz.func84, Tryz.ntmps84
    go_wp2
    go_ret
    exact ⟨rfl, rfl⟩

/-- what trim answers: the same row, shorter -/
def TrimPost (w : World) (A : Option Addr) (c : Nat) (bs : List Bool) (e : Ending) (w' : World) : Prop :=
  ∃ k, k ≤ bs.length ∧ e = .returned (.slice A k c) ∧ val (bs.take k) = val bs ∧ Canon (bs.take k) ∧ w = w'

theorem canon_take {bs : List Bool} {k : Nat} (hk : k + 1 ≤ bs.length) (h : bs.getD k false = true) : Canon (bs.take (k + 1)) := by
  right
  have hl : (bs.take (k + 1)).length = k + 1 := by rw [List.length_take]; omega
  rw [hl, Nat.add_sub_cancel, List.getD_eq_getElem?_getD, List.getElem?_take_of_lt (by omega), ← List.getD_eq_getElem?_getD]
  exact h

set_option maxHeartbeats 400000 in
theorem trim_any (A : Option Addr) (c : Nat) (bs : List Bool) (w : World) (h1 : bs.length ≤ c) (h2 : c ≤ maxLen) (h3 : A = none → bs.length = 0 ∧ c = 0) (h4 : Cells w A (bs.map Value.bool)) (hn : bs.length ≤ 1000000) :
    Calls Tryz.prog 83 #[.slice A bs.length c] w (TrimPost w A c bs) := by
  by_cases h0 : bs = []
  · subst h0
    simp only [List.length_nil] at *
    cases A with
    | none =>
      obtain ⟨_, rfl⟩ := h3 rfl
      clear h3 h4 h1 h2
      go_enter Tryz.func83, Tryz.ntmps83
      go_wp2
      refine wp_loop_rounds 1 ?_
      rw [rounds_succ]
      go_wp2
      go_ret
      exact ⟨0, Nat.le_refl _, rfl, rfl, .inl rfl, rfl⟩
    | some ad =>
      clear h3 h4
      unfold maxLen at h2
      go_enter Tryz.func83, Tryz.ntmps83
      go_wp2
      refine wp_loop_rounds 1 ?_
      rw [rounds_succ]
      go_wp2
      go_ret
      exact ⟨0, Nat.le_refl _, rfl, rfl, .inl rfl, rfl⟩
  have hp : 0 < bs.length := List.length_pos_iff.mpr h0
  obtain ⟨b, off, rfl, hc⟩ := h4.bool hp
  have HC := Lib.hid hc
  clear hc h3 h4 h0
  obtain ⟨n, hn'⟩ : ∃ n, n = bs.length := ⟨_, rfl⟩
  have HN := Lib.hid hn'
  rw [← hn'] at hn h1 hp ⊢
  clear hn'
  unfold maxLen at h2
  go_enter Tryz.func83, Tryz.ntmps83
  go_wp2
  go_loop [3] (fun i => ∃ k : Nat, k ≤ n ∧ i = .int .i64 k ∧ Hid (val (bs.take k) = val bs)) (fun i => (intOf i).toNat)
  case atStart => exact ⟨n, Nat.le_refl _, rfl, val_take_past bs n (by have := HN.out; omega)⟩
  case round =>
    obtain ⟨k, hk, rfl, HV⟩ := hrel
    by_cases hk0 : k = 0
    · subst hk0
      go_wp2
      go_ret
      exact ⟨0, Nat.zero_le _, rfl, HV.out, .inl (by simp), rfl⟩
    · obtain ⟨p, rfl⟩ : ∃ p, k = p + 1 := ⟨k - 1, by omega⟩
      have c1 := HC.out p (by have := HN.out; omega)
      have t1 : decide ((0 : Int) < (p : Int) + 1) = true := decide_eq_true (by omega)
      have t2 : decide ((0 : Int) < ((p + 1 : Nat) : Int)) = true := decide_eq_true (by omega)
      clear hk0
      cases hb : bs.getD p false
      · rw [hb] at c1
        have HB := Lib.hid hb
        clear hb
        go_wp2
        go_round
        case rel =>
          refine ⟨p, by omega, by go_num, ?_⟩
          have h := val_take_step bs p
          rw [HB.out] at h
          show _ = _
          rw [← HV.out, h]; simp
        case measure => simp [intOf]
      · rw [hb] at c1
        have HB := Lib.hid hb
        clear hb
        go_wp2
        go_ret
        exact ⟨p + 1, by have := HN.out; omega, rfl, HV.out, canon_take (by have := HN.out; omega) HB.out, rfl⟩

theorem imax (a b : Nat) (h : a ≤ b) : max (a : Int) (b : Int) = b := by omega

set_option maxHeartbeats 800000 in
theorem less_any (v v' : Value) (xs bs : List Bool) (w : World) (h : WB w v xs) (h' : WB w v' bs) (hn : xs.length ≤ 100000) (hn' : bs.length ≤ 100000) :
    Calls Tryz.prog 81 #[v, v'] w fun e w' => e = .returned (.bool (decide (val xs < val bs))) ∧ w = w' := by
  have HA := Lib.hid (fun i (hi : i ≤ 1000000) => at_any v xs i w h hi (by omega))
  have HB := Lib.hid (fun i (hi : i ≤ 1000000) => at_any v' bs i w h' hi (by omega))
  obtain ⟨A, c, rfl, _⟩ := h
  obtain ⟨A', c', rfl, _⟩ := h'
  obtain ⟨n, hn1⟩ : ∃ n, n = xs.length := ⟨_, rfl⟩
  obtain ⟨n', hn2⟩ : ∃ n, n = bs.length := ⟨_, rfl⟩
  have HN := Lib.hid hn1
  have HN' := Lib.hid hn2
  rw [← hn1] at hn HA ⊢
  rw [← hn2] at hn' HB ⊢
  clear hn1 hn2
  rcases Nat.lt_or_ge n n' with hc | hc
  · have hc1 : ((n : Int) < (n' : Int)) := by omega
    go_enter Tryz.func81, Tryz.ntmps81
    go_wp2
    go_loop [6, 7, 8] (fun i _ _ => ∃ k : Nat, k ≤ 100000 ∧ i = .int .i64 ((k : Int) - 1) ∧ Hid (∀ j, k ≤ j → xs.getD j false = bs.getD j false)) (fun i _ _ => (intOf i + 1).toNat)
    case atStart => exact ⟨n', by omega, rfl, fun j hj => by rw [getD_past (by have := HN.out; omega), getD_past (by have := HN'.out; omega)]⟩
    case round =>
      obtain ⟨k, hk, rfl, HJ⟩ := hrel
      by_cases hk0 : k = 0
      · subst hk0
        have t1 : decide ((0 : Int) ≤ ((0 : Nat) : Int) - 1) = false := by decide
        go_wp2
        go_ret
        exact ⟨by rw [less_none HJ.out]; rfl, rfl⟩
      · obtain ⟨p, rfl⟩ : ∃ p, k = p + 1 := ⟨k - 1, by omega⟩
        have H1 := Lib.hid (HA.out p (by omega))
        have H2 := Lib.hid (HB.out p (by omega))
        have e1 : ((p + 1 : Nat) : Int) - 1 = (p : Int) := by omega
        rw [e1]
        clear e1 hk0
        have t1 : decide ((0 : Int) ≤ (p : Int)) = true := decide_eq_true (by omega)
        cases hx : xs.getD p false <;> cases hy : bs.getD p false
        · have HX := Lib.hid hx
          have HY := Lib.hid hy
          rw [hx] at H1
          rw [hy] at H2
          clear hx hy
          go_wp2_with fail
          refine H1.out.mono ?_
          rintro e w' ⟨rfl, rfl⟩
          go_wp2_with fail
          refine H2.out.mono ?_
          rintro e w' ⟨rfl, rfl⟩
          go_wp2
          go_round
          case rel =>
            refine ⟨p, by omega, by go_num, fun j hj => ?_⟩
            by_cases e : j = p
            · rw [e, HX.out, HY.out]
            · exact HJ.out j (by omega)
          case measure => simp [intOf]
        · have HX := Lib.hid hx
          have HY := Lib.hid hy
          rw [hx] at H1
          rw [hy] at H2
          clear hx hy
          go_wp2_with fail
          refine H1.out.mono ?_
          rintro e w' ⟨rfl, rfl⟩
          go_wp2_with fail
          refine H2.out.mono ?_
          rintro e w' ⟨rfl, rfl⟩
          go_wp2
          go_ret
          exact ⟨by rw [less_at (k := p) (fun j hj => HJ.out j hj) (by rw [HX.out, HY.out]; decide), HY.out]; rfl, rfl⟩
        · have HX := Lib.hid hx
          have HY := Lib.hid hy
          rw [hx] at H1
          rw [hy] at H2
          clear hx hy
          go_wp2_with fail
          refine H1.out.mono ?_
          rintro e w' ⟨rfl, rfl⟩
          go_wp2_with fail
          refine H2.out.mono ?_
          rintro e w' ⟨rfl, rfl⟩
          go_wp2
          go_ret
          exact ⟨by rw [less_at (k := p) (fun j hj => HJ.out j hj) (by rw [HX.out, HY.out]; decide), HY.out]; rfl, rfl⟩
        · have HX := Lib.hid hx
          have HY := Lib.hid hy
          rw [hx] at H1
          rw [hy] at H2
          clear hx hy
          go_wp2_with fail
          refine H1.out.mono ?_
          rintro e w' ⟨rfl, rfl⟩
          go_wp2_with fail
          refine H2.out.mono ?_
          rintro e w' ⟨rfl, rfl⟩
          go_wp2
          go_round
          case rel =>
            refine ⟨p, by omega, by go_num, fun j hj => ?_⟩
            by_cases e : j = p
            · rw [e, HX.out, HY.out]
            · exact HJ.out j (by omega)
          case measure => simp [intOf]
  · have hc1 : ¬ ((n : Int) < (n' : Int)) := by omega
    go_enter Tryz.func81, Tryz.ntmps81
    go_wp2
    go_loop [6, 7, 8] (fun i _ _ => ∃ k : Nat, k ≤ 100000 ∧ i = .int .i64 ((k : Int) - 1) ∧ Hid (∀ j, k ≤ j → xs.getD j false = bs.getD j false)) (fun i _ _ => (intOf i + 1).toNat)
    case atStart => exact ⟨n, by omega, rfl, fun j hj => by rw [getD_past (by have := HN.out; omega), getD_past (by have := HN'.out; omega)]⟩
    case round =>
      obtain ⟨k, hk, rfl, HJ⟩ := hrel
      by_cases hk0 : k = 0
      · subst hk0
        have t1 : decide ((0 : Int) ≤ ((0 : Nat) : Int) - 1) = false := by decide
        go_wp2
        go_ret
        exact ⟨by rw [less_none HJ.out]; rfl, rfl⟩
      · obtain ⟨p, rfl⟩ : ∃ p, k = p + 1 := ⟨k - 1, by omega⟩
        have H1 := Lib.hid (HA.out p (by omega))
        have H2 := Lib.hid (HB.out p (by omega))
        have e1 : ((p + 1 : Nat) : Int) - 1 = (p : Int) := by omega
        rw [e1]
        clear e1 hk0
        have t1 : decide ((0 : Int) ≤ (p : Int)) = true := decide_eq_true (by omega)
        cases hx : xs.getD p false <;> cases hy : bs.getD p false
        · have HX := Lib.hid hx
          have HY := Lib.hid hy
          rw [hx] at H1
          rw [hy] at H2
          clear hx hy
          go_wp2_with fail
          refine H1.out.mono ?_
          rintro e w' ⟨rfl, rfl⟩
          go_wp2_with fail
          refine H2.out.mono ?_
          rintro e w' ⟨rfl, rfl⟩
          go_wp2
          go_round
          case rel =>
            refine ⟨p, by omega, by go_num, fun j hj => ?_⟩
            by_cases e : j = p
            · rw [e, HX.out, HY.out]
            · exact HJ.out j (by omega)
          case measure => simp [intOf]
        · have HX := Lib.hid hx
          have HY := Lib.hid hy
          rw [hx] at H1
          rw [hy] at H2
          clear hx hy
          go_wp2_with fail
          refine H1.out.mono ?_
          rintro e w' ⟨rfl, rfl⟩
          go_wp2_with fail
          refine H2.out.mono ?_
          rintro e w' ⟨rfl, rfl⟩
          go_wp2
          go_ret
          exact ⟨by rw [less_at (k := p) (fun j hj => HJ.out j hj) (by rw [HX.out, HY.out]; decide), HY.out]; rfl, rfl⟩
        · have HX := Lib.hid hx
          have HY := Lib.hid hy
          rw [hx] at H1
          rw [hy] at H2
          clear hx hy
          go_wp2_with fail
          refine H1.out.mono ?_
          rintro e w' ⟨rfl, rfl⟩
          go_wp2_with fail
          refine H2.out.mono ?_
          rintro e w' ⟨rfl, rfl⟩
          go_wp2
          go_ret
          exact ⟨by rw [less_at (k := p) (fun j hj => HJ.out j hj) (by rw [HX.out, HY.out]; decide), HY.out]; rfl, rfl⟩
        · have HX := Lib.hid hx
          have HY := Lib.hid hy
          rw [hx] at H1
          rw [hy] at H2
          clear hx hy
          go_wp2_with fail
          refine H1.out.mono ?_
          rintro e w' ⟨rfl, rfl⟩
          go_wp2_with fail
          refine H2.out.mono ?_
          rintro e w' ⟨rfl, rfl⟩
          go_wp2
          go_round
          case rel =>
            refine ⟨p, by omega, by go_num, fun j hj => ?_⟩
            by_cases e : j = p
            · rw [e, HX.out, HY.out]
            · exact HJ.out j (by omega)
          case measure => simp [intOf]
end Go.Proofs.YtkflakeocdlinaaGreatDoor
/-
  Contracts of soukref01's bits, Plus, minus.
-/
namespace Go.Proofs.YtkflakeocdlinaaGreatDoor
open Go.RowKit

/-- a number's bits stand in a row that can be read -/
def WPost (w : World) (N L : Nat) (e : Ending) (w' : World) : Prop := ∃ v bs, e = .returned v ∧ WB w' v bs ∧ val bs = N ∧ bs.length ≤ L ∧ Below w.heap.size w w'

theorem infoBool : (Tryz.prog.info? 4).map (fun i => (i.zero, i.size, i.bytes)) = some (some (.bool false), 1, 1) := by kernel_rfl

/-- an own row of bits, while it grows -/
structure OwnB (w wr : World) (v : Value) (bs : List Bool) : Prop where
  own : wr.ownsRow w.heap.size 4 1 v bs.length (bs.map Value.bool)
  below : Below w.heap.size w wr

theorem OwnB.nil (w : World) : OwnB w w (.slice none 0 0) [] := ⟨World.ownsRow_nil _ _ _ _, Below.refl _ _⟩

theorem OwnB.snoc {w wr w' : World} {v v' : Value} {bs : List Bool} {x : Bool} (h : OwnB w wr v bs) (h1 : w'.ownsRow w.heap.size 4 1 v' (bs.length + 1) (bs.map Value.bool ++ [.bool x])) (h2 : Below w.heap.size wr w') : OwnB w w' v' (bs ++ [x]) :=
  ⟨by simpa using h1, h.below.trans h2⟩

theorem div_pow_succ (N k : Nat) : N / 2 ^ k / 2 = N / 2 ^ (k + 1) := by rw [Nat.div_div_eq_div_mul, Nat.pow_succ]
theorem mod_pow_succ (N k : Nat) : N % 2 ^ k + 2 ^ k * (decide (N / 2 ^ k % 2 = 1)).toNat = N % 2 ^ (k + 1) := by
  rw [Nat.pow_succ, Nat.mod_mul]
  have h : N / 2 ^ k % 2 < 2 := Nat.mod_lt _ (by omega)
  obtain ⟨m, hm⟩ : ∃ m, m = N / 2 ^ k % 2 := ⟨_, rfl⟩
  rw [← hm] at h ⊢
  have : m = 0 ∨ m = 1 := by omega
  rcases this with rfl | rfl <;> simp

theorem u64_and1 (a : Nat) (ha : a < 18446744073709551616) : bits .and .u64 (a : Int) 1 = ((a % 2 : Nat) : Int) := by
  have h := bits_and_u64_nat a 1 ha (by omega)
  rw [nat_mask1] at h
  exact h

theorem pow_big {N k : Nat} (hN : N < 18446744073709551616) (h : 0 < N / 2 ^ k) : k < 64 := by
  have h1 : 2 ^ k ≤ N := by
    rcases Nat.lt_or_ge N (2 ^ k) with hc | hc
    · rw [Nat.div_eq_of_lt hc] at h; omega
    · exact hc
  have h2 : 2 ^ k < 2 ^ 64 := by rw [show (2 : Nat) ^ 64 = 18446744073709551616 from by decide]; omega
  exact (Nat.pow_lt_pow_iff_right (by omega : 1 < 2)).1 h2

def BitsRel (w : World) (N : Nat) (gk : Nat) (v u : Value) (wr : World) : Prop :=
  ∃ (k : Nat) (bs : List Bool), u = .int .u64 ((N / 2 ^ k : Nat) : Int) ∧ bs.length = k ∧ k ≤ 64 ∧ 64 - k ≤ gk ∧ val bs = N % 2 ^ k ∧ OwnB w wr v bs

set_option maxHeartbeats 800000 in
theorem bits_any (a : Int) (w : World) (ha : Amt a) : Calls Tryz.prog 79 #[.int .i64 a] w (WPost w a.natAbs 64) := by
  obtain ⟨N, hN⟩ : ∃ N, N = a.natAbs := ⟨_, rfl⟩
  rw [← hN]
  unfold Amt at ha
  obtain ⟨h1, h2⟩ := ha
  have hNb : N ≤ 9223372036854775808 := by omega
  by_cases hneg : a < 0
  · have z1 : IntKind.u64.wrap (-IntKind.u64.wrap a) = (N : Int) := by simp only [IntKind.wrap_u64]; omega
    clear hN
    go_enter Tryz.func79, Tryz.ntmps79
    go_wp2
    go_loopg [3, 4] 64 (fun gk v u wr => Hid (BitsRel w N gk v u wr))
    case atStart => exact ⟨0, [], by simp, rfl, by omega, Nat.le_refl _, by simp [val, Nat.mod_one], OwnB.nil w⟩
    case round =>
      obtain ⟨k, bs, rfl, hlen, hk, hgk, hv, ho⟩ := hrel.out
      have HV := Lib.hid hv
      have HO := Lib.hid ho
      have HL := Lib.hid hlen
      have HD := Lib.hid (div_pow_succ N k)
      have HM := Lib.hid (mod_pow_succ N k)
      have HP := Lib.hid (fun h => pow_big (N := N) (k := k) (by omega) h)
      have hU : N / 2 ^ k ≤ N := Nat.div_le_self _ _
      clear hrel hv ho hlen
      obtain ⟨U, hU'⟩ : ∃ U, U = N / 2 ^ k := ⟨_, rfl⟩
      have HU := Lib.hid hU'
      rw [← hU'] at HD HM HP hU ⊢
      clear hU'
      by_cases hU0 : 0 < U
      · have hk64 := HP.out hU0
        have t1 : decide ((0 : Int) < (U : Int)) = true := decide_eq_true (by omega)
        have e1 := u64_and1 U (by omega)
        have e2 : (((U % 2 : Nat) : Int) == 1) = decide (U % 2 = 1) := by
          rw [Bool.eq_iff_iff]; simp; omega
        obtain ⟨x, hx⟩ : ∃ x, x = decide (U % 2 = 1) := ⟨_, rfl⟩
        rw [← hx] at e2 HM
        obtain ⟨m, hm⟩ : ∃ m, m = U % 2 := ⟨_, rfl⟩
        rw [← hm] at e1 e2
        clear hx hm
        have hlb : bs.length ≤ 64 := by rw [HL.out]; exact hk
        go_wp2_with (at_builtin; refine wpList_append_one rfl (.tmp 13) (.tmp 17) 123 rfl w.heap.size 4 (.bool false) 1 Tryz.underlying123 infoBool rfl _ (.bool x) rfl _ bs.length (bs.map Value.bool) rfl rfl HO.out.own HO.out.below.size (by unfold maxLen; omega) (by omega) ?_; intro v1 w1 hown1 hbel1)
        have HO1 := Lib.hid (HO.out.snoc hown1 hbel1)
        clear hown1 hbel1 HO
        go_wp2
        go_roundg (gk - 1)
        case measure => omega
        case rel =>
          refine ⟨k + 1, bs ++ [x], ?_, by simp [HL.out], by omega, by omega, by rw [val_snoc, HV.out, HL.out, HM.out], HO1.out⟩
          refine int_eq ?_
          rw [← HD.out]
          exact (Int.natCast_ediv U 2).symm
      · have t1 : decide ((0 : Int) < (U : Int)) = false := decide_eq_false (by omega)
        go_wp2
        go_ret
        refine ⟨_, bs, rfl, WB.of_own HO.out.own, ?_, by rw [HL.out]; exact hk, HO.out.below⟩
        rw [HV.out]
        have h1 := Nat.div_add_mod N (2 ^ k)
        rw [← HU.out, show U = 0 by omega, Nat.mul_zero, Nat.zero_add] at h1
        exact h1
  · have z1 : IntKind.u64.wrap a = (N : Int) := by simp only [IntKind.wrap_u64]; omega
    clear hN
    go_enter Tryz.func79, Tryz.ntmps79
    go_wp2
    go_loopg [3, 4] 64 (fun gk v u wr => Hid (BitsRel w N gk v u wr))
    case atStart => exact ⟨0, [], by simp, rfl, by omega, Nat.le_refl _, by simp [val, Nat.mod_one], OwnB.nil w⟩
    case round =>
      obtain ⟨k, bs, rfl, hlen, hk, hgk, hv, ho⟩ := hrel.out
      have HV := Lib.hid hv
      have HO := Lib.hid ho
      have HL := Lib.hid hlen
      have HD := Lib.hid (div_pow_succ N k)
      have HM := Lib.hid (mod_pow_succ N k)
      have HP := Lib.hid (fun h => pow_big (N := N) (k := k) (by omega) h)
      have hU : N / 2 ^ k ≤ N := Nat.div_le_self _ _
      clear hrel hv ho hlen
      obtain ⟨U, hU'⟩ : ∃ U, U = N / 2 ^ k := ⟨_, rfl⟩
      have HU := Lib.hid hU'
      rw [← hU'] at HD HM HP hU ⊢
      clear hU'
      by_cases hU0 : 0 < U
      · have hk64 := HP.out hU0
        have t1 : decide ((0 : Int) < (U : Int)) = true := decide_eq_true (by omega)
        have e1 := u64_and1 U (by omega)
        have e2 : (((U % 2 : Nat) : Int) == 1) = decide (U % 2 = 1) := by
          rw [Bool.eq_iff_iff]; simp; omega
        obtain ⟨x, hx⟩ : ∃ x, x = decide (U % 2 = 1) := ⟨_, rfl⟩
        rw [← hx] at e2 HM
        obtain ⟨m, hm⟩ : ∃ m, m = U % 2 := ⟨_, rfl⟩
        rw [← hm] at e1 e2
        clear hx hm
        have hlb : bs.length ≤ 64 := by rw [HL.out]; exact hk
        go_wp2_with (at_builtin; refine wpList_append_one rfl (.tmp 13) (.tmp 17) 123 rfl w.heap.size 4 (.bool false) 1 Tryz.underlying123 infoBool rfl _ (.bool x) rfl _ bs.length (bs.map Value.bool) rfl rfl HO.out.own HO.out.below.size (by unfold maxLen; omega) (by omega) ?_; intro v1 w1 hown1 hbel1)
        have HO1 := Lib.hid (HO.out.snoc hown1 hbel1)
        clear hown1 hbel1 HO
        go_wp2
        go_roundg (gk - 1)
        case measure => omega
        case rel =>
          refine ⟨k + 1, bs ++ [x], ?_, by simp [HL.out], by omega, by omega, by rw [val_snoc, HV.out, HL.out, HM.out], HO1.out⟩
          refine int_eq ?_
          rw [← HD.out]
          exact (Int.natCast_ediv U 2).symm
      · have t1 : decide ((0 : Int) < (U : Int)) = false := decide_eq_false (by omega)
        go_wp2
        go_ret
        refine ⟨_, bs, rfl, WB.of_own HO.out.own, ?_, by rw [HL.out]; exact hk, HO.out.below⟩
        rw [HV.out]
        have h1 := Nat.div_add_mod N (2 ^ k)
        rw [← HU.out, show U = 0 by omega, Nat.mul_zero, Nat.zero_add] at h1
        exact h1
end Go.Proofs.YtkflakeocdlinaaGreatDoor
