/-
  Contracts of soukref01's bits, Plus, minus.
-/
import Derived.Test.YtkflakeocdlinaaGreatDoorWideAMP
namespace Go.Proofs.YtkflakeocdlinaaGreatDoor
open Go.RowKit

/-- a number's bits stand in a row that can be read -/
def WPost (w : World) (N L : Nat) (e : Ending) (w' : World) : Prop := ∃ v bs, e = .returned v ∧ WB w' v bs ∧ val bs = N ∧ bs.length ≤ L ∧ Below w.heap.size w w'

theorem infoBool : (Tryz.prog.info? 4).map (fun i => (i.zero, i.size, i.bytes)) = some (some (.bool false), 1, 1) := by kernel_rfl

/-- an own row of bits, while it grows -/
structure OwnB (w wr : World) (v : Value) (bs : List Bool) : Prop where
  own : wr.ownsRow w.heap.size 4 1 v bs.length (bs.map Value.bool)
  below : Below w.heap.size w wr

theorem OwnB.nil (w : World) : OwnB w w (.slice none 0 0) [] := ⟨World.ownsRow_nil _ _ _ _, Below.refl _ _⟩

theorem OwnB.snoc {w wr w' : World} {v v' : Value} {bs : List Bool} {x : Bool} (h : OwnB w wr v bs) (h1 : w'.ownsRow w.heap.size 4 1 v' (bs.length + 1) (bs.map Value.bool ++ [.bool x])) (h2 : Below w.heap.size wr w') : OwnB w w' v' (bs ++ [x]) :=
  ⟨by simpa using h1, h.below.trans h2⟩

theorem div_pow_succ (N k : Nat) : N / 2 ^ k / 2 = N / 2 ^ (k + 1) := by rw [Nat.div_div_eq_div_mul, Nat.pow_succ]
theorem mod_pow_succ (N k : Nat) : N % 2 ^ k + 2 ^ k * (decide (N / 2 ^ k % 2 = 1)).toNat = N % 2 ^ (k + 1) := by
  rw [Nat.pow_succ, Nat.mod_mul]
  have h : N / 2 ^ k % 2 < 2 := Nat.mod_lt _ (by omega)
  obtain ⟨m, hm⟩ : ∃ m, m = N / 2 ^ k % 2 := ⟨_, rfl⟩
  rw [← hm] at h ⊢
  have : m = 0 ∨ m = 1 := by omega
  rcases this with rfl | rfl <;> simp

theorem u64_and1 (a : Nat) (ha : a < 18446744073709551616) : bits .and .u64 (a : Int) 1 = ((a % 2 : Nat) : Int) := by
  have h := bits_and_u64_nat a 1 ha (by omega)
  rw [nat_mask1] at h
  exact h

theorem pow_big {N k : Nat} (hN : N < 18446744073709551616) (h : 0 < N / 2 ^ k) : k < 64 := by
  have h1 : 2 ^ k ≤ N := by
    rcases Nat.lt_or_ge N (2 ^ k) with hc | hc
    · rw [Nat.div_eq_of_lt hc] at h; omega
    · exact hc
  have h2 : 2 ^ k < 2 ^ 64 := by rw [show (2 : Nat) ^ 64 = 18446744073709551616 from by decide]; omega
  exact (Nat.pow_lt_pow_iff_right (by omega : 1 < 2)).1 h2

def BitsRel (w : World) (N : Nat) (gk : Nat) (v u : Value) (wr : World) : Prop :=
  ∃ (k : Nat) (bs : List Bool), u = .int .u64 ((N / 2 ^ k : Nat) : Int) ∧ bs.length = k ∧ k ≤ 64 ∧ 64 - k ≤ gk ∧ val bs = N % 2 ^ k ∧ OwnB w wr v bs

set_option maxHeartbeats 800000 in
theorem bits_any (a : Int) (w : World) (ha : Amt a) : Calls Tryz.prog 79 #[.int .i64 a] w (WPost w a.natAbs 64) := by
  obtain ⟨N, hN⟩ : ∃ N, N = a.natAbs := ⟨_, rfl⟩
  rw [← hN]
  unfold Amt at ha
  obtain ⟨h1, h2⟩ := ha
  have hNb : N ≤ 9223372036854775808 := by omega
  by_cases hneg : a < 0
  · have z1 : IntKind.u64.wrap (-IntKind.u64.wrap a) = (N : Int) := by simp only [IntKind.wrap_u64]; omega
    clear hN
    go_enter Tryz.func79, Tryz.ntmps79
    go_wp2
    go_loopg [3, 4] 64 (fun gk v u wr => Hid (BitsRel w N gk v u wr))
    case atStart => exact ⟨0, [], by simp, rfl, by omega, Nat.le_refl _, by simp [val, Nat.mod_one], OwnB.nil w⟩
    case round =>
      obtain ⟨k, bs, rfl, hlen, hk, hgk, hv, ho⟩ := hrel.out
      have HV := Lib.hid hv
      have HO := Lib.hid ho
      have HL := Lib.hid hlen
      have HD := Lib.hid (div_pow_succ N k)
      have HM := Lib.hid (mod_pow_succ N k)
      have HP := Lib.hid (fun h => pow_big (N := N) (k := k) (by omega) h)
      have hU : N / 2 ^ k ≤ N := Nat.div_le_self _ _
      clear hrel hv ho hlen
      obtain ⟨U, hU'⟩ : ∃ U, U = N / 2 ^ k := ⟨_, rfl⟩
      have HU := Lib.hid hU'
      rw [← hU'] at HD HM HP hU ⊢
      clear hU'
      by_cases hU0 : 0 < U
      · have hk64 := HP.out hU0
        have t1 : decide ((0 : Int) < (U : Int)) = true := decide_eq_true (by omega)
        have e1 := u64_and1 U (by omega)
        have e2 : (((U % 2 : Nat) : Int) == 1) = decide (U % 2 = 1) := by
          rw [Bool.eq_iff_iff]; simp; omega
        obtain ⟨x, hx⟩ : ∃ x, x = decide (U % 2 = 1) := ⟨_, rfl⟩
        rw [← hx] at e2 HM
        obtain ⟨m, hm⟩ : ∃ m, m = U % 2 := ⟨_, rfl⟩
        rw [← hm] at e1 e2
        clear hx hm
        have hlb : bs.length ≤ 64 := by rw [HL.out]; exact hk
        go_wp2_with (at_builtin; refine wpList_append_one rfl (.tmp 13) (.tmp 17) 123 rfl w.heap.size 4 (.bool false) 1 Tryz.underlying123 infoBool rfl _ (.bool x) rfl _ bs.length (bs.map Value.bool) rfl rfl HO.out.own HO.out.below.size (by unfold maxLen; omega) (by omega) ?_; intro v1 w1 hown1 hbel1)
        have HO1 := Lib.hid (HO.out.snoc hown1 hbel1)
        clear hown1 hbel1 HO
        go_wp2
        go_roundg (gk - 1)
        case measure => omega
        case rel =>
          refine ⟨k + 1, bs ++ [x], ?_, by simp [HL.out], by omega, by omega, by rw [val_snoc, HV.out, HL.out, HM.out], HO1.out⟩
          refine int_eq ?_
          rw [← HD.out]
          exact (Int.natCast_ediv U 2).symm
      · have t1 : decide ((0 : Int) < (U : Int)) = false := decide_eq_false (by omega)
        go_wp2
        go_ret
        refine ⟨_, bs, rfl, WB.of_own HO.out.own, ?_, by rw [HL.out]; exact hk, HO.out.below⟩
        rw [HV.out]
        have h1 := Nat.div_add_mod N (2 ^ k)
        rw [← HU.out, show U = 0 by omega, Nat.mul_zero, Nat.zero_add] at h1
        exact h1
  · have z1 : IntKind.u64.wrap a = (N : Int) := by simp only [IntKind.wrap_u64]; omega
    clear hN
    go_enter Tryz.func79, Tryz.ntmps79
    go_wp2
    go_loopg [3, 4] 64 (fun gk v u wr => Hid (BitsRel w N gk v u wr))
    case atStart => exact ⟨0, [], by simp, rfl, by omega, Nat.le_refl _, by simp [val, Nat.mod_one], OwnB.nil w⟩
    case round =>
      obtain ⟨k, bs, rfl, hlen, hk, hgk, hv, ho⟩ := hrel.out
      have HV := Lib.hid hv
      have HO := Lib.hid ho
      have HL := Lib.hid hlen
      have HD := Lib.hid (div_pow_succ N k)
      have HM := Lib.hid (mod_pow_succ N k)
      have HP := Lib.hid (fun h => pow_big (N := N) (k := k) (by omega) h)
      have hU : N / 2 ^ k ≤ N := Nat.div_le_self _ _
      clear hrel hv ho hlen
      obtain ⟨U, hU'⟩ : ∃ U, U = N / 2 ^ k := ⟨_, rfl⟩
      have HU := Lib.hid hU'
      rw [← hU'] at HD HM HP hU ⊢
      clear hU'
      by_cases hU0 : 0 < U
      · have hk64 := HP.out hU0
        have t1 : decide ((0 : Int) < (U : Int)) = true := decide_eq_true (by omega)
        have e1 := u64_and1 U (by omega)
        have e2 : (((U % 2 : Nat) : Int) == 1) = decide (U % 2 = 1) := by
          rw [Bool.eq_iff_iff]; simp; omega
        obtain ⟨x, hx⟩ : ∃ x, x = decide (U % 2 = 1) := ⟨_, rfl⟩
        rw [← hx] at e2 HM
        obtain ⟨m, hm⟩ : ∃ m, m = U % 2 := ⟨_, rfl⟩
        rw [← hm] at e1 e2
        clear hx hm
        have hlb : bs.length ≤ 64 := by rw [HL.out]; exact hk
        go_wp2_with (at_builtin; refine wpList_append_one rfl (.tmp 13) (.tmp 17) 123 rfl w.heap.size 4 (.bool false) 1 Tryz.underlying123 infoBool rfl _ (.bool x) rfl _ bs.length (bs.map Value.bool) rfl rfl HO.out.own HO.out.below.size (by unfold maxLen; omega) (by omega) ?_; intro v1 w1 hown1 hbel1)
        have HO1 := Lib.hid (HO.out.snoc hown1 hbel1)
        clear hown1 hbel1 HO
        go_wp2
        go_roundg (gk - 1)
        case measure => omega
        case rel =>
          refine ⟨k + 1, bs ++ [x], ?_, by simp [HL.out], by omega, by omega, by rw [val_snoc, HV.out, HL.out, HM.out], HO1.out⟩
          refine int_eq ?_
          rw [← HD.out]
          exact (Int.natCast_ediv U 2).symm
      · have t1 : decide ((0 : Int) < (U : Int)) = false := decide_eq_false (by omega)
        go_wp2
        go_ret
        refine ⟨_, bs, rfl, WB.of_own HO.out.own, ?_, by rw [HL.out]; exact hk, HO.out.below⟩
        rw [HV.out]
        have h1 := Nat.div_add_mod N (2 ^ k)
        rw [← HU.out, show U = 0 by omega, Nat.mul_zero, Nat.zero_add] at h1
        exact h1
end Go.Proofs.YtkflakeocdlinaaGreatDoor
