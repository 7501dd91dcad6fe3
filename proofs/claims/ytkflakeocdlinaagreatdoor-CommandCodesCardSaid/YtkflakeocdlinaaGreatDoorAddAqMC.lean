/-
  (The plain part.)
  Contracts of soukref01.Add, Sum, money.Add: what each answers, for all amounts.
-/
import Derived.Test.YtkflakeocdlinaaGreatDoorProg
import Derived.WalkKit
import Derived.WalkLawsBesides
import Derived.Below
import Derived.OpenShut
import Derived.Lib.Hide
namespace Go.Proofs.YtkflakeocdlinaaGreatDoor
open Go.RowKit

/-- An amount. -/
def Amt (n : Int) : Prop := -9223372036854775808 ≤ n ∧ n ≤ 9223372036854775807
instance (n : Int) : Decidable (Amt n) := by unfold Amt; infer_instance

theorem Amt.of_wf {n : Int} (h : (Lit.int .i64 n).wf = true) : Amt n := bounds_i64 h

theorem ret_tuple2 {a b c d : Value} (h : a = c) (h' : b = d) : Ending.returned (.tuple #[a, b]) = .returned (.tuple #[c, d]) := by rw [h, h']
theorem int_eq {k : IntKind} {a b : Int} (h : a = b) : Value.int k a = .int k b := by rw [h]
theorem bool_eq {a b : Bool} (h : a = b) : Value.bool a = .bool b := by rw [h]

/-- a sum that may be none -/
def sumV (a b : Int) : Int := if Amt (a + b) then a + b else 0
def sumB (a b : Int) : Bool := decide (Amt (a + b))

set_option maxHeartbeats 400000 in
theorem rAdd_any (a b : Int) (w : World) (ha : Amt a) (hb : Amt b) :
    Calls Tryz.prog 93 #[.int .i64 a, .int .i64 b] w fun e w' => e = .returned (.tuple #[.int .i64 (sumV a b), .bool (sumB a b)]) ∧ w = w' := by
  unfold Amt at ha hb
  obtain ⟨ha1, ha2⟩ := ha
  obtain ⟨hb1, hb2⟩ := hb
  by_cases h : Amt (a + b)
  · have e1 : sumV a b = a + b := if_pos h
    have e2 : sumB a b = true := decide_eq_true h
    rw [e1, e2]
    clear e1 e2
    unfold Amt at h
    obtain ⟨h1, h2⟩ := h
    rcases Int.lt_trichotomy b 0 with hs | hs | hs
    · go_enter Tryz.func93, Tryz.ntmps93
      go_wp2
      go_ret2
      exact ⟨rfl, rfl⟩
    · subst hs
      go_enter Tryz.func93, Tryz.ntmps93
      go_wp2
      go_ret2
      exact ⟨ret_tuple2 (int_eq (by omega)) rfl, rfl⟩
    · go_enter Tryz.func93, Tryz.ntmps93
      go_wp2
      go_ret2
      exact ⟨rfl, rfl⟩
  · have e1 : sumV a b = 0 := if_neg h
    have e2 : sumB a b = false := decide_eq_false h
    rw [e1, e2]
    clear e1 e2
    unfold Amt at h
    by_cases hs : b < 0
    · have h1 : a + b < -9223372036854775808 := by omega
      clear h
      go_enter Tryz.func93, Tryz.ntmps93
      go_wp2
      go_ret2
      exact ⟨rfl, rfl⟩
    · have h1 : 9223372036854775807 < a + b := by omega
      have hs2 : 0 < b := by omega
      clear h hs
      go_enter Tryz.func93, Tryz.ntmps93
      go_wp2
      go_ret2
      exact ⟨rfl, rfl⟩

/-- the error of an answer that may be none -/
def overE (b : Bool) : Int := if b then 0 else 2

theorem wrap_hi {n : Int} (h1 : 9223372036854775807 < n) (h2 : n ≤ 18446744073709551615) : wrap64 n = n - 18446744073709551616 := by
  unfold wrap64; omega
theorem wrap_lo {n : Int} (h1 : n < -9223372036854775808) (h2 : -18446744073709551616 ≤ n) : wrap64 n = n + 18446744073709551616 := by
  unfold wrap64; omega

/-- A slice of integers that reads as a list (nil and empty let in). -/
def RowI (k : IntKind) (w : World) (a : Option Addr) (zs : List Int) : Prop :=
  0 < zs.length → ∃ b off, a = some ⟨b, off, none⟩ ∧ ∀ i, i < zs.length → w.cell? ⟨b, off + i, none⟩ = some (.int k (zs.getD i 0))

/-- sums on the way -/
def sumTo (s : Int) : List Int → Option Int
  | [] => some s
  | z :: r => if Amt (s + z) then sumTo (s + z) r else none

theorem sumTo_drop {zs : List Int} {k : Nat} (h : k < zs.length) (s : Int) : sumTo s (zs.drop k) = if Amt (s + zs.getD k 0) then sumTo (s + zs.getD k 0) (zs.drop (k + 1)) else none := by
  rw [List.drop_eq_getElem_cons h]
  have : zs.getD k 0 = zs[k] := by simp [h]
  rw [this]
  rfl

def SumAt (zs : List Int) (k : Nat) (s : Int) : Prop := sumTo 0 zs = sumTo s (zs.drop k) ∧ Amt s

set_option maxHeartbeats 400000 in
theorem rSum_any (a : Option Addr) (c : Nat) (zs : List Int) (w : World) (hr : RowI .i64 w a zs) (hz : ∀ z ∈ zs, Amt z) (hl : zs.length ≤ maxLen) :
    Calls Tryz.prog 76 #[.slice a zs.length c] w fun e w' => e = .returned (.tuple #[.int .i64 ((sumTo 0 zs).getD 0), .bool (sumTo 0 zs).isSome]) ∧ w = w' := by
  unfold maxLen at hl
  by_cases h0 : zs = []
  · subst h0
    simp only [List.length_nil]
    go_enter Tryz.func76, Tryz.ntmps76
    go_wp2
    refine wp_loop_rounds 1 ?_
    rw [rounds_succ]
    go_wp2
    go_ret2
    exact ⟨rfl, rfl⟩
  have hp : 0 < zs.length := List.length_pos_iff.mpr h0
  obtain ⟨b, off, rfl, hc⟩ := hr hp
  have HC := Lib.hid hc
  have HZ := Lib.hid hz
  clear hc hz hr h0
  obtain ⟨n, hn⟩ : ∃ n, n = zs.length := ⟨_, rfl⟩
  have HN := Lib.hid hn
  rw [← hn] at hl hp ⊢
  clear hn
  go_enter Tryz.func76, Tryz.ntmps76
  go_wp2
  go_loop [4, 5] (fun t i => ∃ (k : Nat) (s : Int), k ≤ n ∧ i = .int .i64 k ∧ t = .int .i64 s ∧ SumAt zs k s) (fun _ i => n - (intOf i).toNat)
  case atStart => exact ⟨0, 0, Nat.zero_le _, rfl, rfl, rfl, by decide⟩
  case round =>
    obtain ⟨k, s, hk, rfl, rfl, hs⟩ := hrel
    have hN := HN.out
    by_cases hlt : k < n
    · have hcell := HC.out k (by omega)
      have hzk : Amt (zs.getD k 0) := HZ.out _ (by rw [List.getD_eq_getElem?_getD, List.getElem?_eq_getElem (by omega)]; exact List.getElem_mem _)
      have hsd := sumTo_drop (zs := zs) (k := k) (by omega) s
      obtain ⟨z, hz⟩ : ∃ z, z = zs.getD k 0 := ⟨_, rfl⟩
      rw [← hz] at hcell hzk hsd
      obtain ⟨hs1, hs2⟩ := hs
      rw [hsd] at hs1
      clear hsd hz hN
      have HA := Lib.hid (rAdd_any s z w hs2 hzk)
      by_cases ho : Amt (s + z)
      · rw [if_pos ho] at hs1
        have H1 := Lib.hid hs1
        clear hs1
        have HO := Lib.hid ho
        have e1 : sumV s z = s + z := if_pos ho
        have e2 : sumB s z = true := decide_eq_true ho
        rw [e1, e2] at HA
        clear ho e1 e2 hs2 hzk
        go_wp2_with fail
        refine HA.out.mono ?_
        rintro e w' ⟨rfl, rfl⟩
        go_wp2
        go_round
        case rel => exact ⟨k + 1, s + z, by omega, by go_num, rfl, H1.out, HO.out⟩
        case measure => simp [intOf]; omega
      · rw [if_neg ho] at hs1
        have H1 := Lib.hid hs1
        clear hs1
        have e1 : sumV s z = 0 := if_neg ho
        have e2 : sumB s z = false := decide_eq_false ho
        rw [e1, e2] at HA
        clear ho e1 e2 hs2 hzk
        go_wp2_with fail
        refine HA.out.mono ?_
        rintro e w' ⟨rfl, rfl⟩
        go_wp2
        go_ret2
        exact ⟨by rw [H1.out]; rfl, rfl⟩
    · have hkn : k = n := by omega
      have H1 := Lib.hid hs
      clear hs
      have HK := Lib.hid hkn
      clear hkn hN
      go_wp2
      go_ret2
      exact ⟨by rw [H1.out.1, List.drop_of_length_le (by have := HN.out; have := HK.out; omega)]; rfl, rfl⟩
end Go.Proofs.YtkflakeocdlinaaGreatDoor
