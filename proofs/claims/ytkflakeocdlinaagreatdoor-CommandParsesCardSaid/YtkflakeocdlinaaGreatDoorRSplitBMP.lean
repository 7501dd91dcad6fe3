/-
  Contract of the document's Split where no weight is below 0, and something is wrong.
-/
import Derived.Test.YtkflakeocdlinaaGreatDoorRSplitAMP
namespace Go.Proofs.YtkflakeocdlinaaGreatDoor
open Go.RowKit

theorem splitErr_neg {T : Int} {ws : List Int} (h : T < 0) : splitErr T ws = 1 := if_pos (.inl h)
theorem splitErr_pos {T : Int} {ws : List Int} (h : ¬ T < 0) (hA : anyNeg ws = false) : splitErr T ws = match sumTo 0 ws with | none => 2 | some s => if s = 0 then 1 else 0 := if_neg (by simp [h, hA])

/-- the head of the document's Split: the weights are looked at one by one -/
def HeadRel (n : Nat) (i : Value) : Prop := ∃ k : Nat, k ≤ n ∧ i = .int .i64 k

set_option maxHeartbeats 1600000 in
theorem rsplit_bad (T : Int) (a : Option Addr) (c : Nat) (ws : List Int) (w : World) (hr : RowI .i64 w a ws) (hz : ∀ z ∈ ws, Amt z) (hl : ws.length ≤ maxLen) (hA : anyNeg ws = false) (he : splitErr T ws ≠ 0) :
    Calls Tryz.prog 59 #[.int .i64 T, .slice a ws.length c] w (SplitErr T ws w) := by
  have HS := rSum_any a c ws w hr hz hl
  have hE : splitErr T ws ≠ 0 → (T < 0 ∧ splitErr T ws = 1) ∨ (¬ T < 0 ∧ sumTo 0 ws = none ∧ splitErr T ws = 2) ∨ (¬ T < 0 ∧ sumTo 0 ws = some 0 ∧ splitErr T ws = 1) := fun he => by
    by_cases hT : T < 0
    · exact .inl ⟨hT, splitErr_neg hT⟩
    · have e := splitErr_pos hT hA
      cases hs : sumTo 0 ws with
      | none => rw [hs] at e; exact .inr (.inl ⟨hT, rfl, e⟩)
      | some s =>
        rw [hs] at e
        simp only at e
        by_cases h0 : s = 0
        · rw [if_pos h0] at e; exact .inr (.inr ⟨hT, by rw [h0], e⟩)
        · rw [if_neg h0] at e; exact absurd e he
  have hnn : ∀ j, j < ws.length → 0 ≤ ws.getD j 0 := fun j hj => by
    rcases Int.lt_or_le (ws.getD j 0) 0 with h0 | h0
    · have := anyNeg_of hj h0; rw [hA] at this; cases this
    · exact h0
  have HNN := Lib.hid hnn
  have hcases := hE he
  clear hE he hnn hA
  have HR := Lib.hid hr
  clear hr hz
  unfold maxLen at hl
  obtain ⟨n, hn⟩ : ∃ n, n = ws.length := ⟨_, rfl⟩
  have HN := Lib.hid hn
  rw [← hn] at hl HS ⊢
  clear hn
  by_cases h0 : n = 0
  · subst h0
    rcases hcases with ⟨c1, c2⟩ | ⟨c1, c2, c3⟩ | ⟨c1, c2, c3⟩
    · obtain ⟨x, hx⟩ : ∃ x, x = (sumTo 0 ws).getD 0 := ⟨_, rfl⟩
      obtain ⟨y, hy⟩ : ∃ y, y = (sumTo 0 ws).isSome := ⟨_, rfl⟩
      rw [← hx, ← hy] at HS
      have H1 := Lib.hid HS
      have HE := Lib.hid c2
      clear hx hy HS c2
      go_enter Tryz.func59, Tryz.ntmps59
      go_wp2
      refine wp_loop_rounds 1 ?_
      rw [rounds_succ]
      go_wp2_with fail
      refine H1.out.mono ?_
      rintro e w' ⟨rfl, rfl⟩
      go_wp2
      go_ret2
      exact ⟨by rw [HE.out]; rfl, by rw [HE.out]; decide, rfl⟩
    · rw [c2] at HS
      have H1 := Lib.hid HS
      have HE := Lib.hid c3
      clear HS c2 c3
      go_enter Tryz.func59, Tryz.ntmps59
      go_wp2
      refine wp_loop_rounds 1 ?_
      rw [rounds_succ]
      go_wp2_with fail
      refine H1.out.mono ?_
      rintro e w' ⟨rfl, rfl⟩
      go_wp2
      go_ret2
      exact ⟨by rw [HE.out]; rfl, by rw [HE.out]; decide, rfl⟩
    · rw [c2] at HS
      have H1 := Lib.hid HS
      have HE := Lib.hid c3
      clear HS c2 c3
      go_enter Tryz.func59, Tryz.ntmps59
      go_wp2
      refine wp_loop_rounds 1 ?_
      rw [rounds_succ]
      go_wp2_with fail
      refine H1.out.mono ?_
      rintro e w' ⟨rfl, rfl⟩
      go_wp2
      go_ret2
      exact ⟨by rw [HE.out]; rfl, by rw [HE.out]; decide, rfl⟩
  · obtain ⟨b, off, rfl, hc⟩ := HR.out (by have := HN.out; omega)
    have HC := Lib.hid hc
    clear hc HR
    rcases hcases with ⟨c1, c2⟩ | ⟨c1, c2, c3⟩ | ⟨c1, c2, c3⟩
    · obtain ⟨x, hx⟩ : ∃ x, x = (sumTo 0 ws).getD 0 := ⟨_, rfl⟩
      obtain ⟨y, hy⟩ : ∃ y, y = (sumTo 0 ws).isSome := ⟨_, rfl⟩
      rw [← hx, ← hy] at HS
      have H1 := Lib.hid HS
      have HE := Lib.hid c2
      clear hx hy HS c2
      go_enter Tryz.func59, Tryz.ntmps59
      go_wp2
      go_loop [6] (fun i => ∃ k : Nat, k ≤ n ∧ i = .int .i64 k) (fun i => n - (intOf i).toNat)
      case atStart => exact ⟨0, Nat.zero_le _, rfl⟩
      case round =>
        obtain ⟨k, hk, rfl⟩ := hrel
        by_cases hlt : k < n
        · have hcell := HC.out k (by have := HN.out; omega)
          have hz0 := HNN.out k (by have := HN.out; omega)
          obtain ⟨z, hz⟩ : ∃ z, z = ws.getD k 0 := ⟨_, rfl⟩
          rw [← hz] at hcell hz0
          clear hz
          go_wp2
          go_round
          case rel => exact ⟨k + 1, by omega, by go_num⟩
          case measure => simp [intOf]; omega
        · go_wp2_with fail
          refine H1.out.mono ?_
          rintro e w' ⟨rfl, rfl⟩
          go_wp2
          go_ret2
          exact ⟨by rw [HE.out]; rfl, by rw [HE.out]; decide, rfl⟩
    · rw [c2] at HS
      have H1 := Lib.hid HS
      have HE := Lib.hid c3
      clear HS c2 c3
      go_enter Tryz.func59, Tryz.ntmps59
      go_wp2
      go_loop [6] (fun i => ∃ k : Nat, k ≤ n ∧ i = .int .i64 k) (fun i => n - (intOf i).toNat)
      case atStart => exact ⟨0, Nat.zero_le _, rfl⟩
      case round =>
        obtain ⟨k, hk, rfl⟩ := hrel
        by_cases hlt : k < n
        · have hcell := HC.out k (by have := HN.out; omega)
          have hz0 := HNN.out k (by have := HN.out; omega)
          obtain ⟨z, hz⟩ : ∃ z, z = ws.getD k 0 := ⟨_, rfl⟩
          rw [← hz] at hcell hz0
          clear hz
          go_wp2
          go_round
          case rel => exact ⟨k + 1, by omega, by go_num⟩
          case measure => simp [intOf]; omega
        · go_wp2_with fail
          refine H1.out.mono ?_
          rintro e w' ⟨rfl, rfl⟩
          go_wp2
          go_ret2
          exact ⟨by rw [HE.out]; rfl, by rw [HE.out]; decide, rfl⟩
    · rw [c2] at HS
      have H1 := Lib.hid HS
      have HE := Lib.hid c3
      clear HS c2 c3
      go_enter Tryz.func59, Tryz.ntmps59
      go_wp2
      go_loop [6] (fun i => ∃ k : Nat, k ≤ n ∧ i = .int .i64 k) (fun i => n - (intOf i).toNat)
      case atStart => exact ⟨0, Nat.zero_le _, rfl⟩
      case round =>
        obtain ⟨k, hk, rfl⟩ := hrel
        by_cases hlt : k < n
        · have hcell := HC.out k (by have := HN.out; omega)
          have hz0 := HNN.out k (by have := HN.out; omega)
          obtain ⟨z, hz⟩ : ∃ z, z = ws.getD k 0 := ⟨_, rfl⟩
          rw [← hz] at hcell hz0
          clear hz
          go_wp2
          go_round
          case rel => exact ⟨k + 1, by omega, by go_num⟩
          case measure => simp [intOf]; omega
        · go_wp2_with fail
          refine H1.out.mono ?_
          rintro e w' ⟨rfl, rfl⟩
          go_wp2
          go_ret2
          exact ⟨by rw [HE.out]; rfl, by rw [HE.out]; decide, rfl⟩
end Go.Proofs.YtkflakeocdlinaaGreatDoor
