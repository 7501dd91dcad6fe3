/-
  Contracts of slices.IndexFunc and ContainsFunc at souklaw13.ClawWhole's test.
-/
import Derived.Test.YtmnhjcfhgcineaaClA
namespace Go.Proofs.Ytmnhjcfhgcineaa
open Go.RowKit

set_option maxHeartbeats 400000 in
theorem idxW_any (p : Int → Bool) (hF : TestF 14 p) (a : Option Addr) (c : Nat) (zs : List Int) (w : World) (hr : RowI .i64 w a zs) (hl : zs.length ≤ maxLen) :
    Calls Try.prog 20 #[.slice a zs.length c, .func (.func 14) #[] #[]] w (IdxFPost p zs w) := by
  unfold maxLen at hl
  by_cases h0 : zs = []
  · subst h0
    simp only [List.length_nil]
    go_enter Try.func20, Try.ntmps20
    go_wp2
    refine wp_loop_rounds 1 ?_
    rw [rounds_succ]
    go_wp2
    go_ret
    exact ⟨-1, rfl, rfl, rfl⟩
  have hp : 0 < zs.length := List.length_pos_iff.mpr h0
  obtain ⟨b, off, rfl, hc⟩ := hr hp
  have HC := Lib.hid hc
  have HF := Lib.hid hF
  clear hc hr h0 hF
  obtain ⟨n, hn⟩ : ∃ n, n = zs.length := ⟨_, rfl⟩
  have HN := Lib.hid hn
  rw [← hn] at hl hp ⊢
  clear hn
  go_enter Try.func20, Try.ntmps20
  go_wp2
  go_loop [5, 8] (fun _ i => ∃ k : Nat, k ≤ n ∧ i = .int .i64 k ∧ Hid (∀ j, j < k → p (zs.getD j 0) = false)) (fun _ i => n - (intOf i).toNat)
  case atStart => exact ⟨0, Nat.zero_le _, rfl, fun j hj => by omega⟩
  case round =>
    obtain ⟨k, hk, rfl, HJ⟩ := hrel
    have hN := HN.out
    by_cases hlt : k < n
    · have hcell := HC.out k (by omega)
      obtain ⟨z, hz⟩ : ∃ z, z = zs.getD k 0 := ⟨_, rfl⟩
      rw [← hz] at hcell
      have HZ := Lib.hid hz
      clear hz hN
      have HP := Lib.hid (HF.out z w)
      cases hneg : p z with
      | true =>
        rw [hneg] at HP
        have HNG := Lib.hid hneg
        clear hneg
        go_wp2_with fail
        refine HP.out.mono ?_
        rintro e w' ⟨rfl, rfl⟩
        go_wp2
        go_ret
        exact ⟨_, rfl, by rw [any_of (zs := zs) (k := k) (by have := HN.out; omega) (by rw [← HZ.out]; exact HNG.out)]; simp, rfl⟩
      | false =>
        rw [hneg] at HP
        have HNG := Lib.hid hneg
        clear hneg
        go_wp2_with fail
        refine HP.out.mono ?_
        rintro e w' ⟨rfl, rfl⟩
        go_wp2
        go_round
        case rel =>
          refine ⟨k + 1, by omega, by go_num, fun j hj => ?_⟩
          by_cases e : j = k
          · subst e; rw [← HZ.out]; exact HNG.out
          · exact HJ.out j (by omega)
        case measure => simp [intOf]; omega
    · clear hN
      go_wp2
      go_ret
      exact ⟨-1, rfl, by rw [any_none (zs := zs) (fun j hj => HJ.out j (by have := HN.out; omega))]; rfl, rfl⟩

set_option maxHeartbeats 400000 in
theorem conW_any (p : Int → Bool) (hF : TestF 14 p) (a : Option Addr) (c : Nat) (zs : List Int) (w : World) (hr : RowI .i64 w a zs) (hl : zs.length ≤ maxLen) :
    Calls Try.prog 13 #[.slice a zs.length c, .func (.func 14) #[] #[]] w fun e w' => e = .returned (.bool (zs.any p)) ∧ w = w' := by
  have H := Lib.hid (idxW_any p hF a c zs w hr hl)
  clear hr hl hF
  go_enter Try.func13, Try.ntmps13
  go_wp2_with fail
  refine H.out.mono ?_
  rintro e w' ⟨n, rfl, h1, rfl⟩
  have H1 := Lib.hid h1
  clear h1
  go_wp2
  go_ret
  exact ⟨by rw [H1.out]; first | done | rfl, rfl⟩

theorem whole1_any : TestF 14 (fun z => z != 0) := fun z w => by
  go_enter Try.func14, Try.ntmps14
  go_wp2
  go_ret
  exact ⟨rfl, rfl⟩
end Go.Proofs.Ytmnhjcfhgcineaa
