/-
  Contracts of slices.ContainsFunc at money.Split's test, bits.Div64 at a high half of 0, money.divide.
-/
import Derived.Test.YtmnhjcfhgcineaaSortC
import Derived.Test.YtmnhjcfhgcineaaShelf
namespace Go.Proofs.Ytmnhjcfhgcineaa
open Go.RowKit

theorem splitneg_any (z : Int) (w : World) : Calls Try.prog 22 #[.int .i64 z] w fun e w' => e = .returned (.bool (decide (z < 0))) ∧ w = w' := by
  go_enter Try.func22, Try.ntmps22
  go_wp2
  go_ret
  exact ⟨rfl, rfl⟩

def anyNeg (zs : List Int) : Bool := zs.any (fun z => decide (z < 0))

theorem getD_mem {zs : List Int} {k : Nat} (h : k < zs.length) : zs.getD k 0 ∈ zs := by
  rw [List.getD_eq_getElem?_getD, List.getElem?_eq_getElem h]; exact List.getElem_mem _

theorem anyNeg_of {zs : List Int} {k : Nat} (h : k < zs.length) (hz : zs.getD k 0 < 0) : anyNeg zs = true := by
  unfold anyNeg
  rw [List.any_eq_true]
  exact ⟨_, getD_mem h, decide_eq_true hz⟩

theorem anyNeg_none {zs : List Int} (h : ∀ k, k < zs.length → 0 ≤ zs.getD k 0) : anyNeg zs = false := by
  unfold anyNeg
  rw [List.any_eq_false]
  intro x hx
  obtain ⟨k, hk, rfl⟩ := List.getElem_of_mem hx
  have := h k hk
  rw [List.getD_eq_getElem?_getD, List.getElem?_eq_getElem hk] at this
  simpa using this

/-- what slices.IndexFunc answers at Split's test: a place of one below nothing, or -1 -/
def IndexPost (zs : List Int) (w : World) (e : Ending) (w' : World) : Prop := ∃ n : Int, e = .returned (.int .i64 n) ∧ (anyNeg zs = decide (0 ≤ n)) ∧ w = w'

set_option maxHeartbeats 400000 in
theorem indexFunc_any (a : Option Addr) (c : Nat) (zs : List Int) (w : World) (hr : RowI .i64 w a zs) (hl : zs.length ≤ maxLen) :
    Calls Try.prog 20 #[.slice a zs.length c, .func (.func 22) #[] #[]] w (IndexPost zs w) := by
  unfold maxLen at hl
  by_cases h0 : zs = []
  · subst h0
    simp only [List.length_nil]
    go_enter Try.func20, Try.ntmps20
    go_wp2
    refine wp_loop_rounds 1 ?_
    rw [rounds_succ]
    go_wp2
    go_ret
    exact ⟨-1, rfl, rfl, rfl⟩
  have hp : 0 < zs.length := List.length_pos_iff.mpr h0
  obtain ⟨b, off, rfl, hc⟩ := hr hp
  have HC := Lib.hid hc
  clear hc hr h0
  obtain ⟨n, hn⟩ : ∃ n, n = zs.length := ⟨_, rfl⟩
  have HN := Lib.hid hn
  rw [← hn] at hl hp ⊢
  clear hn
  go_enter Try.func20, Try.ntmps20
  go_wp2
  go_loop [5, 8] (fun _ i => ∃ k : Nat, k ≤ n ∧ i = .int .i64 k ∧ Hid (∀ j, j < k → 0 ≤ zs.getD j 0)) (fun _ i => n - (intOf i).toNat)
  case atStart => exact ⟨0, Nat.zero_le _, rfl, fun j hj => by omega⟩
  case round =>
    obtain ⟨k, hk, rfl, HJ⟩ := hrel
    have hN := HN.out
    by_cases hlt : k < n
    · have hcell := HC.out k (by omega)
      obtain ⟨z, hz⟩ : ∃ z, z = zs.getD k 0 := ⟨_, rfl⟩
      rw [← hz] at hcell
      have HZ := Lib.hid hz
      clear hz hN
      have HP := Lib.hid (splitneg_any z w)
      by_cases hneg : z < 0
      · have t1 : decide (z < 0) = true := decide_eq_true hneg
        rw [t1] at HP
        clear t1
        go_wp2_with fail
        refine HP.out.mono ?_
        rintro e w' ⟨rfl, rfl⟩
        go_wp2
        go_ret
        exact ⟨_, rfl, by rw [anyNeg_of (zs := zs) (k := k) (by have := HN.out; omega) (by rw [← HZ.out]; exact hneg)]; simp, rfl⟩
      · have t1 : decide (z < 0) = false := decide_eq_false hneg
        rw [t1] at HP
        clear t1
        go_wp2_with fail
        refine HP.out.mono ?_
        rintro e w' ⟨rfl, rfl⟩
        go_wp2
        go_round
        case rel =>
          refine ⟨k + 1, by omega, by go_num, fun j hj => ?_⟩
          by_cases e : j = k
          · subst e; rw [← HZ.out]; omega
          · exact HJ.out j (by omega)
        case measure => simp [intOf]; omega
    · clear hN
      go_wp2
      go_ret
      exact ⟨-1, rfl, by rw [anyNeg_none (zs := zs) (fun j hj => HJ.out j (by have := HN.out; omega))]; rfl, rfl⟩

set_option maxHeartbeats 400000 in
theorem containsFunc_any (a : Option Addr) (c : Nat) (zs : List Int) (w : World) (hr : RowI .i64 w a zs) (hl : zs.length ≤ maxLen) :
    Calls Try.prog 13 #[.slice a zs.length c, .func (.func 22) #[] #[]] w fun e w' => e = .returned (.bool (anyNeg zs)) ∧ w = w' := by
  have H := Lib.hid (indexFunc_any a c zs w hr hl)
  clear hr hl
  go_enter Try.func13, Try.ntmps13
  go_wp2_with fail
  refine H.out.mono ?_
  rintro e w' ⟨n, rfl, h1, rfl⟩
  have H1 := Lib.hid h1
  clear h1
  go_wp2
  go_ret
  exact ⟨by rw [H1.out]; rfl, rfl⟩

end Go.Proofs.Ytmnhjcfhgcineaa
