/-
  Contract of slices.Equal at amounts.
-/
import Derived.Test.YtmnhjcfhgcineaaSplitA
namespace Go.Proofs.Ytmnhjcfhgcineaa
open Go.RowKit

/-- two lists, held against each other place by place -/
theorem eq_of_getD {xs ys : List Int} (hl : xs.length = ys.length) (h : ∀ j, j < xs.length → xs.getD j 0 = ys.getD j 0) : xs = ys := by
  apply List.ext_getElem hl
  intro i h1 h2
  have := h i h1
  rw [List.getD_eq_getElem?_getD, List.getD_eq_getElem?_getD, List.getElem?_eq_getElem h1, List.getElem?_eq_getElem h2] at this
  simpa using this

set_option maxHeartbeats 400000 in
theorem equal_any (a a' : Option Addr) (c c' : Nat) (xs ys : List Int) (w : World) (hx : RowI .i64 w a xs) (hy : RowI .i64 w a' ys) (hl : xs.length ≤ maxLen) :
    Calls Try.prog 10 #[.slice a xs.length c, .slice a' ys.length c'] w fun e w' => e = .returned (.bool (decide (xs = ys))) ∧ ∃ m, w' = w.drewN m := by
  unfold maxLen at hl
  by_cases hlen : xs.length = ys.length
  · by_cases h0 : xs = []
    · subst h0
      obtain rfl : ys = [] := List.eq_nil_of_length_eq_zero hlen.symm
      simp only [List.length_nil]
      go_enter Try.func10, Try.ntmps10
      go_wp2
      refine wp_loop_rounds 1 ?_
      rw [rounds_succ]
      go_wp2
      go_ret
      exact ⟨rfl, 0, rfl⟩
    · have hp : 0 < xs.length := List.length_pos_iff.mpr h0
      obtain ⟨b, off, rfl, hc⟩ := hx hp
      obtain ⟨b', off', rfl, hc'⟩ := hy (by omega)
      have HC := Lib.hid hc
      have HC' := Lib.hid hc'
      clear hc hc' hx hy h0
      obtain ⟨n, hn⟩ : ∃ n, n = xs.length := ⟨_, rfl⟩
      have HN := Lib.hid hn
      have HL := Lib.hid hlen
      rw [← hlen, ← hn]
      rw [← hn] at hl hp
      clear hn hlen
      have t0 : ((n : Int) != (n : Int)) = false := by simp
      go_enter Try.func10, Try.ntmps10
      go_wp2
      go_loopg [5, 13] n (fun gk _ i wr => ∃ k m : Nat, k ≤ n ∧ i = .int .i64 k ∧ n - k ≤ gk ∧ Hid (∀ j, j < k → xs.getD j 0 = ys.getD j 0) ∧ Hid (wr = w.drewN m))
      case atStart => exact ⟨0, 0, Nat.zero_le _, rfl, by omega, fun j hj => by omega, rfl⟩
      case round =>
        obtain ⟨k, m, hk, rfl, hgk, HJ, HW⟩ := hrel
        have hw := HW.out
        subst hw
        clear HW
        by_cases hlt : k < n
        · have c1 := HC.out k (by have := HN.out; omega)
          have c2 := HC'.out k (by have := HN.out; have := HL.out; omega)
          obtain ⟨x, hx⟩ : ∃ x, x = xs.getD k 0 := ⟨_, rfl⟩
          obtain ⟨y, hy⟩ : ∃ y, y = ys.getD k 0 := ⟨_, rfl⟩
          rw [← hx] at c1
          rw [← hy] at c2
          have HX := Lib.hid hx
          have HY := Lib.hid hy
          clear hx hy
          have z1 : (0 : Int) ≤ (k : Int) := by omega
          have z2 : (k : Int) < (n : Int) := by omega
          by_cases hxy : x = y
          · have t1 : (x != y) = false := by simp [hxy]
            have HXY := Lib.hid hxy
            clear hxy
            go_wp2
            go_quiet (fail)
            go_wp2
            go_roundg (n - (k + 1))
            case measure => omega
            case rel =>
              refine ⟨k + 1, m + nq, by omega, by go_num, by omega, fun j hj => ?_, by simp [World.drewN, Hid]⟩
              by_cases e : j = k
              · subst e; rw [← HX.out, ← HY.out, HXY.out]
              · exact HJ.out j (by omega)
          · have t1 : (x != y) = true := by simpa using hxy
            have HXY := Lib.hid hxy
            clear hxy
            go_wp2
            go_quiet (fail)
            go_wp2
            go_ret
            refine ⟨?_, m + nq, by simp [World.drewN, Nat.add_assoc]⟩
            rw [decide_eq_false]
            · rfl
            · intro e
              exact HXY.out (by rw [HX.out, HY.out, e])
        · go_wp2
          go_ret
          refine ⟨?_, m, rfl⟩
          rw [decide_eq_true]
          · rfl
          · exact eq_of_getD HL.out (fun j hj => HJ.out j (by have := HN.out; omega))
  · have t0 : ((xs.length : Int) != (ys.length : Int)) = true := by rw [bne_iff_ne]; omega
    have e1 : decide (xs = ys) = false := decide_eq_false (fun e => hlen (by rw [e]))
    rw [e1]
    clear hlen e1 hx hy
    go_enter Try.func10, Try.ntmps10
    go_wp2
    go_ret
    exact ⟨rfl, 0, rfl⟩
end Go.Proofs.Ytmnhjcfhgcineaa
