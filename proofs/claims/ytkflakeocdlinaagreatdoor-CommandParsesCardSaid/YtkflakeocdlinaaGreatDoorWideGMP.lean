/-
  Contract of soukref01's value.
-/
import Derived.Test.YtkflakeocdlinaaGreatDoorWideFMP
import Derived.Test.YtkflakeocdlinaaGreatDoorMP05
namespace Go.Proofs.YtkflakeocdlinaaGreatDoor
open Go.RowKit

theorem drop_small (bs : List Bool) (p : Nat) (h : bs.length ≤ 64) (hp : p + 1 ≤ bs.length) : val (bs.drop (p + 1)) < 9223372036854775808 := by
  have h1 := val_lt (bs.drop (p + 1))
  have h2 : 2 ^ (bs.drop (p + 1)).length ≤ 2 ^ 63 := Nat.pow_le_pow_right (by omega) (by rw [List.length_drop]; omega)
  rw [two63] at h2
  omega

theorem val_small (bs : List Bool) (h : bs.length ≤ 64) : val bs < 18446744073709551616 := by
  have h1 := val_lt bs
  have h2 : 2 ^ bs.length ≤ 2 ^ 64 := Nat.pow_le_pow_right (by omega) h
  rw [two64] at h2
  omega

theorem val_great {bs : List Bool} (hc : Canon bs) (h : 64 < bs.length) : 18446744073709551616 ≤ val bs := by
  have h1 := canon_ge hc (by omega)
  have h2 : 2 ^ 64 ≤ 2 ^ (bs.length - 1) := Nat.pow_le_pow_right (by omega) (by omega)
  rw [two64] at h2
  omega

def ValuePost (N : Nat) (neg : Bool) (w : World) (e : Ending) (w' : World) : Prop := e = .returned (.tuple #[.int .i64 (sgnV N neg), .bool (sgnB N neg)]) ∧ w = w'

theorem value_end (U : Nat) (neg : Bool) : (neg = true → U ≤ 9223372036854775808 → sgnV U neg = -(U : Int) ∧ sgnB U neg = true) ∧ (neg = false → U < 9223372036854775808 → sgnV U neg = U ∧ sgnB U neg = true) ∧
    ((neg = true → ¬ U ≤ 9223372036854775808) → (neg = false → ¬ U < 9223372036854775808) → sgnV U neg = 0 ∧ sgnB U neg = false) := by
  refine ⟨fun hn hu => ?_, fun hn hu => ?_, fun h1 h2 => ?_⟩
  · subst hn
    have ha : Amt (sgnI U true) := by unfold Amt sgnI; simp; omega
    exact ⟨if_pos ha, decide_eq_true ha⟩
  · subst hn
    have ha : Amt (sgnI U false) := by unfold Amt sgnI; simp; omega
    exact ⟨if_pos ha, decide_eq_true ha⟩
  · have ha : ¬ Amt (sgnI U neg) := by
      unfold Amt sgnI
      cases neg
      · have := h2 rfl; simp; omega
      · have := h1 rfl; simp; omega
    exact ⟨if_neg ha, decide_eq_false ha⟩

set_option maxHeartbeats 3200000 in
theorem value_any (v : Value) (xs : List Bool) (neg : Bool) (w : World) (h : WB w v xs) (hn : xs.length ≤ 1000000) : Calls Tryz.prog 80 #[v, .bool neg] w (ValuePost (val xs) neg w) := by
  obtain ⟨A, c, rfl⟩ := h.form
  have HT := Lib.hid (trim_same h hn)
  clear h
  obtain ⟨N, hN⟩ : ∃ N, N = val xs := ⟨_, rfl⟩
  rw [← hN]
  have HN := Lib.hid hN
  clear hN
  go_enter Tryz.func80, Tryz.ntmps80
  go_wp2_with fail
  refine HT.out.mono ?_
  rintro e w' ⟨c2, bs, rfl, g1, g2, g3, g4, rfl⟩
  have HV : Hid (val bs = N) := by show _ = _; rw [g2, HN.out]
  have HC := Lib.hid g3
  have HG := Lib.hid g1
  have hlen : bs.length ≤ 1000000 := by omega
  clear g1 g2 g3 g4 HT
  by_cases hbig : 64 < bs.length
  · have t1 : decide ((64 : Int) < (bs.length : Int)) = true := decide_eq_true (by omega)
    have hg := val_great HC.out hbig
    rw [HV.out] at hg
    have HE := Lib.hid ((value_end N neg).2.2 (fun _ => by omega) (fun _ => by omega))
    clear hg
    go_wp2
    go_ret2
    exact ⟨by rw [HE.out.1, HE.out.2]; rfl, rfl⟩
  have t1 : decide ((64 : Int) < (bs.length : Int)) = false := decide_eq_false (by omega)
  have hNs := val_small bs (by omega)
  rw [HV.out] at hNs
  by_cases h0 : bs = []
  · subst h0
    have hN0 : N = 0 := HV.out.symm
    subst hN0
    clear hNs
    simp only [List.length_nil]
    cases neg
    · go_wp2
      refine wp_loop_rounds 1 ?_
      rw [rounds_succ]
      go_wp2
      go_ret2
      exact ⟨by rw [show sgnV 0 false = 0 by decide, show sgnB 0 false = true by decide]; rfl, rfl⟩
    · go_wp2
      refine wp_loop_rounds 1 ?_
      rw [rounds_succ]
      go_wp2
      go_ret2
      exact ⟨by rw [show sgnV 0 true = 0 by decide, show sgnB 0 true = true by decide]; rfl, rfl⟩
  have hp : 0 < bs.length := List.length_pos_iff.mpr h0
  obtain ⟨A', c', e', _, _, _, hcells⟩ := HG.out
  injection e' with e1 _ _
  subst e1
  obtain ⟨b, off, rfl, hc⟩ := hcells.bool hp
  have HCE := Lib.hid hc
  clear hcells hc h0 HG
  obtain ⟨m, hm⟩ : ∃ n, n = bs.length := ⟨_, rfl⟩
  have HM := Lib.hid hm
  rw [show Value.slice (some ⟨b, off, none⟩) bs.length c2 = Value.slice (some ⟨b, off, none⟩) m c2 by rw [hm]]
  rw [← hm] at hlen hbig t1 hp
  clear hm
  go_wp2
  go_loopg [6, 7] m (fun gk u i wr => ∃ k : Nat, i = .int .i64 ((k : Int) - 1) ∧ u = .int .u64 ((val (bs.drop k) : Nat) : Int) ∧ k ≤ m ∧ k ≤ gk ∧ Hid (wr = w))
  case atStart => exact ⟨m, rfl, by rw [HM.out, List.drop_length]; rfl, Nat.le_refl _, Nat.le_refl _, rfl⟩
  case round =>
    obtain ⟨k, rfl, rfl, hk, hgk, HW⟩ := hrel
    have hw := HW.out
    subst hw
    clear HW
    by_cases hk0 : k = 0
    · subst hk0
      rw [List.drop_zero, HV.out]
      have t2 : decide ((0 : Int) ≤ ((0 : Nat) : Int) - 1) = false := by decide
      cases neg
      · by_cases hu : N < 9223372036854775808
        · have HE := Lib.hid ((value_end N false).2.1 rfl hu)
          have t3 : decide ((N : Int) < 9223372036854775808) = true := decide_eq_true (by omega)
          go_wp2
          go_ret2
          exact ⟨by rw [HE.out.1, HE.out.2]; exact ret_tuple2 (int_eq (by first | rfl | (show wrap64 _ = _; unfold wrap64; omega))) rfl, rfl⟩
        · have HE := Lib.hid ((value_end N false).2.2 (fun h => by cases h) (fun _ => hu))
          have t3 : decide ((N : Int) < 9223372036854775808) = false := decide_eq_false (by omega)
          go_wp2
          go_ret2
          exact ⟨by rw [HE.out.1, HE.out.2]; rfl, rfl⟩
      · by_cases hu : N ≤ 9223372036854775808
        · have HE := Lib.hid ((value_end N true).1 rfl hu)
          have t3 : decide ((N : Int) ≤ 9223372036854775808) = true := decide_eq_true (by omega)
          go_wp2
          go_ret2
          refine ⟨?_, rfl⟩
          rw [HE.out.1, HE.out.2]
          refine ret_tuple2 (int_eq ?_) rfl
          show wrap64 (IntKind.u64.wrap _) = _
          unfold wrap64
          simp only [IntKind.wrap_u64]
          omega
        · have HE := Lib.hid ((value_end N true).2.2 (fun _ => hu) (fun h => by cases h))
          have t3 : decide ((N : Int) ≤ 9223372036854775808) = false := decide_eq_false (by omega)
          have t4 : decide ((N : Int) < 9223372036854775808) = false := decide_eq_false (by omega)
          go_wp2
          go_ret2
          exact ⟨by rw [HE.out.1, HE.out.2]; rfl, rfl⟩
    · obtain ⟨p, rfl⟩ : ∃ p, k = p + 1 := ⟨k - 1, by omega⟩
      have e1 : ((p + 1 : Nat) : Int) - 1 = (p : Int) := by omega
      rw [e1]
      clear e1 hk0
      have t2 : decide ((0 : Int) ≤ (p : Int)) = true := decide_eq_true (by omega)
      have hcell := HCE.out p (by have := HM.out; omega)
      have HDR : Hid (val (bs.drop p) = (bs.getD p false).toNat + 2 * val (bs.drop (p + 1))) := val_drop_step bs p (by have := HM.out; omega)
      have hs := drop_small bs p (by have := HM.out; omega) (by have := HM.out; omega)
      obtain ⟨x, hx⟩ : ∃ x, x = bs.getD p false := ⟨_, rfl⟩
      rw [← hx] at hcell HDR
      clear hx
      obtain ⟨U, hU⟩ : ∃ U, U = val (bs.drop (p + 1)) := ⟨_, rfl⟩
      rw [← hU] at HDR hs ⊢
      clear hU
      cases x
      · go_wp2
        go_roundg p
        case measure => omega
        case rel => exact ⟨p, by go_num, by rw [HDR.out]; exact int_eq (by simp; omega), by omega, Nat.le_refl _, rfl⟩
      · go_wp2
        go_roundg p
        case measure => omega
        case rel => exact ⟨p, by go_num, by rw [HDR.out]; exact int_eq (by simp; omega), by omega, Nat.le_refl _, rfl⟩
end Go.Proofs.YtkflakeocdlinaaGreatDoor
