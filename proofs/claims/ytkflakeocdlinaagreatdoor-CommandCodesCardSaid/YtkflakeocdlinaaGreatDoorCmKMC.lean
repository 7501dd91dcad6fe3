/-
  Contracts of the document's Name, currency, amount of layer 18.
-/
import Derived.Test.YtkflakeocdlinaaGreatDoorMC04
namespace Go.Proofs.YtkflakeocdlinaaGreatDoor
open Go.RowKit Go.Deep

theorem getD_lt (s : List UInt8) (k : Nat) : (s.getD k 0).toNat < 256 := UInt8.toNat_lt _

set_option maxHeartbeats 6400000 in
set_option maxRecDepth 100000 in
theorem rname_any (s : List UInt8) (m : Nat) (w : World) (hl : s.length ≤ 4611686018427387904) :
    Calls Tryz.prog 30 #[.string (st s), .int .i64 (m : Int)] w fun e w' => e = .returned (.bool (nameB s m)) ∧ w = w' := by
  have hsz := st_size s
  obtain ⟨L, hL⟩ : ∃ L, L = s.length := ⟨_, rfl⟩
  rw [← hL] at hsz hl
  have HL := Lib.hid hL
  obtain ⟨R, hR⟩ : ∃ R, R = nameB s m := ⟨_, rfl⟩
  have HR := Lib.hid hR
  rw [← hR]
  clear hR hL
  go_enter Tryz.func30, Tryz.ntmps30
  go_wp2
  go_loopg [5, 6, 7] L (fun gk i _ _ wr => w = wr ∧ ∃ k : Nat, k ≤ L ∧ i = .int .i64 k ∧ L - k ≤ gk ∧ Hid ((s.take k).all (fun b => nlB b.toNat) = true))
  case atStart => exact ⟨rfl, 0, Nat.zero_le _, rfl, by omega, rfl⟩
  case round =>
    obtain ⟨rfl, k, hk, rfl, hgk, HT⟩ := hrel
    by_cases hlt : k < L
    · have hkk : k < (st s).size := by omega
      have hkl : k < s.length := by rw [← HL.out]; exact hlt
      have hat := st_at s k hkk
      obtain ⟨n, hn⟩ : ∃ n, n = (s.getD k 0).toNat := ⟨_, rfl⟩
      have hn2 := getD_lt s k
      rw [← hn] at hat hn2
      have HN := Lib.hid hn
      have HKL := Lib.hid hkl
      have hkz : (0 : Int) ≤ (k : Int) := by omega
      have hkn : (k : Int) < (L : Int) := by omega
      have YES : Hid (nlB (n : Int) = true → (s.take (k + 1)).all (fun b => nlB b.toNat) = true) := fun h => all_take_one HT.out HKL.out (by rw [← HN.out]; exact h)
      have NO : Hid (nlB (n : Int) = false → R = false) := fun h => by
        rw [HR.out]
        unfold nameB
        rw [all_not (p := fun b => nlB b.toNat) HKL.out (by rw [← HN.out]; exact h), Bool.and_false]
      clear hn hkl
      have hcase : (97 ≤ n ∧ n ≤ 122) ∨ (65 ≤ n ∧ n ≤ 90) ∨ (48 ≤ n ∧ n ≤ 57) ∨ (n = 95) ∨ (n = 46) ∨ (n = 47) ∨ (n = 45) ∨ (122 < n) ∨ (90 < n ∧ n < 97 ∧ n ≠ 95) ∨ (57 < n ∧ n < 65) ∨ (n < 48 ∧ n ≠ 45 ∧ n ≠ 46 ∧ n ≠ 47) := by omega
      rcases hcase with h | h | h | h | h | h | h | h | h | h | h
      · have a97 : (97 : Int) ≤ (n : Int) := by omega
        have a122 : (n : Int) ≤ 122 := by omega
        have a65 : (65 : Int) ≤ (n : Int) := by omega
        have a90 : ¬ (n : Int) ≤ 90 := by omega
        have a48 : (48 : Int) ≤ (n : Int) := by omega
        have a57 : ¬ (n : Int) ≤ 57 := by omega
        have q95 : ((n : Int) != 95) = true := by rw [bne_iff_ne]; omega
        have q46 : ((n : Int) != 46) = true := by rw [bne_iff_ne]; omega
        have q47 : ((n : Int) != 47) = true := by rw [bne_iff_ne]; omega
        have q45 : ((n : Int) != 45) = true := by rw [bne_iff_ne]; omega
        have HB : Hid (nlB (n : Int) = true) := by show _ = _; unfold nlB; rw [Bool.or_eq_true, decide_eq_true_eq, decide_eq_true_eq]; omega
        clear h
        go_wp2
        go_roundg (L - (k + 1))
        case measure => omega
        case rel => exact ⟨rfl, k + 1, by omega, by go_num, by omega, YES.out HB.out⟩
      · have a97 : ¬ (97 : Int) ≤ (n : Int) := by omega
        have a122 : (n : Int) ≤ 122 := by omega
        have a65 : (65 : Int) ≤ (n : Int) := by omega
        have a90 : (n : Int) ≤ 90 := by omega
        have a48 : (48 : Int) ≤ (n : Int) := by omega
        have a57 : ¬ (n : Int) ≤ 57 := by omega
        have q95 : ((n : Int) != 95) = true := by rw [bne_iff_ne]; omega
        have q46 : ((n : Int) != 46) = true := by rw [bne_iff_ne]; omega
        have q47 : ((n : Int) != 47) = true := by rw [bne_iff_ne]; omega
        have q45 : ((n : Int) != 45) = true := by rw [bne_iff_ne]; omega
        have HB : Hid (nlB (n : Int) = true) := by show _ = _; unfold nlB; rw [Bool.or_eq_true, decide_eq_true_eq, decide_eq_true_eq]; omega
        clear h
        go_wp2
        go_roundg (L - (k + 1))
        case measure => omega
        case rel => exact ⟨rfl, k + 1, by omega, by go_num, by omega, YES.out HB.out⟩
      · have a97 : ¬ (97 : Int) ≤ (n : Int) := by omega
        have a122 : (n : Int) ≤ 122 := by omega
        have a65 : ¬ (65 : Int) ≤ (n : Int) := by omega
        have a90 : (n : Int) ≤ 90 := by omega
        have a48 : (48 : Int) ≤ (n : Int) := by omega
        have a57 : (n : Int) ≤ 57 := by omega
        have q95 : ((n : Int) != 95) = true := by rw [bne_iff_ne]; omega
        have q46 : ((n : Int) != 46) = true := by rw [bne_iff_ne]; omega
        have q47 : ((n : Int) != 47) = true := by rw [bne_iff_ne]; omega
        have q45 : ((n : Int) != 45) = true := by rw [bne_iff_ne]; omega
        have HB : Hid (nlB (n : Int) = true) := by show _ = _; unfold nlB; rw [Bool.or_eq_true, decide_eq_true_eq, decide_eq_true_eq]; omega
        clear h
        go_wp2
        go_roundg (L - (k + 1))
        case measure => omega
        case rel => exact ⟨rfl, k + 1, by omega, by go_num, by omega, YES.out HB.out⟩
      · have a97 : ¬ (97 : Int) ≤ (n : Int) := by omega
        have a122 : (n : Int) ≤ 122 := by omega
        have a65 : (65 : Int) ≤ (n : Int) := by omega
        have a90 : ¬ (n : Int) ≤ 90 := by omega
        have a48 : (48 : Int) ≤ (n : Int) := by omega
        have a57 : ¬ (n : Int) ≤ 57 := by omega
        have q95 : ((n : Int) != 95) = false := by rw [bne_eq_false_iff_eq]; omega
        have q46 : ((n : Int) != 46) = true := by rw [bne_iff_ne]; omega
        have q47 : ((n : Int) != 47) = true := by rw [bne_iff_ne]; omega
        have q45 : ((n : Int) != 45) = true := by rw [bne_iff_ne]; omega
        have HB : Hid (nlB (n : Int) = true) := by show _ = _; unfold nlB; rw [Bool.or_eq_true, decide_eq_true_eq, decide_eq_true_eq]; omega
        clear h
        go_wp2
        go_roundg (L - (k + 1))
        case measure => omega
        case rel => exact ⟨rfl, k + 1, by omega, by go_num, by omega, YES.out HB.out⟩
      · have a97 : ¬ (97 : Int) ≤ (n : Int) := by omega
        have a122 : (n : Int) ≤ 122 := by omega
        have a65 : ¬ (65 : Int) ≤ (n : Int) := by omega
        have a90 : (n : Int) ≤ 90 := by omega
        have a48 : ¬ (48 : Int) ≤ (n : Int) := by omega
        have a57 : (n : Int) ≤ 57 := by omega
        have q95 : ((n : Int) != 95) = true := by rw [bne_iff_ne]; omega
        have q46 : ((n : Int) != 46) = false := by rw [bne_eq_false_iff_eq]; omega
        have q47 : ((n : Int) != 47) = true := by rw [bne_iff_ne]; omega
        have q45 : ((n : Int) != 45) = true := by rw [bne_iff_ne]; omega
        have HB : Hid (nlB (n : Int) = true) := by show _ = _; unfold nlB; rw [Bool.or_eq_true, decide_eq_true_eq, decide_eq_true_eq]; omega
        clear h
        go_wp2
        go_roundg (L - (k + 1))
        case measure => omega
        case rel => exact ⟨rfl, k + 1, by omega, by go_num, by omega, YES.out HB.out⟩
      · have a97 : ¬ (97 : Int) ≤ (n : Int) := by omega
        have a122 : (n : Int) ≤ 122 := by omega
        have a65 : ¬ (65 : Int) ≤ (n : Int) := by omega
        have a90 : (n : Int) ≤ 90 := by omega
        have a48 : ¬ (48 : Int) ≤ (n : Int) := by omega
        have a57 : (n : Int) ≤ 57 := by omega
        have q95 : ((n : Int) != 95) = true := by rw [bne_iff_ne]; omega
        have q46 : ((n : Int) != 46) = true := by rw [bne_iff_ne]; omega
        have q47 : ((n : Int) != 47) = false := by rw [bne_eq_false_iff_eq]; omega
        have q45 : ((n : Int) != 45) = true := by rw [bne_iff_ne]; omega
        have HB : Hid (nlB (n : Int) = true) := by show _ = _; unfold nlB; rw [Bool.or_eq_true, decide_eq_true_eq, decide_eq_true_eq]; omega
        clear h
        go_wp2
        go_roundg (L - (k + 1))
        case measure => omega
        case rel => exact ⟨rfl, k + 1, by omega, by go_num, by omega, YES.out HB.out⟩
      · have a97 : ¬ (97 : Int) ≤ (n : Int) := by omega
        have a122 : (n : Int) ≤ 122 := by omega
        have a65 : ¬ (65 : Int) ≤ (n : Int) := by omega
        have a90 : (n : Int) ≤ 90 := by omega
        have a48 : ¬ (48 : Int) ≤ (n : Int) := by omega
        have a57 : (n : Int) ≤ 57 := by omega
        have q95 : ((n : Int) != 95) = true := by rw [bne_iff_ne]; omega
        have q46 : ((n : Int) != 46) = true := by rw [bne_iff_ne]; omega
        have q47 : ((n : Int) != 47) = true := by rw [bne_iff_ne]; omega
        have q45 : ((n : Int) != 45) = false := by rw [bne_eq_false_iff_eq]; omega
        have HB : Hid (nlB (n : Int) = true) := by show _ = _; unfold nlB; rw [Bool.or_eq_true, decide_eq_true_eq, decide_eq_true_eq]; omega
        clear h
        go_wp2
        go_roundg (L - (k + 1))
        case measure => omega
        case rel => exact ⟨rfl, k + 1, by omega, by go_num, by omega, YES.out HB.out⟩
      · have a97 : (97 : Int) ≤ (n : Int) := by omega
        have a122 : ¬ (n : Int) ≤ 122 := by omega
        have a65 : (65 : Int) ≤ (n : Int) := by omega
        have a90 : ¬ (n : Int) ≤ 90 := by omega
        have a48 : (48 : Int) ≤ (n : Int) := by omega
        have a57 : ¬ (n : Int) ≤ 57 := by omega
        have q95 : ((n : Int) != 95) = true := by rw [bne_iff_ne]; omega
        have q46 : ((n : Int) != 46) = true := by rw [bne_iff_ne]; omega
        have q47 : ((n : Int) != 47) = true := by rw [bne_iff_ne]; omega
        have q45 : ((n : Int) != 45) = true := by rw [bne_iff_ne]; omega
        have HB : Hid (nlB (n : Int) = false) := by show _ = _; unfold nlB; rw [Bool.or_eq_false_iff, decide_eq_false_iff_not, decide_eq_false_iff_not]; constructor <;> omega
        clear h
        go_wp2
        go_ret
        exact ⟨by rw [NO.out HB.out]; first | done | rfl, rfl⟩
      · have a97 : ¬ (97 : Int) ≤ (n : Int) := by omega
        have a122 : (n : Int) ≤ 122 := by omega
        have a65 : (65 : Int) ≤ (n : Int) := by omega
        have a90 : ¬ (n : Int) ≤ 90 := by omega
        have a48 : (48 : Int) ≤ (n : Int) := by omega
        have a57 : ¬ (n : Int) ≤ 57 := by omega
        have q95 : ((n : Int) != 95) = true := by rw [bne_iff_ne]; omega
        have q46 : ((n : Int) != 46) = true := by rw [bne_iff_ne]; omega
        have q47 : ((n : Int) != 47) = true := by rw [bne_iff_ne]; omega
        have q45 : ((n : Int) != 45) = true := by rw [bne_iff_ne]; omega
        have HB : Hid (nlB (n : Int) = false) := by show _ = _; unfold nlB; rw [Bool.or_eq_false_iff, decide_eq_false_iff_not, decide_eq_false_iff_not]; constructor <;> omega
        clear h
        go_wp2
        go_ret
        exact ⟨by rw [NO.out HB.out]; first | done | rfl, rfl⟩
      · have a97 : ¬ (97 : Int) ≤ (n : Int) := by omega
        have a122 : (n : Int) ≤ 122 := by omega
        have a65 : ¬ (65 : Int) ≤ (n : Int) := by omega
        have a90 : (n : Int) ≤ 90 := by omega
        have a48 : (48 : Int) ≤ (n : Int) := by omega
        have a57 : ¬ (n : Int) ≤ 57 := by omega
        have q95 : ((n : Int) != 95) = true := by rw [bne_iff_ne]; omega
        have q46 : ((n : Int) != 46) = true := by rw [bne_iff_ne]; omega
        have q47 : ((n : Int) != 47) = true := by rw [bne_iff_ne]; omega
        have q45 : ((n : Int) != 45) = true := by rw [bne_iff_ne]; omega
        have HB : Hid (nlB (n : Int) = false) := by show _ = _; unfold nlB; rw [Bool.or_eq_false_iff, decide_eq_false_iff_not, decide_eq_false_iff_not]; constructor <;> omega
        clear h
        go_wp2
        go_ret
        exact ⟨by rw [NO.out HB.out]; first | done | rfl, rfl⟩
      · have a97 : ¬ (97 : Int) ≤ (n : Int) := by omega
        have a122 : (n : Int) ≤ 122 := by omega
        have a65 : ¬ (65 : Int) ≤ (n : Int) := by omega
        have a90 : (n : Int) ≤ 90 := by omega
        have a48 : ¬ (48 : Int) ≤ (n : Int) := by omega
        have a57 : (n : Int) ≤ 57 := by omega
        have q95 : ((n : Int) != 95) = true := by rw [bne_iff_ne]; omega
        have q46 : ((n : Int) != 46) = true := by rw [bne_iff_ne]; omega
        have q47 : ((n : Int) != 47) = true := by rw [bne_iff_ne]; omega
        have q45 : ((n : Int) != 45) = true := by rw [bne_iff_ne]; omega
        have HB : Hid (nlB (n : Int) = false) := by show _ = _; unfold nlB; rw [Bool.or_eq_false_iff, decide_eq_false_iff_not, decide_eq_false_iff_not]; constructor <;> omega
        clear h
        go_wp2
        go_ret
        exact ⟨by rw [NO.out HB.out]; first | done | rfl, rfl⟩
    · have hkn : ¬ ((k : Int) < (L : Int)) := by omega
      have HA : Hid ((s.all fun b => nlB b.toNat) = true) := by
        show _ = _
        have := HT.out
        rwa [List.take_of_length_le (by rw [← HL.out]; omega)] at this
      have q1 := empty_eqA s
      have q2 := lit_eqA s [45]
      clear hsz
      have hsz := st_size s
      rw [← HL.out] at hsz
      by_cases h1 : s = []
      · have HV : Hid (R = false) := by show _ = _; rw [HR.out]; unfold nameB; rw [decide_eq_false (by simp [h1])]; rfl
        rw [decide_eq_true h1] at q1
        clear h1 q2
        go_wp2
        go_ret
        exact ⟨by rw [HV.out]; first | done | rfl, rfl⟩
      rw [decide_eq_false h1] at q1
      by_cases h2 : s = [45]
      · have HV : Hid (R = false) := by show _ = _; rw [HR.out]; unfold nameB; rw [decide_eq_false (by simp [h2])]; rfl
        rw [decide_eq_true h2] at q2
        clear h1 h2
        go_wp2
        go_ret
        exact ⟨by rw [HV.out]; first | done | rfl, rfl⟩
      rw [decide_eq_false h2] at q2
      have HV : Hid (R = decide (L ≤ m)) := by
        show _ = _
        rw [HR.out]
        unfold nameB
        rw [HA.out, Bool.and_true]
        by_cases h3 : s.length ≤ m
        · rw [decide_eq_true ⟨h1, h2, h3⟩, decide_eq_true (by rw [HL.out]; exact h3)]
        · rw [decide_eq_false (fun h => h3 h.2.2), decide_eq_false (by rw [HL.out]; exact h3)]
      clear h1 h2
      go_wp2
      go_ret
      exact ⟨by rw [HV.out]; first | done | rfl, rfl⟩

set_option maxHeartbeats 3200000 in
theorem rcur_any (s : List UInt8) (w : World) (hl : s.length ≤ 4611686018427387904) :
    Calls Tryz.prog 31 #[.string (st s)] w fun e w' => e = .returned (.bool (curB s)) ∧ w = w' := by
  have hsz := st_size s
  obtain ⟨L, hL⟩ : ∃ L, L = s.length := ⟨_, rfl⟩
  rw [← hL] at hsz hl
  have HL := Lib.hid hL
  obtain ⟨R, hR⟩ : ∃ R, R = curB s := ⟨_, rfl⟩
  have HR := Lib.hid hR
  rw [← hR]
  clear hR hL
  go_enter Tryz.func31, Tryz.ntmps31
  go_wp2
  go_loopg [3] L (fun gk i wr => w = wr ∧ ∃ k : Nat, k ≤ L ∧ i = .int .i64 k ∧ L - k ≤ gk ∧ Hid ((s.take k).all (fun b => capB b.toNat) = true))
  case atStart => exact ⟨rfl, 0, Nat.zero_le _, rfl, by omega, rfl⟩
  case round =>
    obtain ⟨rfl, k, hk, rfl, hgk, HT⟩ := hrel
    by_cases hlt : k < L
    · have hkk : k < (st s).size := by omega
      have hkl : k < s.length := by rw [← HL.out]; exact hlt
      have hat := st_at s k hkk
      obtain ⟨n, hn⟩ : ∃ n, n = (s.getD k 0).toNat := ⟨_, rfl⟩
      rw [← hn] at hat
      have HN := Lib.hid hn
      have HKL := Lib.hid hkl
      have hkz : (0 : Int) ≤ (k : Int) := by omega
      have hkn : (k : Int) < (L : Int) := by omega
      have YES : Hid (capB (n : Int) = true → (s.take (k + 1)).all (fun b => capB b.toNat) = true) := fun h => all_take_one HT.out HKL.out (by rw [← HN.out]; exact h)
      have NO : Hid (capB (n : Int) = false → R = false) := fun h => by
        rw [HR.out]
        unfold curB
        rw [all_not (p := fun b => capB b.toNat) HKL.out (by rw [← HN.out]; exact h), Bool.and_false]
      clear hn hkl
      by_cases h1 : n < 65
      · have a1 : (n : Int) < 65 := by omega
        have HB : Hid (capB (n : Int) = false) := decide_eq_false (by omega)
        clear h1
        go_wp2
        go_ret
        exact ⟨by rw [NO.out HB.out]; first | done | rfl, rfl⟩
      · have a1 : ¬ (n : Int) < 65 := by omega
        by_cases h2 : 90 < n
        · have a2 : (90 : Int) < (n : Int) := by omega
          have HB : Hid (capB (n : Int) = false) := decide_eq_false (by omega)
          clear h1 h2
          go_wp2
          go_ret
          exact ⟨by rw [NO.out HB.out]; first | done | rfl, rfl⟩
        · have a2 : ¬ (90 : Int) < (n : Int) := by omega
          have HB : Hid (capB (n : Int) = true) := decide_eq_true (by omega)
          clear h1 h2
          go_wp2
          go_roundg (L - (k + 1))
          case measure => omega
          case rel => exact ⟨rfl, k + 1, by omega, by go_num, by omega, YES.out HB.out⟩
    · have hkn : ¬ ((k : Int) < (L : Int)) := by omega
      have HA : Hid ((s.all fun b => capB b.toNat) = true) := by
        show _ = _
        have := HT.out
        rwa [List.take_of_length_le (by rw [← HL.out]; omega)] at this
      have HV : Hid (R = ((L : Int) == 3)) := by
        show _ = _
        rw [HR.out]
        unfold curB
        rw [HA.out, Bool.and_true]
        by_cases h3 : s.length = 3
        · rw [decide_eq_true h3, HL.out, h3]; rfl
        · rw [decide_eq_false h3]; symm; rw [beq_eq_false_iff_ne, HL.out]; omega
      go_wp2
      go_ret
      exact ⟨by rw [HV.out]; first | done | rfl, rfl⟩

set_option maxHeartbeats 400000 in
theorem ramount_any (n l : Int) (w : World) :
    Calls Tryz.prog 32 #[.int .i64 n, .int .i64 l] w fun e w' => e = .returned (.bool (amtB n l)) ∧ w = w' := by
  by_cases h1 : l ≤ n
  · by_cases h2 : n ≤ 1125899906842624
    · have e : amtB n l = true := decide_eq_true ⟨h1, h2⟩
      rw [e]; clear e
      go_enter Tryz.func32, Tryz.ntmps32
      go_wp2
      go_ret
      exact ⟨by first | rfl | (simp; omega), rfl⟩
    · have e : amtB n l = false := decide_eq_false (by omega)
      rw [e]; clear e
      have h3 : decide (n ≤ 1125899906842624) = false := decide_eq_false h2
      go_enter Tryz.func32, Tryz.ntmps32
      go_wp2
      go_ret
      exact ⟨by first | rfl | (simp; omega), rfl⟩
  · have e : amtB n l = false := decide_eq_false (by omega)
    rw [e]; clear e
    go_enter Tryz.func32, Tryz.ntmps32
    go_wp2
    go_ret
    exact ⟨by first | rfl | (simp; omega), rfl⟩
end Go.Proofs.YtkflakeocdlinaaGreatDoor
