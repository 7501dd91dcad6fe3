/-
  Contracts of the document's Text and of basis.Ratio.
-/
import Derived.Test.YtagailghjfkafaaDoorBasG
namespace Go.Proofs.YtagailghjfkafaaDoor
open Go.RowKit Ieee

theorem below_drewN {B : Nat} {a w : World} (h : Below B a w) (n : Nat) : Below B a (w.drewN n) := ⟨h.os, h.tape, h.output, h.size, h.block⟩

theorem tail_run (x y : UInt8) (w : World) : (Instr.slice 9 (.string ⟨#[x, y]⟩) (some (.int .i64 1)) none none).run Tryd.prog w = .ok (.string ⟨#[y]⟩) w := by
  rw [run_slice_string_l w 9 ⟨#[x, y]⟩ Tryd.underlying9 .i64 1 (by omega) (by rw [show (ByteArray.mk #[x, y]).size = 2 from rfl]; omega)]
  have e : (ByteArray.mk #[x, y]).extract (Int.toNat 1) (ByteArray.mk #[x, y]).size = ⟨#[y]⟩ := by
    rw [show (ByteArray.mk #[x, y]).size = 2 from rfl, show Int.toNat 1 = 1 from rfl]
    apply ByteArray.ext
    simp [ByteArray.extract, ByteArray.copySlice]
  rw [e]

theorem dgt_zero (q : Nat) (h : q < 10) : (((dgt (q / 10)).toNat : Int) == 48) = true := by
  rw [show q / 10 = 0 from by omega]; decide
theorem dgt_pos (q : Nat) (h0 : ¬ q < 10) (h : q < 100) : (((dgt (q / 10)).toNat : Int) == 48) = false := by
  have key : ∀ q : Fin 100, ¬ q.val < 10 → (((dgt (q.val / 10)).toNat : Int) == 48) = false := by decide +kernel
  exact key ⟨q, h⟩ h0

set_option maxHeartbeats 400000 in
theorem rtext_any (s : Bool) (r : Nat) (w : World) (h : r < 9223372036854775808) :
    Calls Tryd.prog 13 #[.float .f64 (wd s r), .int .u64 ((wd s r : Nat) : Int)] w (TextPost s r w) := by
  unfold TextPost txt
  have HO := kind_any s r w h
  have HP := rpoints_any s r w h
  have hN := ptsN_le s r
  obtain ⟨n, hnn⟩ : ∃ n, n = (ptsN s r).toNat := ⟨_, rfl⟩
  have en : ptsN s r = (n : Int) := by omega
  rw [en] at HP hN
  rw [← hnn]
  by_cases h1 : infR < r
  · rw [if_pos h1]
    rw [show kindN r = 0 from by unfold kindN; rw [if_pos h1]] at HO
    obtain ⟨f, hf⟩ : ∃ f, f = ptsE s r := ⟨_, rfl⟩
    rw [← hf] at HP
    have H1 := Lib.hid HO
    have H2 := Lib.hid HP
    clear HO HP h1 h hN hnn en hf
    go_enter Tryd.func13, Tryd.ntmps13
    go_wp2_with fail
    refine H2.out.mono ?_
    rintro e w' ⟨rfl, rfl⟩
    go_wp2_with fail
    refine H1.out.mono ?_
    rintro e w' ⟨rfl, rfl⟩
    go_wp2
    go_ret
    exact ⟨rfl, Below.refl _ _⟩
  · rw [if_neg h1]
    have hk0 : (kindN r == 0) = false := by unfold kindN; rw [if_neg h1]; (repeat' split) <;> rfl
    obtain ⟨k, hkk⟩ : ∃ k, k = kindN r := ⟨_, rfl⟩
    rw [← hkk] at HO hk0
    have H1 := Lib.hid HO
    rcases ptsE_cases s r with he | he | he
    · rw [he] at HP ⊢
      have H2 := Lib.hid HP
      rw [if_neg (by decide), if_neg (by decide)]
      unfold numTxt
      by_cases hw : n = 10000
      · subst hw
        rw [if_pos rfl]
        clear HO HP h1 h hN hnn en he hkk
        go_enter Tryd.func13, Tryd.ntmps13
        go_wp2_with fail
        refine H2.out.mono ?_
        rintro e w' ⟨rfl, rfl⟩
        go_wp2_with fail
        refine H1.out.mono ?_
        rintro e w' ⟨rfl, rfl⟩
        go_wp2
        go_ret
        exact ⟨rfl, Below.refl _ _⟩
      · rw [if_neg hw]
        have hw' : ((n : Int) == 10000) = false := by simp; omega
        have q1 : (n : Int) / 100 = ((n / 100 : Nat) : Int) := by omega
        have q2 : (n : Int) % 100 = ((n % 100 : Nat) : Int) := by omega
        have b0 : (0 : Int) ≤ (n : Int) := by omega
        have b1 : (n : Int) ≤ 10000 := by omega
        obtain ⟨q, hq⟩ : ∃ q, q = n / 100 := ⟨_, rfl⟩
        obtain ⟨m, hm⟩ : ∃ m, m = n % 100 := ⟨_, rfl⟩
        rw [← hq] at q1 ⊢
        rw [← hm] at q2 ⊢
        have hq100 : q < 100 := by omega
        have hm100 : m < 100 := by omega
        have H3 := Lib.hid (two_any q w hq100)
        have H4 : ∀ w, Hid (Calls Tryd.prog 24 #[.int .i64 (m : Int)] w fun e w' => e = .returned (.string (⟨#[dgt (m / 10), dgt (m % 10)]⟩)) ∧ ∃ n, w' = w.drewN n) := fun w => two_any m w hm100
        unfold S1
        have ht := tail_run (dgt (q / 10)) (dgt (q % 10))
        by_cases h10 : q < 10
        · rw [if_pos h10]
          have t0 : ((((ByteArray.mk #[dgt (q / 10), dgt (q % 10)])[0]'(show 0 < 2 by omega)).toNat : Int) == 48) = true := dgt_zero q h10
          have e1 : q % 10 = q := by omega
          have HE := Lib.hid e1
          clear HO HP h1 h hN hnn en he hkk hw hq hm hq100 hm100 h10 e1
          go_enter Tryd.func13, Tryd.ntmps13
          go_wp2_with fail
          refine H2.out.mono ?_
          rintro e w' ⟨rfl, rfl⟩
          go_wp2_with fail
          refine H1.out.mono ?_
          rintro e w' ⟨rfl, rfl⟩
          go_wp2_with fail
          refine H3.out.mono ?_
          rintro e w1 ⟨rfl, k1, rfl⟩
          have H6 := H4 (w.drewN k1)
          clear H4
          go_wp2_with fail
          refine H6.out.mono ?_
          rintro e w2 ⟨rfl, k2, rfl⟩
          go_wp2
          go_ret
          exact ⟨by rw [HE.out]; rfl, below_drewN (Below.refl _ _) _⟩
        · rw [if_neg h10]
          have t0 : ((((ByteArray.mk #[dgt (q / 10), dgt (q % 10)])[0]'(show 0 < 2 by omega)).toNat : Int) == 48) = false := dgt_pos q h10 hq100
          clear HO HP h1 h hN hnn en he hkk hw hq hm hq100 hm100 h10 ht
          go_enter Tryd.func13, Tryd.ntmps13
          go_wp2_with fail
          refine H2.out.mono ?_
          rintro e w' ⟨rfl, rfl⟩
          go_wp2_with fail
          refine H1.out.mono ?_
          rintro e w' ⟨rfl, rfl⟩
          go_wp2_with fail
          refine H3.out.mono ?_
          rintro e w1 ⟨rfl, k1, rfl⟩
          have H6 := H4 (w.drewN k1)
          clear H4
          go_wp2_with fail
          refine H6.out.mono ?_
          rintro e w2 ⟨rfl, k2, rfl⟩
          go_wp2
          go_ret
          exact ⟨rfl, below_drewN (Below.refl _ _) _⟩
    · rw [he] at HP ⊢
      have H2 := Lib.hid HP
      rw [if_neg (by decide), if_pos rfl]
      clear HO HP h1 h hN hnn en he hkk
      go_enter Tryd.func13, Tryd.ntmps13
      go_wp2_with fail
      refine H2.out.mono ?_
      rintro e w' ⟨rfl, rfl⟩
      go_wp2_with fail
      refine H1.out.mono ?_
      rintro e w' ⟨rfl, rfl⟩
      go_wp2
      go_ret
      exact ⟨rfl, Below.refl _ _⟩
    · rw [he] at HP ⊢
      have H2 := Lib.hid HP
      rw [if_pos rfl]
      clear HO HP h1 h hN hnn en he hkk
      go_enter Tryd.func13, Tryd.ntmps13
      go_wp2_with fail
      refine H2.out.mono ?_
      rintro e w' ⟨rfl, rfl⟩
      go_wp2_with fail
      refine H1.out.mono ?_
      rintro e w' ⟨rfl, rfl⟩
      go_wp2
      go_ret
      exact ⟨rfl, Below.refl _ _⟩
end Go.Proofs.YtagailghjfkafaaDoor
