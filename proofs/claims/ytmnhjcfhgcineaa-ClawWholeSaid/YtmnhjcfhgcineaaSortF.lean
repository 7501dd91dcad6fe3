/-
  Contract of slices.symMergeCmpFunc at money.mostFirst's comparison, in the general case.
-/
import Derived.Test.YtmnhjcfhgcineaaSortE
namespace Go.Proofs.Ytmnhjcfhgcineaa
open Go.RowKit

theorem Shuf.bound {a b n : Nat} {d e : Nat → Nat} (h : ∀ i, i < n → d i < n) (s : Shuf a b d e) (hb : b ≤ n) : ∀ i, i < n → e i < n := fun i hi => by
  by_cases hin : a ≤ i ∧ i < b
  · obtain ⟨q, q1, q2, e1⟩ := s.from_ hin.1 hin.2
    rw [e1]; exact h q (by omega)
  · rw [s.out hin]; exact h i hi

set_option maxHeartbeats 12800000 in
set_option maxRecDepth 100000 in
theorem merge_right (Bx bK n c g cap a m b mid N lo : Nat) (key : Nat → Int) (w0 : World) (K : Keys w0 Bx bK n c g key) (ham : a + 1 < m) (hmb : m + 1 < b) (hb : b ≤ n) (hn : n ≤ 1000000)
    (emid : mid = (a + b) / 2) (eN : N = mid + m) (hm : mid < m) (elo : lo = N - b) (hbN : b ≤ N)
    (IH : ∀ a' m' b', b' - a' < b - a → a' < m' → m' < b' → b' ≤ n → MergeOK Bx n g cap key w0 a' m' b') : MergeOK Bx n g cap key w0 a m b := by
  intro d w S hd M
  have HK := Lib.hid K
  have HS := Lib.hid S
  have HD := Lib.hid hd
  have HM := Lib.hid M
  have HIH := Lib.hid IH
  have B : Bnd a m b mid N lo mid := ⟨by omega, by omega, emid, eN, .inl ⟨hm, elo, rfl, hbN⟩⟩
  have HB := Lib.hid B
  have bl := B.lo_hi
  obtain ⟨bl1, bl2, bl3, bl4, bl5⟩ := bl
  have bm1 : a ≤ mid := by omega
  have bm2 : mid < b := by omega
  have bm3 : mid ≤ N := by omega
  have bm4 : m ≤ N := by omega
  have bm5 : N = mid + m := eN
  have t0 : ((m : Int) - (a : Int) == 1) = false := by simp; omega
  have t9 : ((b : Int) - (m : Int) == 1) = false := by simp; omega
  have q1 : ((a : Int) + (b : Int)) / 2 = (mid : Int) := by omega
  have q2 : (mid : Int) + (m : Int) = (N : Int) := by omega
  have t5 : decide ((mid : Int) < (m : Int)) = true := decide_eq_true (by omega)
  have q3 : (N : Int) - (b : Int) = (lo : Int) := by omega
  have HBM := Lib.hid bm5
  clear K S hd M IH B emid eN bm5 elo
  go_enter Try.func45, Try.ntmps45
  go_wp2
  clear q1 q2
  go_loopg [20, 21] (mid - lo) (fun g1 vs vr wr => ∃ (s r : Nat), vs = .int .i64 s ∧ vr = .int .i64 r ∧ lo ≤ s ∧ s ≤ r ∧ r ≤ mid ∧ r - s ≤ g1 ∧ Hid (SW w0 g n d wr) ∧ Hid (Cut key lo mid N s r d))
  case atStart => exact ⟨lo, mid, rfl, rfl, Nat.le_refl _, by omega, Nat.le_refl _, by omega, HS, Cut.start⟩
  case round =>
    clear HS
    obtain ⟨s, r, rfl, rfl, hs, hsr, hr, hg1, HS, HCT⟩ := hrel
    by_cases hlt : s < r
    · obtain ⟨h, hh⟩ : ∃ h, h = (s + r) / 2 := ⟨_, rfl⟩
      have r1 : s ≤ h := by omega
      have r2 : h < r := by omega
      have hin := HB.out.in_ (c := h) (by omega) (by omega)
      obtain ⟨o, ho⟩ : ∃ o, o = N - 1 - h := ⟨_, rfl⟩
      rw [← ho] at hin
      obtain ⟨i1, i2, i3, i4, i5⟩ := hin
      have q1 : ((s : Int) + (r : Int)) / 2 = (h : Int) := by omega
      have q2 : (N : Int) - 1 - (h : Int) = (o : Int) := by omega
      have c1 : wr.cell? ⟨g, o, none⟩ = some (.int .i64 (d o)) := HS.out.row.cell (by omega)
      have c2 : wr.cell? ⟨g, h, none⟩ = some (.int .i64 (d h)) := HS.out.row.cell (by omega)
      have hcmp := fun k : Nat => HK.out.cmp (HS.out.drewN k) (d o) (d h) (HD.out _ (by omega)) (HD.out _ (by omega))
      have hlow := HM.out.low h o i1 i2 i3 i4
      obtain ⟨x, hx⟩ : ∃ x, x = d o := ⟨_, rfl⟩
      obtain ⟨y, hy⟩ : ∃ y, y = d h := ⟨_, rfl⟩
      rw [← hx] at c1 hcmp hlow
      rw [← hy] at c2 hcmp hlow
      have HX := Lib.hid hx
      have HY := Lib.hid hy
      have HOO := Lib.hid ho
      have HC := Lib.hid hcmp
      have HLW := Lib.hid hlow
      have z1 : (0 : Int) ≤ (h : Int) := by omega
      have z2 : (h : Int) < (n : Int) := by omega
      have z3 : (0 : Int) ≤ (o : Int) := by omega
      have z4 : (o : Int) < (n : Int) := by omega
      have z5 : IntKind.i64.wrap (o : Int) = (o : Int) := IntWalk.i64_in _ (by omega)
      clear hx hy hh ho hcmp hlow
      by_cases hlv : key y < key x
      · have t1 := cmpI_neg hlv
        go_wp2_with fail
        go_quiet ((go_at_call 34; exact Calls.quiet_of (HC.out _)))
        go_wp2
        go_roundg (h - s)
        case measure => omega
        case rel => exact ⟨s, h, rfl, rfl, hs, by omega, by omega, by omega, HS.out.drewN nq, HCT.out.down HM.out HB.out (by omega) (by omega) (by rw [← HOO.out, ← HX.out, ← HY.out]; exact (bef_iff HLW.out).mpr (by omega))⟩
      · have t1 := cmpI_pos hlv
        go_wp2_with fail
        go_quiet ((go_at_call 34; exact Calls.quiet_of (HC.out _)))
        go_wp2
        go_roundg (r - (h + 1))
        case measure => omega
        case rel => exact ⟨h + 1, r, by go_num, rfl, by omega, by omega, hr, by omega, HS.out.drewN nq, HCT.out.up HM.out HB.out (by omega) (by omega) (by rw [← HOO.out, ← HX.out, ← HY.out]; exact bef_not HLW.out (by omega))⟩
    · obtain rfl : s = r := by omega
      obtain ⟨hh, g1', g2', g3', g4', g5', g6', g7'⟩ := HCT.out.halves HM.out HB.out hs hr
      obtain ⟨D, hD⟩ : ∃ D, D = rotF d s m (N - s) := ⟨_, rfl⟩
      rw [← hD] at hh
      obtain ⟨e, he⟩ : ∃ e, e = N - s := ⟨_, rfl⟩
      rw [← he] at hh hD g3' g4' g6'
      have HH := Lib.hid hh
      have hsh : Shuf a b d D := by rw [hD]; exact (rotF_shuf d s m e g2' g3').mono g1' g4'
      have HSh := Lib.hid hsh
      have HDD := Lib.hid hD
      have q5 : (N : Int) - (s : Int) = (e : Int) := by omega
      have hem : e + s = mid + m := by have := HBM.out; omega
      clear hh hD he hsh HCT
      rcases (by omega : (s < m ∧ m < e) ∨ ¬ s < m ∨ (s < m ∧ ¬ m < e)) with ⟨c1a, c1b⟩ | c1a | ⟨c1a, c1b⟩
      · rcases (by omega : (a < s ∧ s < mid) ∨ ¬ a < s ∨ (a < s ∧ ¬ s < mid)) with ⟨c2a, c2b⟩ | c2a | ⟨c2a, c2b⟩
        · rcases (by omega : (mid < e ∧ e < b) ∨ ¬ mid < e ∨ (mid < e ∧ ¬ e < b)) with ⟨c3a, c3b⟩ | c3a | ⟨c3a, c3b⟩
          · have HR := Lib.hid (rotate_any n g cap s m e d w0 wr (.func (.func 34) #[] #[.pointer (some ⟨Bx, 0, none⟩)]) HS.out c1a c1b (by omega) hn)
            go_wp2_with fail
            refine HR.out.mono ?_
            rintro e' w1 ⟨rfl, k1⟩
            rw [← HDD.out] at k1
            have HS1 := Lib.hid k1
            clear k1 HR HS
            have HM2 := Lib.hid (HIH.out a s mid (by omega) c2a c2b (by omega) D w1 HS1.out (Shuf.bound HD.out HSh.out hb) HH.out.one)
            go_wp2_with fail
            refine HM2.out.mono ?_
            rintro e' w2 ⟨rfl, D2, k1, k2, k3⟩
            have HS2 := Lib.hid k1
            have HO2 := Lib.hid k2
            have HF2 := Lib.hid k3
            clear k1 k2 k3 HM2
            have HM3 := Lib.hid (HIH.out mid e b (by omega) c3a c3b hb D2 w2 HS2.out (Shuf.bound HD.out (HSh.out.trans (HF2.out.mono (Nat.le_refl _) (by omega))) hb) (HH.out.two.shuf_out HF2.out (.inr (Nat.le_refl _)) (by omega) (by omega)))
            go_wp2_with fail
            refine HM3.out.mono ?_
            rintro e' w3 ⟨rfl, D3, k1, k2, k3⟩
            have HS3 := Lib.hid k1
            have HO3 := Lib.hid k2
            have HF3 := Lib.hid k3
            clear k1 k2 k3 HM3
            go_wp2
            go_end0
            exact ⟨rfl, D3, HS3.out, ((HH.out.crs.left HF2.out).right HF3.out).ordd (HO2.out.shuf_out HF3.out (.inl (Nat.le_refl _))) HO3.out, HSh.out.trans ((HF2.out.mono (Nat.le_refl _) (by omega)).trans (HF3.out.mono (by omega) (Nat.le_refl _)))⟩
          · have HR := Lib.hid (rotate_any n g cap s m e d w0 wr (.func (.func 34) #[] #[.pointer (some ⟨Bx, 0, none⟩)]) HS.out c1a c1b (by omega) hn)
            go_wp2_with fail
            refine HR.out.mono ?_
            rintro e' w1 ⟨rfl, k1⟩
            rw [← HDD.out] at k1
            have HS1 := Lib.hid k1
            clear k1 HR HS
            have HM2 := Lib.hid (HIH.out a s mid (by omega) c2a c2b (by omega) D w1 HS1.out (Shuf.bound HD.out HSh.out hb) HH.out.one)
            go_wp2_with fail
            refine HM2.out.mono ?_
            rintro e' w2 ⟨rfl, D2, k1, k2, k3⟩
            have HS2 := Lib.hid k1
            have HO2 := Lib.hid k2
            have HF2 := Lib.hid k3
            clear k1 k2 k3 HM2
            have HO3 : Hid (Ordd key mid b D2) := by have := (HH.out.two.shuf_out HF2.out (.inr (Nat.le_refl _)) (by omega) (by omega)).two; rw [show e = mid from by omega] at this; exact this
            have HF3 : Hid (Shuf mid b D2 D2) := Shuf.refl _ _ _
            have HS3 := HS2
            clear HS2
            go_wp2
            go_end0
            exact ⟨rfl, D2, HS3.out, ((HH.out.crs.left HF2.out).right HF3.out).ordd (HO2.out.shuf_out HF3.out (.inl (Nat.le_refl _))) HO3.out, HSh.out.trans ((HF2.out.mono (Nat.le_refl _) (by omega)).trans (HF3.out.mono (by omega) (Nat.le_refl _)))⟩
          · have HR := Lib.hid (rotate_any n g cap s m e d w0 wr (.func (.func 34) #[] #[.pointer (some ⟨Bx, 0, none⟩)]) HS.out c1a c1b (by omega) hn)
            go_wp2_with fail
            refine HR.out.mono ?_
            rintro e' w1 ⟨rfl, k1⟩
            rw [← HDD.out] at k1
            have HS1 := Lib.hid k1
            clear k1 HR HS
            have HM2 := Lib.hid (HIH.out a s mid (by omega) c2a c2b (by omega) D w1 HS1.out (Shuf.bound HD.out HSh.out hb) HH.out.one)
            go_wp2_with fail
            refine HM2.out.mono ?_
            rintro e' w2 ⟨rfl, D2, k1, k2, k3⟩
            have HS2 := Lib.hid k1
            have HO2 := Lib.hid k2
            have HF2 := Lib.hid k3
            clear k1 k2 k3 HM2
            have HO3 : Hid (Ordd key mid b D2) := by have := (HH.out.two.shuf_out HF2.out (.inr (Nat.le_refl _)) (by omega) (by omega)).one; rw [show e = b from by omega] at this; exact this
            have HF3 : Hid (Shuf mid b D2 D2) := Shuf.refl _ _ _
            have HS3 := HS2
            clear HS2
            go_wp2
            go_end0
            exact ⟨rfl, D2, HS3.out, ((HH.out.crs.left HF2.out).right HF3.out).ordd (HO2.out.shuf_out HF3.out (.inl (Nat.le_refl _))) HO3.out, HSh.out.trans ((HF2.out.mono (Nat.le_refl _) (by omega)).trans (HF3.out.mono (by omega) (Nat.le_refl _)))⟩
        · rcases (by omega : (mid < e ∧ e < b) ∨ ¬ mid < e ∨ (mid < e ∧ ¬ e < b)) with ⟨c3a, c3b⟩ | c3a | ⟨c3a, c3b⟩
          · have HR := Lib.hid (rotate_any n g cap s m e d w0 wr (.func (.func 34) #[] #[.pointer (some ⟨Bx, 0, none⟩)]) HS.out c1a c1b (by omega) hn)
            go_wp2_with fail
            refine HR.out.mono ?_
            rintro e' w1 ⟨rfl, k1⟩
            rw [← HDD.out] at k1
            have HS1 := Lib.hid k1
            clear k1 HR HS
            have HO2 : Hid (Ordd key a mid D) := by have := HH.out.one.two; rw [show s = a from by omega] at this; exact this
            have HF2 : Hid (Shuf a mid D D) := Shuf.refl _ _ _
            have HS2 := HS1
            clear HS1
            have HM3 := Lib.hid (HIH.out mid e b (by omega) c3a c3b hb D w1 HS2.out (Shuf.bound HD.out (HSh.out.trans (HF2.out.mono (Nat.le_refl _) (by omega))) hb) (HH.out.two.shuf_out HF2.out (.inr (Nat.le_refl _)) (by omega) (by omega)))
            go_wp2_with fail
            refine HM3.out.mono ?_
            rintro e' w3 ⟨rfl, D3, k1, k2, k3⟩
            have HS3 := Lib.hid k1
            have HO3 := Lib.hid k2
            have HF3 := Lib.hid k3
            clear k1 k2 k3 HM3
            go_wp2
            go_end0
            exact ⟨rfl, D3, HS3.out, ((HH.out.crs.left HF2.out).right HF3.out).ordd (HO2.out.shuf_out HF3.out (.inl (Nat.le_refl _))) HO3.out, HSh.out.trans ((HF2.out.mono (Nat.le_refl _) (by omega)).trans (HF3.out.mono (by omega) (Nat.le_refl _)))⟩
          · have HR := Lib.hid (rotate_any n g cap s m e d w0 wr (.func (.func 34) #[] #[.pointer (some ⟨Bx, 0, none⟩)]) HS.out c1a c1b (by omega) hn)
            go_wp2_with fail
            refine HR.out.mono ?_
            rintro e' w1 ⟨rfl, k1⟩
            rw [← HDD.out] at k1
            have HS1 := Lib.hid k1
            clear k1 HR HS
            have HO2 : Hid (Ordd key a mid D) := by have := HH.out.one.two; rw [show s = a from by omega] at this; exact this
            have HF2 : Hid (Shuf a mid D D) := Shuf.refl _ _ _
            have HS2 := HS1
            clear HS1
            have HO3 : Hid (Ordd key mid b D) := by have := (HH.out.two.shuf_out HF2.out (.inr (Nat.le_refl _)) (by omega) (by omega)).two; rw [show e = mid from by omega] at this; exact this
            have HF3 : Hid (Shuf mid b D D) := Shuf.refl _ _ _
            have HS3 := HS2
            clear HS2
            go_wp2
            go_end0
            exact ⟨rfl, D, HS3.out, ((HH.out.crs.left HF2.out).right HF3.out).ordd (HO2.out.shuf_out HF3.out (.inl (Nat.le_refl _))) HO3.out, HSh.out.trans ((HF2.out.mono (Nat.le_refl _) (by omega)).trans (HF3.out.mono (by omega) (Nat.le_refl _)))⟩
          · have HR := Lib.hid (rotate_any n g cap s m e d w0 wr (.func (.func 34) #[] #[.pointer (some ⟨Bx, 0, none⟩)]) HS.out c1a c1b (by omega) hn)
            go_wp2_with fail
            refine HR.out.mono ?_
            rintro e' w1 ⟨rfl, k1⟩
            rw [← HDD.out] at k1
            have HS1 := Lib.hid k1
            clear k1 HR HS
            have HO2 : Hid (Ordd key a mid D) := by have := HH.out.one.two; rw [show s = a from by omega] at this; exact this
            have HF2 : Hid (Shuf a mid D D) := Shuf.refl _ _ _
            have HS2 := HS1
            clear HS1
            have HO3 : Hid (Ordd key mid b D) := by have := (HH.out.two.shuf_out HF2.out (.inr (Nat.le_refl _)) (by omega) (by omega)).one; rw [show e = b from by omega] at this; exact this
            have HF3 : Hid (Shuf mid b D D) := Shuf.refl _ _ _
            have HS3 := HS2
            clear HS2
            go_wp2
            go_end0
            exact ⟨rfl, D, HS3.out, ((HH.out.crs.left HF2.out).right HF3.out).ordd (HO2.out.shuf_out HF3.out (.inl (Nat.le_refl _))) HO3.out, HSh.out.trans ((HF2.out.mono (Nat.le_refl _) (by omega)).trans (HF3.out.mono (by omega) (Nat.le_refl _)))⟩
        · rcases (by omega : (mid < e ∧ e < b) ∨ ¬ mid < e ∨ (mid < e ∧ ¬ e < b)) with ⟨c3a, c3b⟩ | c3a | ⟨c3a, c3b⟩
          · have HR := Lib.hid (rotate_any n g cap s m e d w0 wr (.func (.func 34) #[] #[.pointer (some ⟨Bx, 0, none⟩)]) HS.out c1a c1b (by omega) hn)
            go_wp2_with fail
            refine HR.out.mono ?_
            rintro e' w1 ⟨rfl, k1⟩
            rw [← HDD.out] at k1
            have HS1 := Lib.hid k1
            clear k1 HR HS
            have HO2 : Hid (Ordd key a mid D) := by have := HH.out.one.one; rw [show s = mid from by omega] at this; exact this
            have HF2 : Hid (Shuf a mid D D) := Shuf.refl _ _ _
            have HS2 := HS1
            clear HS1
            have HM3 := Lib.hid (HIH.out mid e b (by omega) c3a c3b hb D w1 HS2.out (Shuf.bound HD.out (HSh.out.trans (HF2.out.mono (Nat.le_refl _) (by omega))) hb) (HH.out.two.shuf_out HF2.out (.inr (Nat.le_refl _)) (by omega) (by omega)))
            go_wp2_with fail
            refine HM3.out.mono ?_
            rintro e' w3 ⟨rfl, D3, k1, k2, k3⟩
            have HS3 := Lib.hid k1
            have HO3 := Lib.hid k2
            have HF3 := Lib.hid k3
            clear k1 k2 k3 HM3
            go_wp2
            go_end0
            exact ⟨rfl, D3, HS3.out, ((HH.out.crs.left HF2.out).right HF3.out).ordd (HO2.out.shuf_out HF3.out (.inl (Nat.le_refl _))) HO3.out, HSh.out.trans ((HF2.out.mono (Nat.le_refl _) (by omega)).trans (HF3.out.mono (by omega) (Nat.le_refl _)))⟩
          · have HR := Lib.hid (rotate_any n g cap s m e d w0 wr (.func (.func 34) #[] #[.pointer (some ⟨Bx, 0, none⟩)]) HS.out c1a c1b (by omega) hn)
            go_wp2_with fail
            refine HR.out.mono ?_
            rintro e' w1 ⟨rfl, k1⟩
            rw [← HDD.out] at k1
            have HS1 := Lib.hid k1
            clear k1 HR HS
            have HO2 : Hid (Ordd key a mid D) := by have := HH.out.one.one; rw [show s = mid from by omega] at this; exact this
            have HF2 : Hid (Shuf a mid D D) := Shuf.refl _ _ _
            have HS2 := HS1
            clear HS1
            have HO3 : Hid (Ordd key mid b D) := by have := (HH.out.two.shuf_out HF2.out (.inr (Nat.le_refl _)) (by omega) (by omega)).two; rw [show e = mid from by omega] at this; exact this
            have HF3 : Hid (Shuf mid b D D) := Shuf.refl _ _ _
            have HS3 := HS2
            clear HS2
            go_wp2
            go_end0
            exact ⟨rfl, D, HS3.out, ((HH.out.crs.left HF2.out).right HF3.out).ordd (HO2.out.shuf_out HF3.out (.inl (Nat.le_refl _))) HO3.out, HSh.out.trans ((HF2.out.mono (Nat.le_refl _) (by omega)).trans (HF3.out.mono (by omega) (Nat.le_refl _)))⟩
          · have HR := Lib.hid (rotate_any n g cap s m e d w0 wr (.func (.func 34) #[] #[.pointer (some ⟨Bx, 0, none⟩)]) HS.out c1a c1b (by omega) hn)
            go_wp2_with fail
            refine HR.out.mono ?_
            rintro e' w1 ⟨rfl, k1⟩
            rw [← HDD.out] at k1
            have HS1 := Lib.hid k1
            clear k1 HR HS
            have HO2 : Hid (Ordd key a mid D) := by have := HH.out.one.one; rw [show s = mid from by omega] at this; exact this
            have HF2 : Hid (Shuf a mid D D) := Shuf.refl _ _ _
            have HS2 := HS1
            clear HS1
            have HO3 : Hid (Ordd key mid b D) := by have := (HH.out.two.shuf_out HF2.out (.inr (Nat.le_refl _)) (by omega) (by omega)).one; rw [show e = b from by omega] at this; exact this
            have HF3 : Hid (Shuf mid b D D) := Shuf.refl _ _ _
            have HS3 := HS2
            clear HS2
            go_wp2
            go_end0
            exact ⟨rfl, D, HS3.out, ((HH.out.crs.left HF2.out).right HF3.out).ordd (HO2.out.shuf_out HF3.out (.inl (Nat.le_refl _))) HO3.out, HSh.out.trans ((HF2.out.mono (Nat.le_refl _) (by omega)).trans (HF3.out.mono (by omega) (Nat.le_refl _)))⟩
      · rcases (by omega : (a < s ∧ s < mid) ∨ ¬ a < s ∨ (a < s ∧ ¬ s < mid)) with ⟨c2a, c2b⟩ | c2a | ⟨c2a, c2b⟩
        · rcases (by omega : (mid < e ∧ e < b) ∨ ¬ mid < e ∨ (mid < e ∧ ¬ e < b)) with ⟨c3a, c3b⟩ | c3a | ⟨c3a, c3b⟩
          · have HS1 : Hid (SW w0 g n D wr) := by rw [HDD.out, show s = m from by omega, rotF_left]; exact HS
            clear HS
            have HM2 := Lib.hid (HIH.out a s mid (by omega) c2a c2b (by omega) D wr HS1.out (Shuf.bound HD.out HSh.out hb) HH.out.one)
            go_wp2_with fail
            refine HM2.out.mono ?_
            rintro e' w2 ⟨rfl, D2, k1, k2, k3⟩
            have HS2 := Lib.hid k1
            have HO2 := Lib.hid k2
            have HF2 := Lib.hid k3
            clear k1 k2 k3 HM2
            have HM3 := Lib.hid (HIH.out mid e b (by omega) c3a c3b hb D2 w2 HS2.out (Shuf.bound HD.out (HSh.out.trans (HF2.out.mono (Nat.le_refl _) (by omega))) hb) (HH.out.two.shuf_out HF2.out (.inr (Nat.le_refl _)) (by omega) (by omega)))
            go_wp2_with fail
            refine HM3.out.mono ?_
            rintro e' w3 ⟨rfl, D3, k1, k2, k3⟩
            have HS3 := Lib.hid k1
            have HO3 := Lib.hid k2
            have HF3 := Lib.hid k3
            clear k1 k2 k3 HM3
            go_wp2
            go_end0
            exact ⟨rfl, D3, HS3.out, ((HH.out.crs.left HF2.out).right HF3.out).ordd (HO2.out.shuf_out HF3.out (.inl (Nat.le_refl _))) HO3.out, HSh.out.trans ((HF2.out.mono (Nat.le_refl _) (by omega)).trans (HF3.out.mono (by omega) (Nat.le_refl _)))⟩
          · have HS1 : Hid (SW w0 g n D wr) := by rw [HDD.out, show s = m from by omega, rotF_left]; exact HS
            clear HS
            have HM2 := Lib.hid (HIH.out a s mid (by omega) c2a c2b (by omega) D wr HS1.out (Shuf.bound HD.out HSh.out hb) HH.out.one)
            go_wp2_with fail
            refine HM2.out.mono ?_
            rintro e' w2 ⟨rfl, D2, k1, k2, k3⟩
            have HS2 := Lib.hid k1
            have HO2 := Lib.hid k2
            have HF2 := Lib.hid k3
            clear k1 k2 k3 HM2
            have HO3 : Hid (Ordd key mid b D2) := by have := (HH.out.two.shuf_out HF2.out (.inr (Nat.le_refl _)) (by omega) (by omega)).two; rw [show e = mid from by omega] at this; exact this
            have HF3 : Hid (Shuf mid b D2 D2) := Shuf.refl _ _ _
            have HS3 := HS2
            clear HS2
            go_wp2
            go_end0
            exact ⟨rfl, D2, HS3.out, ((HH.out.crs.left HF2.out).right HF3.out).ordd (HO2.out.shuf_out HF3.out (.inl (Nat.le_refl _))) HO3.out, HSh.out.trans ((HF2.out.mono (Nat.le_refl _) (by omega)).trans (HF3.out.mono (by omega) (Nat.le_refl _)))⟩
          · have HS1 : Hid (SW w0 g n D wr) := by rw [HDD.out, show s = m from by omega, rotF_left]; exact HS
            clear HS
            have HM2 := Lib.hid (HIH.out a s mid (by omega) c2a c2b (by omega) D wr HS1.out (Shuf.bound HD.out HSh.out hb) HH.out.one)
            go_wp2_with fail
            refine HM2.out.mono ?_
            rintro e' w2 ⟨rfl, D2, k1, k2, k3⟩
            have HS2 := Lib.hid k1
            have HO2 := Lib.hid k2
            have HF2 := Lib.hid k3
            clear k1 k2 k3 HM2
            have HO3 : Hid (Ordd key mid b D2) := by have := (HH.out.two.shuf_out HF2.out (.inr (Nat.le_refl _)) (by omega) (by omega)).one; rw [show e = b from by omega] at this; exact this
            have HF3 : Hid (Shuf mid b D2 D2) := Shuf.refl _ _ _
            have HS3 := HS2
            clear HS2
            go_wp2
            go_end0
            exact ⟨rfl, D2, HS3.out, ((HH.out.crs.left HF2.out).right HF3.out).ordd (HO2.out.shuf_out HF3.out (.inl (Nat.le_refl _))) HO3.out, HSh.out.trans ((HF2.out.mono (Nat.le_refl _) (by omega)).trans (HF3.out.mono (by omega) (Nat.le_refl _)))⟩
        · rcases (by omega : (mid < e ∧ e < b) ∨ ¬ mid < e ∨ (mid < e ∧ ¬ e < b)) with ⟨c3a, c3b⟩ | c3a | ⟨c3a, c3b⟩
          · have HS1 : Hid (SW w0 g n D wr) := by rw [HDD.out, show s = m from by omega, rotF_left]; exact HS
            clear HS
            have HO2 : Hid (Ordd key a mid D) := by have := HH.out.one.two; rw [show s = a from by omega] at this; exact this
            have HF2 : Hid (Shuf a mid D D) := Shuf.refl _ _ _
            have HS2 := HS1
            clear HS1
            have HM3 := Lib.hid (HIH.out mid e b (by omega) c3a c3b hb D wr HS2.out (Shuf.bound HD.out (HSh.out.trans (HF2.out.mono (Nat.le_refl _) (by omega))) hb) (HH.out.two.shuf_out HF2.out (.inr (Nat.le_refl _)) (by omega) (by omega)))
            go_wp2_with fail
            refine HM3.out.mono ?_
            rintro e' w3 ⟨rfl, D3, k1, k2, k3⟩
            have HS3 := Lib.hid k1
            have HO3 := Lib.hid k2
            have HF3 := Lib.hid k3
            clear k1 k2 k3 HM3
            go_wp2
            go_end0
            exact ⟨rfl, D3, HS3.out, ((HH.out.crs.left HF2.out).right HF3.out).ordd (HO2.out.shuf_out HF3.out (.inl (Nat.le_refl _))) HO3.out, HSh.out.trans ((HF2.out.mono (Nat.le_refl _) (by omega)).trans (HF3.out.mono (by omega) (Nat.le_refl _)))⟩
          · have HS1 : Hid (SW w0 g n D wr) := by rw [HDD.out, show s = m from by omega, rotF_left]; exact HS
            clear HS
            have HO2 : Hid (Ordd key a mid D) := by have := HH.out.one.two; rw [show s = a from by omega] at this; exact this
            have HF2 : Hid (Shuf a mid D D) := Shuf.refl _ _ _
            have HS2 := HS1
            clear HS1
            have HO3 : Hid (Ordd key mid b D) := by have := (HH.out.two.shuf_out HF2.out (.inr (Nat.le_refl _)) (by omega) (by omega)).two; rw [show e = mid from by omega] at this; exact this
            have HF3 : Hid (Shuf mid b D D) := Shuf.refl _ _ _
            have HS3 := HS2
            clear HS2
            go_wp2
            go_end0
            exact ⟨rfl, D, HS3.out, ((HH.out.crs.left HF2.out).right HF3.out).ordd (HO2.out.shuf_out HF3.out (.inl (Nat.le_refl _))) HO3.out, HSh.out.trans ((HF2.out.mono (Nat.le_refl _) (by omega)).trans (HF3.out.mono (by omega) (Nat.le_refl _)))⟩
          · have HS1 : Hid (SW w0 g n D wr) := by rw [HDD.out, show s = m from by omega, rotF_left]; exact HS
            clear HS
            have HO2 : Hid (Ordd key a mid D) := by have := HH.out.one.two; rw [show s = a from by omega] at this; exact this
            have HF2 : Hid (Shuf a mid D D) := Shuf.refl _ _ _
            have HS2 := HS1
            clear HS1
            have HO3 : Hid (Ordd key mid b D) := by have := (HH.out.two.shuf_out HF2.out (.inr (Nat.le_refl _)) (by omega) (by omega)).one; rw [show e = b from by omega] at this; exact this
            have HF3 : Hid (Shuf mid b D D) := Shuf.refl _ _ _
            have HS3 := HS2
            clear HS2
            go_wp2
            go_end0
            exact ⟨rfl, D, HS3.out, ((HH.out.crs.left HF2.out).right HF3.out).ordd (HO2.out.shuf_out HF3.out (.inl (Nat.le_refl _))) HO3.out, HSh.out.trans ((HF2.out.mono (Nat.le_refl _) (by omega)).trans (HF3.out.mono (by omega) (Nat.le_refl _)))⟩
        · rcases (by omega : (mid < e ∧ e < b) ∨ ¬ mid < e ∨ (mid < e ∧ ¬ e < b)) with ⟨c3a, c3b⟩ | c3a | ⟨c3a, c3b⟩
          · have HS1 : Hid (SW w0 g n D wr) := by rw [HDD.out, show s = m from by omega, rotF_left]; exact HS
            clear HS
            have HO2 : Hid (Ordd key a mid D) := by have := HH.out.one.one; rw [show s = mid from by omega] at this; exact this
            have HF2 : Hid (Shuf a mid D D) := Shuf.refl _ _ _
            have HS2 := HS1
            clear HS1
            have HM3 := Lib.hid (HIH.out mid e b (by omega) c3a c3b hb D wr HS2.out (Shuf.bound HD.out (HSh.out.trans (HF2.out.mono (Nat.le_refl _) (by omega))) hb) (HH.out.two.shuf_out HF2.out (.inr (Nat.le_refl _)) (by omega) (by omega)))
            go_wp2_with fail
            refine HM3.out.mono ?_
            rintro e' w3 ⟨rfl, D3, k1, k2, k3⟩
            have HS3 := Lib.hid k1
            have HO3 := Lib.hid k2
            have HF3 := Lib.hid k3
            clear k1 k2 k3 HM3
            go_wp2
            go_end0
            exact ⟨rfl, D3, HS3.out, ((HH.out.crs.left HF2.out).right HF3.out).ordd (HO2.out.shuf_out HF3.out (.inl (Nat.le_refl _))) HO3.out, HSh.out.trans ((HF2.out.mono (Nat.le_refl _) (by omega)).trans (HF3.out.mono (by omega) (Nat.le_refl _)))⟩
          · have HS1 : Hid (SW w0 g n D wr) := by rw [HDD.out, show s = m from by omega, rotF_left]; exact HS
            clear HS
            have HO2 : Hid (Ordd key a mid D) := by have := HH.out.one.one; rw [show s = mid from by omega] at this; exact this
            have HF2 : Hid (Shuf a mid D D) := Shuf.refl _ _ _
            have HS2 := HS1
            clear HS1
            have HO3 : Hid (Ordd key mid b D) := by have := (HH.out.two.shuf_out HF2.out (.inr (Nat.le_refl _)) (by omega) (by omega)).two; rw [show e = mid from by omega] at this; exact this
            have HF3 : Hid (Shuf mid b D D) := Shuf.refl _ _ _
            have HS3 := HS2
            clear HS2
            go_wp2
            go_end0
            exact ⟨rfl, D, HS3.out, ((HH.out.crs.left HF2.out).right HF3.out).ordd (HO2.out.shuf_out HF3.out (.inl (Nat.le_refl _))) HO3.out, HSh.out.trans ((HF2.out.mono (Nat.le_refl _) (by omega)).trans (HF3.out.mono (by omega) (Nat.le_refl _)))⟩
          · have HS1 : Hid (SW w0 g n D wr) := by rw [HDD.out, show s = m from by omega, rotF_left]; exact HS
            clear HS
            have HO2 : Hid (Ordd key a mid D) := by have := HH.out.one.one; rw [show s = mid from by omega] at this; exact this
            have HF2 : Hid (Shuf a mid D D) := Shuf.refl _ _ _
            have HS2 := HS1
            clear HS1
            have HO3 : Hid (Ordd key mid b D) := by have := (HH.out.two.shuf_out HF2.out (.inr (Nat.le_refl _)) (by omega) (by omega)).one; rw [show e = b from by omega] at this; exact this
            have HF3 : Hid (Shuf mid b D D) := Shuf.refl _ _ _
            have HS3 := HS2
            clear HS2
            go_wp2
            go_end0
            exact ⟨rfl, D, HS3.out, ((HH.out.crs.left HF2.out).right HF3.out).ordd (HO2.out.shuf_out HF3.out (.inl (Nat.le_refl _))) HO3.out, HSh.out.trans ((HF2.out.mono (Nat.le_refl _) (by omega)).trans (HF3.out.mono (by omega) (Nat.le_refl _)))⟩
      · rcases (by omega : (a < s ∧ s < mid) ∨ ¬ a < s ∨ (a < s ∧ ¬ s < mid)) with ⟨c2a, c2b⟩ | c2a | ⟨c2a, c2b⟩
        · rcases (by omega : (mid < e ∧ e < b) ∨ ¬ mid < e ∨ (mid < e ∧ ¬ e < b)) with ⟨c3a, c3b⟩ | c3a | ⟨c3a, c3b⟩
          · have HS1 : Hid (SW w0 g n D wr) := by rw [HDD.out, show e = m from by omega, rotF_right]; exact HS
            clear HS
            have HM2 := Lib.hid (HIH.out a s mid (by omega) c2a c2b (by omega) D wr HS1.out (Shuf.bound HD.out HSh.out hb) HH.out.one)
            go_wp2_with fail
            refine HM2.out.mono ?_
            rintro e' w2 ⟨rfl, D2, k1, k2, k3⟩
            have HS2 := Lib.hid k1
            have HO2 := Lib.hid k2
            have HF2 := Lib.hid k3
            clear k1 k2 k3 HM2
            have HM3 := Lib.hid (HIH.out mid e b (by omega) c3a c3b hb D2 w2 HS2.out (Shuf.bound HD.out (HSh.out.trans (HF2.out.mono (Nat.le_refl _) (by omega))) hb) (HH.out.two.shuf_out HF2.out (.inr (Nat.le_refl _)) (by omega) (by omega)))
            go_wp2_with fail
            refine HM3.out.mono ?_
            rintro e' w3 ⟨rfl, D3, k1, k2, k3⟩
            have HS3 := Lib.hid k1
            have HO3 := Lib.hid k2
            have HF3 := Lib.hid k3
            clear k1 k2 k3 HM3
            go_wp2
            go_end0
            exact ⟨rfl, D3, HS3.out, ((HH.out.crs.left HF2.out).right HF3.out).ordd (HO2.out.shuf_out HF3.out (.inl (Nat.le_refl _))) HO3.out, HSh.out.trans ((HF2.out.mono (Nat.le_refl _) (by omega)).trans (HF3.out.mono (by omega) (Nat.le_refl _)))⟩
          · have HS1 : Hid (SW w0 g n D wr) := by rw [HDD.out, show e = m from by omega, rotF_right]; exact HS
            clear HS
            have HM2 := Lib.hid (HIH.out a s mid (by omega) c2a c2b (by omega) D wr HS1.out (Shuf.bound HD.out HSh.out hb) HH.out.one)
            go_wp2_with fail
            refine HM2.out.mono ?_
            rintro e' w2 ⟨rfl, D2, k1, k2, k3⟩
            have HS2 := Lib.hid k1
            have HO2 := Lib.hid k2
            have HF2 := Lib.hid k3
            clear k1 k2 k3 HM2
            have HO3 : Hid (Ordd key mid b D2) := by have := (HH.out.two.shuf_out HF2.out (.inr (Nat.le_refl _)) (by omega) (by omega)).two; rw [show e = mid from by omega] at this; exact this
            have HF3 : Hid (Shuf mid b D2 D2) := Shuf.refl _ _ _
            have HS3 := HS2
            clear HS2
            go_wp2
            go_end0
            exact ⟨rfl, D2, HS3.out, ((HH.out.crs.left HF2.out).right HF3.out).ordd (HO2.out.shuf_out HF3.out (.inl (Nat.le_refl _))) HO3.out, HSh.out.trans ((HF2.out.mono (Nat.le_refl _) (by omega)).trans (HF3.out.mono (by omega) (Nat.le_refl _)))⟩
          · have HS1 : Hid (SW w0 g n D wr) := by rw [HDD.out, show e = m from by omega, rotF_right]; exact HS
            clear HS
            have HM2 := Lib.hid (HIH.out a s mid (by omega) c2a c2b (by omega) D wr HS1.out (Shuf.bound HD.out HSh.out hb) HH.out.one)
            go_wp2_with fail
            refine HM2.out.mono ?_
            rintro e' w2 ⟨rfl, D2, k1, k2, k3⟩
            have HS2 := Lib.hid k1
            have HO2 := Lib.hid k2
            have HF2 := Lib.hid k3
            clear k1 k2 k3 HM2
            have HO3 : Hid (Ordd key mid b D2) := by have := (HH.out.two.shuf_out HF2.out (.inr (Nat.le_refl _)) (by omega) (by omega)).one; rw [show e = b from by omega] at this; exact this
            have HF3 : Hid (Shuf mid b D2 D2) := Shuf.refl _ _ _
            have HS3 := HS2
            clear HS2
            go_wp2
            go_end0
            exact ⟨rfl, D2, HS3.out, ((HH.out.crs.left HF2.out).right HF3.out).ordd (HO2.out.shuf_out HF3.out (.inl (Nat.le_refl _))) HO3.out, HSh.out.trans ((HF2.out.mono (Nat.le_refl _) (by omega)).trans (HF3.out.mono (by omega) (Nat.le_refl _)))⟩
        · rcases (by omega : (mid < e ∧ e < b) ∨ ¬ mid < e ∨ (mid < e ∧ ¬ e < b)) with ⟨c3a, c3b⟩ | c3a | ⟨c3a, c3b⟩
          · have HS1 : Hid (SW w0 g n D wr) := by rw [HDD.out, show e = m from by omega, rotF_right]; exact HS
            clear HS
            have HO2 : Hid (Ordd key a mid D) := by have := HH.out.one.two; rw [show s = a from by omega] at this; exact this
            have HF2 : Hid (Shuf a mid D D) := Shuf.refl _ _ _
            have HS2 := HS1
            clear HS1
            have HM3 := Lib.hid (HIH.out mid e b (by omega) c3a c3b hb D wr HS2.out (Shuf.bound HD.out (HSh.out.trans (HF2.out.mono (Nat.le_refl _) (by omega))) hb) (HH.out.two.shuf_out HF2.out (.inr (Nat.le_refl _)) (by omega) (by omega)))
            go_wp2_with fail
            refine HM3.out.mono ?_
            rintro e' w3 ⟨rfl, D3, k1, k2, k3⟩
            have HS3 := Lib.hid k1
            have HO3 := Lib.hid k2
            have HF3 := Lib.hid k3
            clear k1 k2 k3 HM3
            go_wp2
            go_end0
            exact ⟨rfl, D3, HS3.out, ((HH.out.crs.left HF2.out).right HF3.out).ordd (HO2.out.shuf_out HF3.out (.inl (Nat.le_refl _))) HO3.out, HSh.out.trans ((HF2.out.mono (Nat.le_refl _) (by omega)).trans (HF3.out.mono (by omega) (Nat.le_refl _)))⟩
          · have HS1 : Hid (SW w0 g n D wr) := by rw [HDD.out, show e = m from by omega, rotF_right]; exact HS
            clear HS
            have HO2 : Hid (Ordd key a mid D) := by have := HH.out.one.two; rw [show s = a from by omega] at this; exact this
            have HF2 : Hid (Shuf a mid D D) := Shuf.refl _ _ _
            have HS2 := HS1
            clear HS1
            have HO3 : Hid (Ordd key mid b D) := by have := (HH.out.two.shuf_out HF2.out (.inr (Nat.le_refl _)) (by omega) (by omega)).two; rw [show e = mid from by omega] at this; exact this
            have HF3 : Hid (Shuf mid b D D) := Shuf.refl _ _ _
            have HS3 := HS2
            clear HS2
            go_wp2
            go_end0
            exact ⟨rfl, D, HS3.out, ((HH.out.crs.left HF2.out).right HF3.out).ordd (HO2.out.shuf_out HF3.out (.inl (Nat.le_refl _))) HO3.out, HSh.out.trans ((HF2.out.mono (Nat.le_refl _) (by omega)).trans (HF3.out.mono (by omega) (Nat.le_refl _)))⟩
          · have HS1 : Hid (SW w0 g n D wr) := by rw [HDD.out, show e = m from by omega, rotF_right]; exact HS
            clear HS
            have HO2 : Hid (Ordd key a mid D) := by have := HH.out.one.two; rw [show s = a from by omega] at this; exact this
            have HF2 : Hid (Shuf a mid D D) := Shuf.refl _ _ _
            have HS2 := HS1
            clear HS1
            have HO3 : Hid (Ordd key mid b D) := by have := (HH.out.two.shuf_out HF2.out (.inr (Nat.le_refl _)) (by omega) (by omega)).one; rw [show e = b from by omega] at this; exact this
            have HF3 : Hid (Shuf mid b D D) := Shuf.refl _ _ _
            have HS3 := HS2
            clear HS2
            go_wp2
            go_end0
            exact ⟨rfl, D, HS3.out, ((HH.out.crs.left HF2.out).right HF3.out).ordd (HO2.out.shuf_out HF3.out (.inl (Nat.le_refl _))) HO3.out, HSh.out.trans ((HF2.out.mono (Nat.le_refl _) (by omega)).trans (HF3.out.mono (by omega) (Nat.le_refl _)))⟩
        · rcases (by omega : (mid < e ∧ e < b) ∨ ¬ mid < e ∨ (mid < e ∧ ¬ e < b)) with ⟨c3a, c3b⟩ | c3a | ⟨c3a, c3b⟩
          · have HS1 : Hid (SW w0 g n D wr) := by rw [HDD.out, show e = m from by omega, rotF_right]; exact HS
            clear HS
            have HO2 : Hid (Ordd key a mid D) := by have := HH.out.one.one; rw [show s = mid from by omega] at this; exact this
            have HF2 : Hid (Shuf a mid D D) := Shuf.refl _ _ _
            have HS2 := HS1
            clear HS1
            have HM3 := Lib.hid (HIH.out mid e b (by omega) c3a c3b hb D wr HS2.out (Shuf.bound HD.out (HSh.out.trans (HF2.out.mono (Nat.le_refl _) (by omega))) hb) (HH.out.two.shuf_out HF2.out (.inr (Nat.le_refl _)) (by omega) (by omega)))
            go_wp2_with fail
            refine HM3.out.mono ?_
            rintro e' w3 ⟨rfl, D3, k1, k2, k3⟩
            have HS3 := Lib.hid k1
            have HO3 := Lib.hid k2
            have HF3 := Lib.hid k3
            clear k1 k2 k3 HM3
            go_wp2
            go_end0
            exact ⟨rfl, D3, HS3.out, ((HH.out.crs.left HF2.out).right HF3.out).ordd (HO2.out.shuf_out HF3.out (.inl (Nat.le_refl _))) HO3.out, HSh.out.trans ((HF2.out.mono (Nat.le_refl _) (by omega)).trans (HF3.out.mono (by omega) (Nat.le_refl _)))⟩
          · have HS1 : Hid (SW w0 g n D wr) := by rw [HDD.out, show e = m from by omega, rotF_right]; exact HS
            clear HS
            have HO2 : Hid (Ordd key a mid D) := by have := HH.out.one.one; rw [show s = mid from by omega] at this; exact this
            have HF2 : Hid (Shuf a mid D D) := Shuf.refl _ _ _
            have HS2 := HS1
            clear HS1
            have HO3 : Hid (Ordd key mid b D) := by have := (HH.out.two.shuf_out HF2.out (.inr (Nat.le_refl _)) (by omega) (by omega)).two; rw [show e = mid from by omega] at this; exact this
            have HF3 : Hid (Shuf mid b D D) := Shuf.refl _ _ _
            have HS3 := HS2
            clear HS2
            go_wp2
            go_end0
            exact ⟨rfl, D, HS3.out, ((HH.out.crs.left HF2.out).right HF3.out).ordd (HO2.out.shuf_out HF3.out (.inl (Nat.le_refl _))) HO3.out, HSh.out.trans ((HF2.out.mono (Nat.le_refl _) (by omega)).trans (HF3.out.mono (by omega) (Nat.le_refl _)))⟩
          · have HS1 : Hid (SW w0 g n D wr) := by rw [HDD.out, show e = m from by omega, rotF_right]; exact HS
            clear HS
            have HO2 : Hid (Ordd key a mid D) := by have := HH.out.one.one; rw [show s = mid from by omega] at this; exact this
            have HF2 : Hid (Shuf a mid D D) := Shuf.refl _ _ _
            have HS2 := HS1
            clear HS1
            have HO3 : Hid (Ordd key mid b D) := by have := (HH.out.two.shuf_out HF2.out (.inr (Nat.le_refl _)) (by omega) (by omega)).one; rw [show e = b from by omega] at this; exact this
            have HF3 : Hid (Shuf mid b D D) := Shuf.refl _ _ _
            have HS3 := HS2
            clear HS2
            go_wp2
            go_end0
            exact ⟨rfl, D, HS3.out, ((HH.out.crs.left HF2.out).right HF3.out).ordd (HO2.out.shuf_out HF3.out (.inl (Nat.le_refl _))) HO3.out, HSh.out.trans ((HF2.out.mono (Nat.le_refl _) (by omega)).trans (HF3.out.mono (by omega) (Nat.le_refl _)))⟩
end Go.Proofs.Ytmnhjcfhgcineaa
