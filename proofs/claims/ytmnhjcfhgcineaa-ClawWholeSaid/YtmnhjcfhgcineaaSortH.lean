/-
  Contracts of slices.symMergeCmpFunc for any two pieces, and of slices.SortStableFunc at up to forty places.
-/
import Derived.Test.YtmnhjcfhgcineaaSortG
namespace Go.Proofs.Ytmnhjcfhgcineaa
open Go.RowKit

theorem merge_any (Bx bK n c g cap : Nat) (key : Nat → Int) (w0 : World) (K : Keys w0 Bx bK n c g key) (hn : n ≤ 1000000) :
    ∀ k a m b, b - a ≤ k → a < m → m < b → b ≤ n → MergeOK Bx n g cap key w0 a m b := by
  intro k
  induction k with
  | zero => intro a m b h1 h2 h3 h4; omega
  | succ k ih =>
    intro a m b h1 h2 h3 h4
    have IH : ∀ a' m' b', b' - a' < b - a → a' < m' → m' < b' → b' ≤ n → MergeOK Bx n g cap key w0 a' m' b' := fun a' m' b' k1 k2 k3 k4 => ih a' m' b' (by omega) k2 k3 k4
    by_cases c1 : m = a + 1
    · subst c1; exact merge_one Bx bK n c g cap a b key w0 K h3 h4 hn
    · by_cases c2 : b = m + 1
      · subst c2; exact merge_last Bx bK n c g cap a m key w0 K (by omega) h4 hn
      · by_cases c3 : (a + b) / 2 < m
        · exact merge_right Bx bK n c g cap a m b ((a + b) / 2) ((a + b) / 2 + m) ((a + b) / 2 + m - b) key w0 K (by omega) (by omega) h4 hn rfl rfl c3 rfl (by omega) IH
        · exact merge_left Bx bK n c g cap a m b ((a + b) / 2) ((a + b) / 2 + m) key w0 K (by omega) (by omega) h4 hn rfl rfl c3 IH

/-- two pieces, each put in order by itself -/
theorem mrg_of {key : Nat → Int} {m b : Nat} {d1 d2 : Nat → Nat} (o1 : Ordd key 0 m d1) (s1 : Shuf 0 m id d1) (o2 : Ordd key m b d2) (s2 : Shuf m b d1 d2) : Mrg key 0 m b d2 := by
  refine ⟨o1.shuf_out s2 (.inl (Nat.le_refl _)), o2, fun p q h1 h2 h3 h4 => ?_⟩
  rw [s2.out (by omega : ¬ (m ≤ p ∧ p < b))]
  obtain ⟨p', p1, p2, e1⟩ := s1.from_ h1 h2
  obtain ⟨q', q1, q2, e2⟩ := s2.from_ h3 h4
  rw [e1, e2, s1.out (by omega : ¬ (0 ≤ q' ∧ q' < m))]
  show p' < q'
  omega

theorem shuf_id_lt {a b : Nat} {d : Nat → Nat} (s : Shuf 0 a id d) : ∀ p q, a ≤ p → p < q → q < b → d p < d q := fun p q h1 h2 h3 => by
  rw [s.out (by omega : ¬ (0 ≤ p ∧ p < a)), s.out (by omega : ¬ (0 ≤ q ∧ q < a))]; exact h2

set_option maxHeartbeats 3200000 in
set_option maxRecDepth 100000 in
theorem stable_mid (Bx bK n c g cap : Nat) (key : Nat → Int) (w0 w : World) (K : Keys w0 Bx bK n c g key) (S : SW w0 g n id w) (hn1 : 20 ≤ n) (hn2 : n < 40) :
    Calls Try.prog 41 #[.slice (some ⟨g, 0, none⟩) n cap, .int .i64 n, .func (.func 34) #[] #[.pointer (some ⟨Bx, 0, none⟩)]] w
      fun e w' => e = .returned (.tuple #[]) ∧ ∃ d, SW w0 g n d w' ∧ Ordd key 0 n d ∧ Shuf 0 n id d := by
  have H := Lib.hid (insertion_any Bx bK n c g cap 0 20 key id w0 w K S (Nat.zero_le _) hn1 (by omega) (fun _ h => h) (fun _ _ _ h _ => h))
  have HK := Lib.hid K
  clear K S
  have t1 : decide ((20 : Int) ≤ (n : Int)) = true := decide_eq_true (by omega)
  have t2 : decide ((40 : Int) ≤ (n : Int)) = false := decide_eq_false (by omega)
  have t4 : decide ((40 : Int) < (n : Int)) = false := decide_eq_false (by omega)
  go_enter Try.func41, Try.ntmps41
  go_wp2
  refine wp_loop_rounds 2 ?_
  rw [rounds_succ]
  go_wp2_with fail
  refine H.out.mono ?_
  rintro e w1 ⟨rfl, d1, s1, o1, f1⟩
  have H2 := Lib.hid (insertion_any Bx bK n c g cap 20 n key d1 w0 w1 HK.out s1 hn1 (Nat.le_refl _) (by omega) (Shuf.bound (fun _ h => h) f1 hn1) (shuf_id_lt f1))
  have HO1 := Lib.hid o1
  have HF1 := Lib.hid f1
  clear s1 o1 f1 H
  go_wp2
  rw [rounds_succ]
  go_wp2_with fail
  refine H2.out.mono ?_
  rintro e w2 ⟨rfl, d2, s2, o2, f2⟩
  have HS2 := Lib.hid s2
  have HM2 := Lib.hid (mrg_of HO1.out HF1.out o2 f2)
  have HF2 := Lib.hid (f2.mono (Nat.zero_le _) (Nat.le_refl _))
  clear s2 o2 f2 H2 HO1
  by_cases h20 : n = 20
  · have t3 : decide ((20 : Int) < (n : Int)) = false := decide_eq_false (by omega)
    have HN := Lib.hid h20
    clear h20
    go_wp2
    refine wp_loop_rounds 1 ?_
    rw [rounds_succ]
    go_wp2
    go_end0
    refine ⟨rfl, d2, HS2.out, ?_, (HF1.out.mono (Nat.le_refl _) hn1).trans HF2.out⟩
    have := HM2.out.one
    rw [← HN.out] at this
    exact this
  · have t3 : decide ((20 : Int) < (n : Int)) = true := decide_eq_true (by omega)
    have H3 := Lib.hid (merge_any Bx bK n c g cap key w0 HK.out (by omega) n 0 20 n (by omega) (by omega) (by omega) (Nat.le_refl _) d2 w2 HS2.out (Shuf.bound (fun _ h => h) ((HF1.out.mono (Nat.le_refl _) hn1).trans HF2.out) (Nat.le_refl _)) HM2.out)
    clear h20 HS2 HM2
    go_wp2
    refine wp_loop_rounds 2 ?_
    rw [rounds_succ]
    go_wp2
    refine wp_loop_rounds 1 ?_
    rw [rounds_succ]
    go_wp2_with fail
    refine H3.out.mono ?_
    rintro e w3 ⟨rfl, d3, s3, o3, f3⟩
    have HS3 := Lib.hid s3
    have HO3 := Lib.hid o3
    have HF3 := Lib.hid f3
    clear s3 o3 f3 H3
    go_wp2
    rw [rounds_succ]
    go_wp2
    go_end0
    exact ⟨rfl, d3, HS3.out, HO3.out, ((HF1.out.mono (Nat.le_refl _) hn1).trans HF2.out).trans HF3.out⟩

set_option maxHeartbeats 3200000 in
set_option maxRecDepth 100000 in
theorem stable_40 (Bx bK n c g cap : Nat) (key : Nat → Int) (w0 w : World) (K : Keys w0 Bx bK n c g key) (S : SW w0 g n id w) (hn1 : 40 ≤ n) (hn2 : n ≤ 40) :
    Calls Try.prog 41 #[.slice (some ⟨g, 0, none⟩) n cap, .int .i64 n, .func (.func 34) #[] #[.pointer (some ⟨Bx, 0, none⟩)]] w
      fun e w' => e = .returned (.tuple #[]) ∧ ∃ d, SW w0 g n d w' ∧ Ordd key 0 n d ∧ Shuf 0 n id d := by
  have H := Lib.hid (insertion_any Bx bK n c g cap 0 20 key id w0 w K S (Nat.zero_le _) (by omega) (by omega) (fun _ h => h) (fun _ _ _ h _ => h))
  have HK := Lib.hid K
  clear K S
  have t1 : decide ((20 : Int) ≤ (n : Int)) = true := decide_eq_true (by omega)
  have t2 : decide ((40 : Int) ≤ (n : Int)) = true := decide_eq_true (by omega)
  have t3 : decide ((60 : Int) ≤ (n : Int)) = false := decide_eq_false (by omega)
  have t4 : decide ((20 : Int) < (n : Int)) = true := decide_eq_true (by omega)
  have t5 : decide ((80 : Int) ≤ (n : Int)) = false := decide_eq_false (by omega)
  have t6 : decide ((60 : Int) < (n : Int)) = false := decide_eq_false (by omega)
  have t7 : decide ((40 : Int) < (n : Int)) = false := decide_eq_false (by omega)
  go_enter Try.func41, Try.ntmps41
  go_wp2
  refine wp_loop_rounds 3 ?_
  rw [rounds_succ]
  go_wp2_with fail
  refine H.out.mono ?_
  rintro e w1 ⟨rfl, d1, s1, o1, f1⟩
  have H2 := Lib.hid (insertion_any Bx bK n c g cap 20 40 key d1 w0 w1 HK.out s1 (by omega) hn1 (by omega) (Shuf.bound (fun _ h => h) f1 (by omega)) (shuf_id_lt f1))
  have HO1 := Lib.hid o1
  have HF1 := Lib.hid f1
  clear s1 o1 f1 H
  go_wp2
  rw [rounds_succ]
  go_wp2_with fail
  refine H2.out.mono ?_
  rintro e w2 ⟨rfl, d2, s2, o2, f2⟩
  have HM2 := Lib.hid (mrg_of HO1.out HF1.out o2 f2)
  have HF2 := Lib.hid ((HF1.out.mono (Nat.le_refl _) (by omega : 20 ≤ 40)).trans (f2.mono (Nat.zero_le _) (Nat.le_refl _)))
  have H3 := Lib.hid (insertion_any Bx bK n c g cap 40 n key d2 w0 w2 HK.out s2 hn1 (Nat.le_refl _) (by omega) (Shuf.bound (fun _ h => h) HF2.out hn1) (fun p q h1 h2 h3 => by omega))
  clear s2 o2 f2 H2 HO1 HF1
  go_wp2
  rw [rounds_succ]
  go_wp2_with fail
  refine H3.out.mono ?_
  rintro e w3 ⟨rfl, d3, s3, o3, f3⟩
  have HM3 := Lib.hid (HM2.out.shuf_out f3 (.inl (Nat.le_refl _)) (by omega) (by omega))
  have HF3 := Lib.hid ((HF2.out.mono (Nat.le_refl _) hn1).trans (f3.mono (Nat.zero_le _) (Nat.le_refl _)))
  have H4 := Lib.hid (merge_any Bx bK n c g cap key w0 HK.out (by omega) 40 0 20 40 (by omega) (by omega) (by omega) hn1 d3 w3 s3 (Shuf.bound (fun _ h => h) HF3.out (Nat.le_refl _)) HM3.out)
  clear s3 o3 f3 H3 HM2 HF2
  go_wp2
  refine wp_loop_rounds 2 ?_
  rw [rounds_succ]
  go_wp2
  refine wp_loop_rounds 2 ?_
  rw [rounds_succ]
  go_wp2_with fail
  refine H4.out.mono ?_
  rintro e w4 ⟨rfl, d4, s4, o4, f4⟩
  have HS4 := Lib.hid s4
  have HO4 := Lib.hid o4
  have HF4 := Lib.hid f4
  clear s4 o4 f4 H4
  go_wp2
  rw [rounds_succ]
  go_wp2
  rw [rounds_succ]
  go_wp2
  go_end0
  obtain rfl : n = 40 := by omega
  exact ⟨rfl, d4, HS4.out, HO4.out, HF3.out.trans HF4.out⟩

theorem sortOK_40 {n : Nat} (hn : n ≤ 40) : SortOK n := by
  by_cases h20 : n < 20
  · exact sortOK_small h20
  · intro Bx bK c g cap key w0 w K S
    have H : Hid (Calls Try.prog 41 #[.slice (some ⟨g, 0, none⟩) n cap, .int .i64 n, .func (.func 34) #[] #[.pointer (some ⟨Bx, 0, none⟩)]] w
      fun e w' => e = .returned (.tuple #[]) ∧ ∃ d, SW w0 g n d w' ∧ Ordd key 0 n d ∧ Shuf 0 n id d) := by
      by_cases h40 : n < 40
      · exact stable_mid Bx bK n c g cap key w0 w K S (by omega) h40
      · exact stable_40 Bx bK n c g cap key w0 w K S (by omega) hn
    clear K S
    go_enter Try.func33, Try.ntmps33
    go_wp2_with fail
    refine H.out.mono ?_
    rintro e w' ⟨rfl, hd⟩
    have HD := Lib.hid hd
    clear hd H
    go_wp2
    go_end0
    exact ⟨rfl, HD.out⟩
end Go.Proofs.Ytmnhjcfhgcineaa
