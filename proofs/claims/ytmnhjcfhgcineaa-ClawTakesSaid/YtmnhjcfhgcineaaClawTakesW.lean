/-
  The walk of souklaw13.ClawTakes.
-/
import Derived.Test.YtmnhjcfhgcineaaClD
namespace Go.Proofs.Ytmnhjcfhgcineaa
open Go.RowKit Go.Deep

set_option maxHeartbeats 1600000 in
theorem takes_many (T : Int) (a : Option Addr) (c n : Nat) (w : World) (hn : 30 < n) :
    Calls Try.prog 3 #[.slice a n c, .int .i64 T] w fun e w' => e = .returned (.bool true) ∧ Below w.heap.size w w' := by
  have HL := Lib.hid lives13_any
  have hgt : (30 : Int) < (n : Int) := by omega
  clear hn
  go_enter Try.func3, Try.ntmps3
  go_wp2_with fail
  refine (HL.out _).mono ?_
  rintro e w1 ⟨rfl, hb⟩
  have HB := Lib.hid hb
  clear hb
  go_wp2_with fail
  refine (HL.out _).mono ?_
  rintro e w2 ⟨rfl, hb⟩
  have HB2 := Lib.hid (bel_on HB.out HB.out.size hb)
  clear hb HL
  go_wp2
  go_ret
  exact ⟨rfl, HB2.out⟩

set_option maxHeartbeats 3200000 in
theorem takes_wrong (T : Int) (a : Option Addr) (c : Nat) (ws : List Int) (w : World) (hr : RowI .i64 w a ws) (hz : ∀ z ∈ ws, Amt z) (hn : ws.length ≤ 30) (he : tkE ws T ≠ 0) :
    Calls Try.prog 3 #[.slice a ws.length c, .int .i64 T] w fun e w' => e = .returned (.bool true) ∧ Below w.heap.size w w' := by
  have HL := Lib.hid lives13_any
  have hl : ws.length ≤ maxLen := by unfold maxLen; omega
  have H0 : Hid (∀ W, Below w.heap.size w W → Calls Try.prog 7 #[.slice a ws.length c] W (ClnPost ws W)) := fun W hb => clone_any a c ws W (hr.keep hb) (by omega)
  have H1 : Hid (∀ W, Below w.heap.size w W → Calls Try.prog 8 #[.slice a ws.length c, .int .i64 T] W (TkBad ws T W)) := fun W hb => take_bad T a c ws W (hr.keep hb) hz hl he
  have H2 : Hid (∀ W, Below w.heap.size w W → Calls Try.prog 9 #[.slice a ws.length c, .int .i64 T] W (TkBad ws T W)) := fun W hb => rtake_bad T a c ws W (hr.keep hb) hz hl he
  have H3 : Hid (∀ W, Calls Try.prog 10 #[.slice none 0 0, .slice none 0 0] W fun e w' => e = .returned (.bool true) ∧ ∃ m, w' = W.drewN m) := fun W => equal_any none none 0 0 [] [] W (fun h => by simp at h) (fun h => by simp at h) (by simp)
  have H4 : Hid (∀ (W : World) (A : Option Addr) (c' : Nat), Below w.heap.size w W → RowI .i64 W A ws → Calls Try.prog 10 #[.slice a ws.length c, .slice A ws.length c'] W fun e w' => e = .returned (.bool true) ∧ ∃ m, w' = W.drewN m) := fun W A c' hb hA => by
    have := equal_any a A c c' ws ws W (hr.keep hb) hA hl
    rw [decide_eq_true rfl] at this
    exact this
  unfold ClnPost at H0
  unfold TkBad at H1 H2
  obtain ⟨E, hE⟩ : ∃ E, E = tkE ws T := ⟨_, rfl⟩
  obtain ⟨n, hnn⟩ : ∃ n, n = ws.length := ⟨_, rfl⟩
  rw [← hnn, ← hE] at H1 H2
  rw [← hnn] at H0 H4 hn ⊢
  have hgt : ¬ (30 : Int) < (n : Int) := by omega
  have t1 : (E != E) = false := by simp
  clear hE hr hz hl hnn he hn
  go_enter Try.func3, Try.ntmps3
  go_wp2_with fail
  refine (HL.out _).mono ?_
  rintro e w1 ⟨rfl, hb⟩
  have HB := Lib.hid hb
  clear hb HL
  go_wp2_with fail
  refine (H0.out _ HB.out).mono ?_
  rintro e w2 ⟨A, c', rfl, hown, hb⟩
  have HB2 := Lib.hid (bel_on HB.out HB.out.size hb)
  have HR2 := Lib.hid (RowI.of_own hown)
  clear hb hown H0
  go_wp2_with fail
  refine (H1.out _ HB2.out).mono ?_
  rintro e w3 ⟨rfl, rfl⟩
  go_wp2_with fail
  refine (H2.out _ HB2.out).mono ?_
  rintro e w3 ⟨rfl, rfl⟩
  clear H1 H2
  go_wp2_with fail
  refine (H3.out _).mono ?_
  rintro e w4 ⟨rfl, m, rfl⟩
  have HB4 := Lib.hid (below_drewN HB2.out m)
  have HR4 : Hid (RowI .i64 (w2.drewN m) A ws) := HR2.out
  go_wp2_with fail
  refine (H4.out _ _ _ HB4.out HR4.out).mono ?_
  rintro e w5 ⟨rfl, m5, rfl⟩
  have HB5 := Lib.hid (below_drewN HB2.out (m + m5))
  go_wp2
  refine wp_loop_rounds 1 ?_
  rw [rounds_succ]
  go_wp2
  go_ret
  exact ⟨rfl, HB5.out⟩

set_option maxHeartbeats 3200000 in
theorem takes_right (T : Int) (a : Option Addr) (c : Nat) (ws : List Int) (w : World) (hr : RowI .i64 w a ws) (hz : ∀ z ∈ ws, Amt z) (hn : ws.length ≤ 30) (he : tkE ws T = 0) :
    Calls Try.prog 3 #[.slice a ws.length c, .int .i64 T] w fun e w' => e = .returned (.bool true) ∧ Below w.heap.size w w' := by
  have G := GoodT.of he
  have HL := Lib.hid lives13_any
  have hl : ws.length ≤ maxLen := by unfold maxLen; omega
  have H0 : Hid (∀ W, Below w.heap.size w W → Calls Try.prog 7 #[.slice a ws.length c] W (ClnPost ws W)) := fun W hb => clone_any a c ws W (hr.keep hb) (by omega)
  have H1 : Hid (∀ W, Below w.heap.size w W → Calls Try.prog 8 #[.slice a ws.length c, .int .i64 T] W (TkYes ws T W)) := fun W hb => take_yes T a c ws W (hr.keep hb) hz (by omega) he
  have H2 : Hid (∀ W ps, Below w.heap.size w W → Taken ws T ps → Calls Try.prog 9 #[.slice a ws.length c, .int .i64 T] W (RTkYes ws ps W)) := fun W ps hb ht => rtake_yes T a c ws ps W (hr.keep hb) hz (by omega) he ht
  have H3 : Hid (∀ (W : World) (A B : Option Addr) (c1 c2 : Nat) (ps : List Int), ps.length = ws.length → RowI .i64 W A ps → RowI .i64 W B ps → Calls Try.prog 10 #[.slice A ws.length c1, .slice B ws.length c2] W fun e w' => e = .returned (.bool true) ∧ ∃ m, w' = W.drewN m) := fun W A B c1 c2 ps hps hA hB => by
    have := equal_any A B c1 c2 ps ps W hA hB (by omega)
    rw [decide_eq_true rfl, hps] at this
    exact this
  unfold ClnPost at H0
  unfold TkYes at H1
  unfold RTkYes at H2
  have HPT : Hid (∀ ps, Taken ws T ps → ps.length = ws.length ∧ ∀ i, i < ws.length → 0 ≤ ps.getD i 0 ∧ ps.getD i 0 ≤ ws.getD i 0) := fun ps ht => ⟨ht.length, fun i hi => ht.part G i hi⟩
  have HR := Lib.hid hr
  obtain ⟨n, hnn⟩ : ∃ n, n = ws.length := ⟨_, rfl⟩
  have HN := Lib.hid hnn
  rw [← hnn] at H0 H1 H2 H3 HPT hn ⊢
  have hgt : ¬ (30 : Int) < (n : Int) := by omega
  clear hr hz hl hnn he G
  go_enter Try.func3, Try.ntmps3
  go_wp2_with fail
  refine (HL.out _).mono ?_
  rintro e w1 ⟨rfl, hb⟩
  have HB := Lib.hid hb
  clear hb HL
  go_wp2_with fail
  refine (H0.out _ HB.out).mono ?_
  rintro e w2 ⟨A, c', rfl, hown, hb⟩
  have HB2 := Lib.hid (bel_on HB.out HB.out.size hb)
  have HR2 := Lib.hid (RowI.of_own hown)
  clear hb hown H0
  go_wp2_with fail
  refine (H1.out _ HB2.out).mono ?_
  rintro e w3 ⟨g, ps, rfl, hg, ht, hrow, hb⟩
  have HB3 := Lib.hid (bel_on HB2.out HB2.out.size hb)
  have HR3 := Lib.hid (HR2.out.keep hb)
  have HP3 := Lib.hid hrow
  have HT := Lib.hid ht
  clear hg ht hrow hb H1
  go_wp2_with fail
  refine (H2.out _ _ HB3.out HT.out).mono ?_
  rintro e w4 ⟨g', c4, rfl, hg, hrow, hb⟩
  have HB4 := Lib.hid (bel_on HB3.out HB3.out.size hb)
  have HR4 := Lib.hid (HR3.out.keep hb)
  have HP4 := Lib.hid (HP3.out.keep hb)
  have HQ4 := Lib.hid hrow
  obtain ⟨hps1, hps2⟩ := HPT.out ps HT.out
  have HPL := Lib.hid hps1
  have HPB := Lib.hid hps2
  clear hg hrow hb H2 HP3 HR3 HR2 hps1 hps2 HPT
  go_wp2_with fail
  refine (H3.out _ _ _ _ _ ps HPL.out HP4.out HQ4.out).mono ?_
  rintro e w5 ⟨rfl, m, rfl⟩
  have HB5 := Lib.hid (below_drewN HB4.out m)
  have HR5 : Hid (RowI .i64 (w4.drewN m) A ws) := HR4.out
  have HP5 : Hid (RowI .i64 (w4.drewN m) (some ⟨g, 0, none⟩) ps) := HP4.out
  generalize w4.drewN m = w5 at HB5 HR5 HP5 ⊢
  go_wp2_with fail
  refine (H3.out _ _ _ _ _ ws HN.out.symm (HR.out.keep HB5.out) HR5.out).mono ?_
  rintro e w6 ⟨rfl, m6, rfl⟩
  have HB6 := Lib.hid (below_drewN HB5.out m6)
  have HR6 : Hid (RowI .i64 (w5.drewN m6) a ws) := HR.out.keep HB6.out
  have HP6 : Hid (RowI .i64 (w5.drewN m6) (some ⟨g, 0, none⟩) ps) := HP5.out
  generalize w5.drewN m6 = w6 at HB6 HR6 HP6 ⊢
  clear H3 HR HR4 HR5 HP4 HP5 HQ4 HB HB2 HB3 HB4 HB5 HT
  go_wp2
  go_loopg [10, 11, 51] n (fun gk _ _ i wr => ∃ k : Nat, k ≤ n ∧ i = .int .i64 k ∧ n - k ≤ gk ∧ Hid (wr = w6))
  case atStart => exact ⟨0, Nat.zero_le _, rfl, by omega, rfl⟩
  case round =>
    obtain ⟨k, hk, rfl, hgk, HW⟩ := hrel
    have hw := HW.out
    subst hw
    clear HW
    by_cases hlt : k < n
    · obtain ⟨b, off, rfl, hc⟩ := HR6.out (by rw [← HN.out]; omega)
      have c1 := hc k (by rw [← HN.out]; exact hlt)
      obtain ⟨b2, o2, e2, hc2⟩ := HP6.out (by rw [HPL.out]; omega)
      injection e2 with e2
      injection e2 with e2 e3
      subst e2
      subst e3
      have c2 := hc2 k (by rw [HPL.out]; exact hlt)
      rw [Nat.zero_add] at c2
      obtain ⟨h1, h2⟩ := HPB.out k hlt
      obtain ⟨p, hp⟩ : ∃ p, p = ps.getD k 0 := ⟨_, rfl⟩
      obtain ⟨z, hz⟩ : ∃ z, z = ws.getD k 0 := ⟨_, rfl⟩
      rw [← hp] at c2 h1 h2
      rw [← hz] at c1 h2
      have t1 : ¬ p < 0 := by omega
      have t2 : ¬ z < p := by omega
      clear hp hz hc hc2
      go_wp2
      go_roundg (n - (k + 1))
      case measure => omega
      case rel => exact ⟨k + 1, by omega, by go_num, by omega, rfl⟩
    · go_wp2
      go_ret
      exact ⟨rfl, HB6.out⟩

theorem takes_walk (T : Int) (a : Option Addr) (c : Nat) (ws : List Int) (w : World) (hr : RowI .i64 w a ws) (hz : ∀ z ∈ ws, Amt z) :
    Calls Try.prog 3 #[.slice a ws.length c, .int .i64 T] w fun e w' => e = .returned (.bool true) ∧ Below w.heap.size w w' := by
  by_cases hn : 30 < ws.length
  · exact takes_many T a c ws.length w hn
  by_cases he : tkE ws T = 0
  · exact takes_right T a c ws w hr hz (by omega) he
  · exact takes_wrong T a c ws w hr hz (by omega) he
end Go.Proofs.Ytmnhjcfhgcineaa
