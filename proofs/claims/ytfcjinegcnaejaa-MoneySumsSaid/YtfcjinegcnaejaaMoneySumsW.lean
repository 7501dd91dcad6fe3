/-
  The walk of souklaw01.MoneySums.
-/
import Derived.Test.YtfcjinegcnaejaaLives
namespace Go.Proofs.Ytfcjinegcnaejaa
open Go.RowKit Go.Deep

theorem quiet_left {P : Program} {f : FuncId} {args : Array Value} {w : World} {n : Nat} {v : Value}
    (h : Calls P f args (w.drewN n) fun e w' => e = .returned v ∧ w.drewN n = w') : Calls P f args (w.drewN n) fun e w'' => e = .returned v ∧ ∃ m, w'' = w.drewN m :=
  h.mono fun _ _ ⟨he, hm⟩ => ⟨he, n, hm.symm⟩

theorem isB_ok (a b : Int) : isB (sumV a b) (overE (sumB a b)) (sumV a b) (sumB a b) = true := by
  unfold isB overE sumV sumB
  by_cases h : Amt (a + b) <;> simp [h]

theorem isB_sum (o : Option Int) : isB (o.getD 0) (overE o.isSome) (o.getD 0) o.isSome = true := by
  cases o <;> simp [isB, overE]

set_option maxHeartbeats 1600000 in
theorem sums_walk (a : Option Addr) (c : Nat) (zs : List Int) (w : World) (hr : RowI .i64 w a zs) (hz : ∀ z ∈ zs, Amt z) (hl : zs.length ≤ maxLen) :
    Calls Try.prog 3 #[.slice a zs.length c] w fun e w' => e = .returned (.bool true) ∧ Below w.heap.size w w' := by
  have HL := Lib.hid (lives_any w)
  by_cases hbig : 200 < zs.length
  · have t1 : decide ((200 : Int) < (zs.length : Int)) = true := decide_eq_true (by omega)
    clear hr hz hl
    go_enter Try.func3, Try.ntmps3
    go_wp2_with fail
    refine HL.out.mono ?_
    rintro e w1 ⟨rfl, hb⟩
    have HB := Lib.hid hb
    have HL2 := Lib.hid (lives_any w1)
    clear hb HL
    go_wp2_with fail
    refine HL2.out.mono ?_
    rintro e w2 ⟨rfl, hb2⟩
    have HB2 := Lib.hid hb2
    clear hb2
    go_wp2
    go_ret
    exact ⟨rfl, HB.out.trans (HB2.out.mono HB.out.size)⟩
  · have t1 : decide ((200 : Int) < (zs.length : Int)) = false := decide_eq_false (by omega)
    have HR := Lib.hid hr
    have HZ := Lib.hid hz
    clear hr hz
    go_enter Try.func3, Try.ntmps3
    go_wp2_with fail
    refine HL.out.mono ?_
    rintro e w1 ⟨rfl, hb⟩
    have HB := Lib.hid hb
    have HR1 := Lib.hid (HR.out.keep hb)
    have HA := Lib.hid (Add_any a c zs w1 HR1.out HZ.out hl)
    have HS := Lib.hid (rSum_any a c zs w1 HR1.out HZ.out hl)
    have HI := Lib.hid (is1_any ((sumTo 0 zs).getD 0) (overE (sumTo 0 zs).isSome) ((sumTo 0 zs).getD 0) (sumTo 0 zs).isSome w1)
    rw [isB_sum] at HI
    clear hb HL HR
    go_wp2_with fail
    refine HA.out.mono ?_
    rintro e w' ⟨rfl, rfl⟩
    go_wp2_with fail
    refine HS.out.mono ?_
    rintro e w' ⟨rfl, rfl⟩
    go_wp2_with fail
    refine HI.out.mono ?_
    rintro e w' ⟨rfl, rfl⟩
    clear HA HS HI
    by_cases h0 : zs = []
    · subst h0
      simp only [List.length_nil]
      go_wp2
      refine wp_loop_rounds 1 ?_
      rw [rounds_succ]
      go_wp2
      go_ret
      exact ⟨rfl, HB.out⟩
    have hp : 0 < zs.length := List.length_pos_iff.mpr h0
    obtain ⟨b, off, rfl, hc⟩ := HR1.out hp
    have HC := Lib.hid hc
    clear hc h0 HR1
    unfold maxLen at hl
    obtain ⟨n, hn⟩ : ∃ n, n = zs.length := ⟨_, rfl⟩
    have HN := Lib.hid hn
    rw [← hn] at hl hp t1 hbig ⊢
    clear hn
    go_wp2
    go_loopg [7, 8, 9, 10, 11, 38] n (fun gk _ _ _ _ _ i wr => ∃ k m : Nat, k ≤ n ∧ i = .int .i64 k ∧ n - k ≤ gk ∧ Hid (wr = w1.drewN m))
    case atStart => exact ⟨0, 0, Nat.zero_le _, rfl, by omega, rfl⟩
    case round =>
      obtain ⟨k, m, hk, rfl, hgk, HW⟩ := hrel
      by_cases hlt : k < n
      · have hN := HN.out
        have c0 : wr.cell? ⟨b, off, none⟩ = some (.int .i64 (zs.getD 0 0)) := by rw [HW.out]; exact HC.out 0 (by omega)
        have c1 : wr.cell? ⟨b, off + k, none⟩ = some (.int .i64 (zs.getD k 0)) := by rw [HW.out]; exact HC.out k (by omega)
        have a0 : Amt (zs.getD 0 0) := HZ.out _ (getD_mem (by omega))
        have a1 : Amt (zs.getD k 0) := HZ.out _ (getD_mem (by omega))
        obtain ⟨x, hx⟩ : ∃ x, x = zs.getD 0 0 := ⟨_, rfl⟩
        obtain ⟨y, hy⟩ : ∃ y, y = zs.getD k 0 := ⟨_, rfl⟩
        rw [← hx] at c0 a0
        rw [← hy] at c1 a1
        have H1 := Lib.hid (fun W => Sub_any x y W a0 a1)
        have H2 := Lib.hid (fun W => rSub_any x y W a0 a1)
        have H3 := Lib.hid (fun W => is1_any (sumV x (-y)) (overE (sumB x (-y))) (sumV x (-y)) (sumB x (-y)) W)
        rw [isB_ok] at H3
        clear hx hy a0 a1 hN
        have z1 : (0 : Int) ≤ (k : Int) := by omega
        have z2 : (k : Int) < (n : Int) := by omega
        have z3 : (0 : Int) < (n : Int) := by omega
        go_wp2
        go_quiet ((go_at_call 10; exact quiet_left (H1.out _)))
        obtain ⟨w2, hw2⟩ : ∃ w2, w2 = wr.drewN nq := ⟨_, rfl⟩
        obtain ⟨m1, hm1⟩ : ∃ m1, m1 = m + nq := ⟨_, rfl⟩
        have HW2 := Lib.hid (show w2 = w1.drewN m1 by rw [hw2, HW.out, hm1]; simp [World.drewN, Nat.add_assoc])
        have c0' : w2.cell? ⟨b, off, none⟩ = some (.int .i64 x) := by rw [hw2]; exact c0
        have c1' : w2.cell? ⟨b, off + k, none⟩ = some (.int .i64 y) := by rw [hw2]; exact c1
        rw [← hw2]
        clear hw2 c0 c1 HW H1 hm1 nq
        go_wp2
        go_quiet ((go_at_call 11; exact quiet_left (H2.out _)))
        go_wp2_with fail
        refine (H3.out _).mono ?_
        rintro e w' ⟨rfl, rfl⟩
        clear H2 H3
        go_wp2
        go_roundg (n - (k + 1))
        case measure => omega
        case rel => exact ⟨k + 1, m1 + nq, by omega, by go_num, by omega, by show _ = _; rw [HW2.out]; simp [World.drewN, Nat.add_assoc]⟩
      · go_wp2
        go_ret
        exact ⟨rfl, by rw [HW.out]; exact below_drewN HB.out m⟩
end Go.Proofs.Ytfcjinegcnaejaa
