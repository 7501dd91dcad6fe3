/-
  The walk of souklaw01.MoneyDivides.
-/
import Derived.Test.YtfcjinegcnaejaaWideH
import Derived.Test.YtfcjinegcnaejaaLives
namespace Go.Proofs.Ytfcjinegcnaejaa
open Go.RowKit Go.Deep

/-- the answers so far -/
def valsK (a b : Int) (c : Nat) : Nat → List Int
  | 0 => []
  | k + 1 => valsK a b c k ++ (if mdB a b c k then [mdV a b c k] else [])

theorem vals_len (a b : Int) (c k : Nat) : (valsK a b c k).length ≤ k := by
  induction k with
  | zero => simp [valsK]
  | succ k ih => rw [valsK, List.length_append]; split <;> simp <;> omega

theorem vals_three {a b : Int} {c : Nat} (h : (valsK a b c 3).length = 3) : mdB a b c 0 = true ∧ mdB a b c 1 = true ∧ mdB a b c 2 = true ∧ valsK a b c 3 = [mdV a b c 0, mdV a b c 1, mdV a b c 2] := by
  cases h0 : mdB a b c 0 <;> cases h1 : mdB a b c 1 <;> cases h2 : mdB a b c 2 <;> simp [valsK, h0, h1, h2] at h ⊢

theorem md_of {a b : Int} {c : Nat} {m : Int} (h : mdB a b c m = true) : mdV a b c m = sgnI (mdQ a b c m) (mdBelow a b) := if_pos (of_decide_eq_true h)

theorem near_each {a b : Int} {c : Nat} (h0 : mdB a b c 0 = true) (h1 : mdB a b c 1 = true) (h2 : mdB a b c 2 = true) :
    (mdV a b c 0 = mdV a b c 1 ∧ mdV a b c 2 = mdV a b c 0) ∨ (mdV a b c 0 + 1 = mdV a b c 1 ∧ (mdV a b c 2 = mdV a b c 0 ∨ mdV a b c 2 = mdV a b c 1)) := by
  rw [md_of h0, md_of h1, md_of h2]
  unfold mdQ
  generalize a.natAbs * b.natAbs / c = q
  generalize a.natAbs * b.natAbs % c = r
  generalize mdBelow a b = neg
  by_cases hr : r = 0
  · left
    have e : ∀ m, upB neg m q r c = false := fun m => if_pos hr
    rw [e, e, e]
    exact ⟨rfl, rfl⟩
  · right
    have e0 : upB neg 0 q r c = neg := by unfold upB; rw [if_neg hr, if_pos rfl]
    have e1 : upB neg 1 q r c = !neg := by unfold upB; rw [if_neg hr, if_neg (by decide), if_pos rfl]
    rw [e0, e1]
    cases neg <;> cases upB _ 2 q r c <;> simp [sgnI] <;> omega

structure DivsAt (a b : Int) (c : Nat) (w wr : World) (v : Value) (k : Nat) : Prop where
  own : wr.ownsRow w.heap.size 2 1 v (valsK a b c k).length ((valsK a b c k).map (Value.int .i64))
  below : Below w.heap.size w wr

theorem DivsAt.no {a b : Int} {c : Nat} {w wr w' : World} {v : Value} {k : Nat} (h : DivsAt a b c w wr v k) (hb : Below wr.heap.size wr w') (hm : mdB a b c k = false) : DivsAt a b c w w' v (k + 1) := by
  have e : valsK a b c (k + 1) = valsK a b c k := by rw [valsK, hm]; simp
  refine ⟨?_, h.below.trans (hb.mono h.below.size)⟩
  rw [e]
  refine h.own.kept (row := none) ⟨hb.os, hb.tape, hb.output, hb.size, fun k hk _ => hb.block k hk⟩ ?_
  cases v.ownBlock <;> simp

theorem DivsAt.keep {a b : Int} {c : Nat} {w wr w' : World} {v : Value} {k : Nat} (h : DivsAt a b c w wr v k) (hb : Below wr.heap.size wr w') : DivsAt a b c w w' v k := by
  refine ⟨?_, h.below.trans (hb.mono h.below.size)⟩
  refine h.own.kept (row := none) ⟨hb.os, hb.tape, hb.output, hb.size, fun k hk _ => hb.block k hk⟩ ?_
  cases v.ownBlock <;> simp

theorem DivsAt.yes {a b : Int} {c : Nat} {w wr w' : World} {v v' : Value} {k : Nat} (h : DivsAt a b c w wr v k) (hm : mdB a b c k = true)
    (h1 : w'.ownsRow w.heap.size 2 1 v' ((valsK a b c k).length + 1) ((valsK a b c k).map (Value.int .i64) ++ [.int .i64 (mdV a b c k)])) (h2 : Below w.heap.size wr w') : DivsAt a b c w w' v' (k + 1) := by
  have e : valsK a b c (k + 1) = valsK a b c k ++ [mdV a b c k] := by rw [valsK, hm]; rfl
  refine ⟨?_, h.below.trans h2⟩
  rw [e]
  simpa using h1

theorem isB_md (v : Int) (ok : Bool) (h : ok = false → v = 0) : isB v (overE ok) v ok = true := by
  unfold isB overE
  cases ok
  · simp [h rfl]
  · simp

theorem mdV_none {a b : Int} {c : Nat} {m : Int} (h : mdB a b c m = false) : mdV a b c m = 0 := if_neg (of_decide_eq_false h)

set_option maxHeartbeats 3200000 in
theorem divides_bad (a b c : Int) (w : World) (hc : c < 1) :
    Calls Try.prog 4 #[.int .i64 a, .int .i64 b, .int .i64 c] w fun e w' => e = .returned (.bool true) ∧ Below w.heap.size w w' := by
  have HL := Lib.hid (lives_any w)
  have HB := Lib.hid (fun W m => mulDiv_bad a b c m W (.inl hc))
  have t1 : decide (c ≤ 0) = true := decide_eq_true (by omega)
  go_enter Try.func4, Try.ntmps4
  go_wp2_with fail
  refine HL.out.mono ?_
  rintro e w1 ⟨rfl, hb⟩
  have HBL := Lib.hid hb
  clear hb HL
  go_wp2_with fail
  refine (HB.out _ _).mono ?_
  rintro e w' ⟨rfl, rfl⟩
  go_wp2_with fail
  refine (HB.out _ _).mono ?_
  rintro e w' ⟨rfl, rfl⟩
  go_wp2
  go_loopg [11, 12, 13, 14] 3 (fun gk l i _ _ wr => ∃ k : Nat, l = .slice none 0 0 ∧ k ≤ 3 ∧ 3 - k ≤ gk ∧ i = .int .i64 k ∧ Hid (wr = w1))
  case atStart => exact ⟨0, rfl, by omega, by omega, rfl, rfl⟩
  case round =>
    obtain ⟨k, rfl, hk, hgk, rfl, HW⟩ := hrel
    have hw := HW.out
    subst hw
    clear HW
    by_cases hlt : k ≤ 2
    · have t2 : decide ((k : Int) ≤ 2) = true := decide_eq_true (by omega)
      go_wp2_with fail
      refine (HB.out _ _).mono ?_
      rintro e w' ⟨rfl, rfl⟩
      go_wp2
      go_roundg (gk - 1)
      case measure => omega
      case rel => exact ⟨k + 1, rfl, by omega, by omega, by go_num, rfl⟩
    · have t2 : decide ((k : Int) ≤ 2) = false := decide_eq_false (by omega)
      have t3 : decide ((0 : Int) < 3) = true := by decide
      go_wp2
      go_quiet (fail)
      go_wp2
      go_ret
      exact ⟨rfl, below_drewN HBL.out _⟩

set_option maxHeartbeats 6400000 in
theorem divides_good (a b : Int) (c : Nat) (w : World) (ha : Amt a) (hb : Amt b) (hc : 0 < c) (hc2 : c ≤ 9223372036854775807) :
    Calls Try.prog 4 #[.int .i64 a, .int .i64 b, .int .i64 c] w fun e w' => e = .returned (.bool true) ∧ Below w.heap.size w w' := by
  have HL := Lib.hid (lives_any w)
  have HB3 := Lib.hid (fun W => mulDiv_bad a b c 3 W (.inr (.inr (by omega))))
  have HBm := Lib.hid (fun W => mulDiv_bad a b c (-1) W (.inr (.inl (by omega))))
  have HG := Lib.hid (fun W (k : Nat) (hk : k ≤ 2) => mulDiv_any a b c (k : Int) W ha hb hc hc2 ⟨by omega, by omega⟩)
  have HR := Lib.hid (fun W (k : Nat) (hk : k ≤ 2) => rMulDiv_any a b c (k : Int) W ha hb hc hc2 (by omega))
  have HI := Lib.hid (fun W (k : Nat) => is1_any (mdV a b c k) (overE (mdB a b c k)) (mdV a b c k) (mdB a b c k) W)
  have t1 : decide ((c : Int) ≤ 0) = false := decide_eq_false (by omega)
  clear ha hb
  go_enter Try.func4, Try.ntmps4
  go_wp2_with fail
  refine HL.out.mono ?_
  rintro e w1 ⟨rfl, hb⟩
  have HBL := Lib.hid hb
  clear hb HL
  go_wp2_with fail
  refine (HB3.out _).mono ?_
  rintro e w' ⟨rfl, rfl⟩
  go_wp2_with fail
  refine (HBm.out _).mono ?_
  rintro e w' ⟨rfl, rfl⟩
  clear HB3 HBm
  go_wp2
  go_loopg [11, 12, 13, 14, 15, 16] 3 (fun gk l i _ _ _ _ wr => ∃ k : Nat, k ≤ 3 ∧ 3 - k ≤ gk ∧ i = .int .i64 k ∧ Hid (DivsAt a b c w wr l k))
  case atStart => exact ⟨0, by omega, by omega, rfl, ⟨World.ownsRow_nil _ _ _ _, HBL.out⟩⟩
  case round =>
    clear HBL
    obtain ⟨k, hk, hgk, rfl, HD⟩ := hrel
    by_cases hlt : k ≤ 2
    · have t2 : decide ((k : Int) ≤ 2) = true := decide_eq_true (by omega)
      have hvl := vals_len a b c k
      go_wp2_with fail
      refine (HG.out _ k hlt).mono ?_
      rintro e w2 ⟨rfl, n2, hw2⟩
      have HB2 : Hid (Below wr.heap.size wr w2) := by rw [hw2]; exact below_drewN (Below.refl _ _) n2
      clear hw2
      go_wp2_with fail
      refine (HR.out _ k hlt).mono ?_
      rintro e w3 ⟨rfl, hb3⟩
      have HB3 : Hid (Below wr.heap.size wr w3) := HB2.out.trans (hb3.mono HB2.out.size)
      have HIk := Lib.hid (HI.out w3 k)
      have hnone := fun h : mdB a b c k = false => mdV_none h
      rw [isB_md _ _ hnone] at HIk
      clear hb3 HB2 hnone
      have HDk := Lib.hid (HD.out.keep HB3.out)
      cases hok : mdB a b c (k : Int)
      · have HN := Lib.hid (HD.out.no HB3.out hok)
        rw [hok] at HIk
        clear hok
        go_wp2_with fail
        refine HIk.out.mono ?_
        rintro e w' ⟨rfl, rfl⟩
        go_wp2
        go_roundg (gk - 1)
        case measure => omega
        case rel => exact ⟨k + 1, by omega, by omega, by go_num, HN⟩
      · have HOK := Lib.hid hok
        rw [hok] at HIk
        clear hok
        go_wp2_with fail
        refine HIk.out.mono ?_
        rintro e w' ⟨rfl, rfl⟩
        go_wp2_with (at_builtin; refine wpList_append_one rfl (.tmp 74) (.tmp 76) 22 rfl w.heap.size 2 (.int .i64 0) 8 Try.underlying22 infoI64 rfl _ (.int .i64 (mdV a b c k)) rfl _ (valsK a b c k).length ((valsK a b c k).map (Value.int .i64)) rfl rfl HDk.out.own HDk.out.below.size (by unfold maxLen; omega) (by omega) ?_; intro v4 w4 hown4 hbel4)
        have HY := Lib.hid (HDk.out.yes HOK.out hown4 hbel4)
        clear hown4 hbel4 HDk HD
        go_wp2
        go_roundg (gk - 1)
        case measure => omega
        case rel => exact ⟨k + 1, by omega, by omega, by go_num, HY⟩
    · have t2 : decide ((k : Int) ≤ 2) = false := decide_eq_false (by omega)
      obtain rfl : k = 3 := by omega
      have hvl := vals_len a b c 3
      obtain ⟨A, cp, hv, hq1, hq2, hq3⟩ := own_form HD.out.own
      subst hv
      have HCL : Hid (Cells wr A ((valsK a b c 3).map (Value.int .i64))) := Cells.of_own HD.out.own
      obtain ⟨n, hn⟩ : ∃ n, n = (valsK a b c 3).length := ⟨_, rfl⟩
      have HN := Lib.hid hn
      have HBB := Lib.hid HD.out.below
      rw [← hn] at hvl ⊢
      clear hn hq1 hq2 hq3 HD HG HR HI t1
      by_cases h3 : n < 3
      · have t3 : decide ((n : Int) < 3) = true := decide_eq_true (by omega)
        go_wp2
        go_quiet (fail)
        go_wp2
        go_ret
        exact ⟨rfl, below_drewN HBB.out _⟩
      · have t3 : decide ((n : Int) < 3) = false := decide_eq_false (by omega)
        obtain rfl : n = 3 := by omega
        obtain ⟨m0, m1, m2, hv3⟩ := vals_three HN.out.symm
        have hne := near_each m0 m1 m2
        have hcl := HCL.out
        rw [hv3] at hcl
        obtain ⟨bb, off, rfl, hcc⟩ := hcl (by simp)
        have hb0 := of_decide_eq_true m0
        have hb1 := of_decide_eq_true m1
        have hV0 := md_of m0
        have hV1 := md_of m1
        rw [← hV0] at hb0
        rw [← hV1] at hb1
        have c0 := hcc 0 _ rfl
        have c1 := hcc 1 _ rfl
        have c2 := hcc 2 _ rfl
        rw [Nat.add_zero] at c0
        obtain ⟨x0, hx0⟩ : ∃ x, x = mdV a b c 0 := ⟨_, rfl⟩
        obtain ⟨x1, hx1⟩ : ∃ x, x = mdV a b c 1 := ⟨_, rfl⟩
        obtain ⟨x2, hx2⟩ : ∃ x, x = mdV a b c 2 := ⟨_, rfl⟩
        rw [← hx0] at hne c0 hb0
        rw [← hx1] at hne c1 hb1
        rw [← hx2] at hne c2
        have hb0' : -9223372036854775808 ≤ x0 ∧ x0 ≤ 9223372036854775807 := hb0
        have hb1' : -9223372036854775808 ≤ x1 ∧ x1 ≤ 9223372036854775807 := hb1
        clear hx0 hx1 hx2 hV0 hV1 hb0 hb1 hcc hcl hv3 m0 m1 m2 HCL HN
        have z1 : (0 : Int) < 3 := by decide
        have z2 : (1 : Int) < 3 := by decide
        have z3 : (2 : Int) < 3 := by decide
        rcases hne with ⟨e1, e2⟩ | ⟨e1, e2⟩
        · have s1 : (x0 == x1) = true := by rw [beq_iff_eq]; exact e1
          have s2 : (x2 == x0) = true := by rw [beq_iff_eq]; exact e2
          clear e1 e2
          go_wp2
          go_quiet (fail)
          go_wp2
          go_ret
          exact ⟨rfl, below_drewN HBB.out _⟩
        · have s1 : (x0 == x1) = false := by rw [beq_eq_false_iff_ne]; omega
          have s4 : IntKind.i64.wrap (x0 + 1) = x0 + 1 := IntWalk.i64_in _ (by omega)
          have s3 : (x0 + 1 == x1) = true := by rw [beq_iff_eq]; exact e1
          by_cases e3 : x2 = x0
          · have s2 : (x2 == x0) = true := by rw [beq_iff_eq]; exact e3
            clear e1 e2 e3
            go_wp2
            go_quiet (fail)
            go_wp2
            go_ret
            exact ⟨rfl, below_drewN HBB.out _⟩
          · have s2 : (x2 == x0) = false := by rw [beq_eq_false_iff_ne]; exact e3
            have s5 : (x2 == x1) = true := by rw [beq_iff_eq]; omega
            clear e1 e2 e3
            go_wp2
            go_quiet (fail)
            go_wp2
            go_ret
            exact ⟨rfl, below_drewN HBB.out _⟩
end Go.Proofs.Ytfcjinegcnaejaa
