/-
  Contract of slices.symMergeCmpFunc at money.mostFirst's comparison, where one of the pieces has one place.
-/
import Derived.Test.YtmnhjcfhgcineaaSortD
namespace Go.Proofs.Ytmnhjcfhgcineaa
open Go.RowKit

/-- what symMerge does to two pieces -/
def MergeOK (Bx n g cap : Nat) (key : Nat → Int) (w0 : World) (a m b : Nat) : Prop := ∀ (d : Nat → Nat) (w : World), SW w0 g n d w → (∀ i, i < n → d i < n) → Mrg key a m b d →
  Calls Try.prog 45 #[.slice (some ⟨g, 0, none⟩) n cap, .int .i64 a, .int .i64 m, .int .i64 b, .func (.func 34) #[] #[.pointer (some ⟨Bx, 0, none⟩)]] w
      fun e w' => e = .returned (.tuple #[]) ∧ ∃ D, SW w0 g n D w' ∧ Ordd key a b D ∧ Shuf a b d D

/-- the search of one element's place in a piece -/
structure Src (key : Nat → Int) (x lo i j hi : Nat) (d : Nat → Nat) : Prop where
  below : ∀ p, lo ≤ p → p < i → bef key (d p) x
  above : ∀ p, j ≤ p → p < hi → bef key x (d p)

theorem Src.up {key : Nat → Int} {x lo i j hi h : Nat} {d : Nat → Nat} (S : Src key x lo i j hi d) (O : Ordd key lo hi d) (h2 : h < hi) (hb : bef key (d h) x) : Src key x lo (h + 1) j hi d :=
  ⟨fun _ p1 p2 => bef.le_trans (O.le p1 (by omega) h2) hb, S.above⟩
theorem Src.down {key : Nat → Int} {x lo i j hi h : Nat} {d : Nat → Nat} (S : Src key x lo i j hi d) (O : Ordd key lo hi d) (h1 : lo ≤ h) (hb : bef key x (d h)) : Src key x lo i h hi d :=
  ⟨S.below, fun _ p1 p2 => hb.trans_le (O.le h1 p1 p2)⟩

set_option maxHeartbeats 3200000 in
set_option maxRecDepth 100000 in
theorem merge_one (Bx bK n c g cap a b : Nat) (key : Nat → Int) (w0 : World) (K : Keys w0 Bx bK n c g key) (hab : a + 1 < b) (hb : b ≤ n) (hn : n ≤ 1000000) : MergeOK Bx n g cap key w0 a (a + 1) b := by
  intro d w S hd M
  have HK := Lib.hid K
  have HS := Lib.hid S
  have HD := Lib.hid hd
  have HM := Lib.hid M
  clear K S hd M
  have t0 : ((a : Int) + 1 - (a : Int) == 1) = true := by simp; omega
  have e0 : ((a + 1 : Nat) : Int) = (a : Int) + 1 := by omega
  rw [e0]
  clear e0
  go_enter Try.func45, Try.ntmps45
  go_wp2
  go_loopg [10, 11] (b - a) (fun g1 vi vj wr => ∃ (i j : Nat), vi = .int .i64 i ∧ vj = .int .i64 j ∧ a + 1 ≤ i ∧ i ≤ j ∧ j ≤ b ∧ j - i ≤ g1 ∧ Hid (SW w0 g n d wr) ∧ Hid (Src key (d a) (a + 1) i j b d))
  case atStart => exact ⟨a + 1, b, by go_num, rfl, Nat.le_refl _, by omega, Nat.le_refl _, by omega, HS, ⟨fun p h1 h2 => by omega, fun p h1 h2 => by omega⟩⟩
  case round =>
    clear HS
    obtain ⟨i, j, rfl, rfl, hi, hij, hj, hg1, HS, HI⟩ := hrel
    by_cases hlt : i < j
    · obtain ⟨h, hh⟩ : ∃ h, h = (i + j) / 2 := ⟨_, rfl⟩
      have r1 : i ≤ h := by omega
      have r2 : h < j := by omega
      have q1 : ((i : Int) + (j : Int)) / 2 = (h : Int) := by omega
      have c1 : wr.cell? ⟨g, h, none⟩ = some (.int .i64 (d h)) := HS.out.row.cell (by omega)
      have c2 : wr.cell? ⟨g, a, none⟩ = some (.int .i64 (d a)) := HS.out.row.cell (by omega)
      have hcmp := fun m : Nat => HK.out.cmp (HS.out.drewN m) (d h) (d a) (HD.out _ (by omega)) (HD.out _ (by omega))
      have hlow := HM.out.low a h (Nat.le_refl _) (by omega) (by omega) (by omega)
      obtain ⟨x, hx⟩ : ∃ x, x = d h := ⟨_, rfl⟩
      obtain ⟨y, hy⟩ : ∃ y, y = d a := ⟨_, rfl⟩
      rw [← hx] at c1 hcmp hlow
      rw [← hy] at c2 hcmp hlow
      have HX := Lib.hid hx
      have HY := Lib.hid hy
      have HC := Lib.hid hcmp
      have HLW := Lib.hid hlow
      have z1 : (0 : Int) ≤ (h : Int) := by omega
      have z2 : (h : Int) < (n : Int) := by omega
      have z3 : (0 : Int) ≤ (a : Int) := by omega
      have z4 : (a : Int) < (n : Int) := by omega
      clear hx hy hh hcmp hlow
      by_cases hlv : key y < key x
      · have t1 := cmpI_neg hlv
        go_wp2_with fail
        go_quiet ((go_at_call 34; exact Calls.quiet_of (HC.out _)))
        go_wp2
        go_roundg (j - (h + 1))
        case measure => omega
        case rel => exact ⟨h + 1, j, by go_num, rfl, by omega, by omega, hj, by omega, HS.out.drewN nq, HI.out.up HM.out.two (by omega) (by rw [← HX.out, ← HY.out]; exact (bef_iff HLW.out).mpr hlv)⟩
      · have t1 := cmpI_pos hlv
        go_wp2_with fail
        go_quiet ((go_at_call 34; exact Calls.quiet_of (HC.out _)))
        go_wp2
        go_roundg (h - i)
        case measure => omega
        case rel => exact ⟨i, h, rfl, rfl, hi, by omega, by omega, by omega, HS.out.drewN nq, HI.out.down HM.out.two (by omega) (by rw [← HX.out, ← HY.out]; exact bef_not HLW.out (by omega))⟩
    · obtain rfl : i = j := by omega
      have e1 : Hid (SW w0 g n (rotF d a (a + 1) (a + 1)) wr) := by rw [rotF_right]; exact HS
      clear HS
      go_wp2
      go_loopg [13] (i - a) (fun g2 vk wr2 => ∃ k : Nat, vk = .int .i64 k ∧ a ≤ k ∧ k + 1 ≤ i ∧ i - k ≤ g2 ∧ Hid (SW w0 g n (rotF d a (a + 1) (k + 1)) wr2))
      case atStart => exact ⟨a, rfl, Nat.le_refl _, by omega, by omega, e1⟩
      case round =>
        clear e1
        obtain ⟨k, rfl, hk1, hk2, hg2, HS⟩ := hrel
        by_cases hlt2 : k + 1 < i
        · have t2 : decide ((k : Int) < (i : Int) - 1) = true := decide_eq_true (by omega)
          obtain ⟨dk, hdk⟩ : ∃ dk, dk = rotF d a (a + 1) (k + 1) := ⟨_, rfl⟩
          have hst := rotF_one_step d a k hk1
          rw [← hdk] at HS hst
          have HST := Lib.hid hst
          clear hdk hst
          have c1 : wr.cell? ⟨g, k, none⟩ = some (.int .i64 (dk k)) := HS.out.row.cell (by omega)
          have c2 : wr.cell? ⟨g, k + 1, none⟩ = some (.int .i64 (dk (k + 1))) := HS.out.row.cell (by omega)
          have f1 := HS.out.row.frozen k
          have f2 := HS.out.row.frozen (k + 1)
          have S2 := HS.out.swap (i := k) (j := k + 1) (by omega)
          have HS1 := Lib.hid S2
          clear S2 HS
          obtain ⟨x, hx⟩ : ∃ x, x = dk k := ⟨_, rfl⟩
          obtain ⟨y, hy⟩ : ∃ y, y = dk (k + 1) := ⟨_, rfl⟩
          rw [← hx] at c1 HS1
          rw [← hy] at c2 HS1
          clear hx hy
          have z1 : (0 : Int) ≤ (k : Int) := by omega
          have z2 : (k : Int) < (n : Int) := by omega
          have z3 : (0 : Int) ≤ (k : Int) + 1 := by omega
          have z4 : (k : Int) + 1 < (n : Int) := by omega
          have z5 : IntKind.i64.wrap ((k : Int) + 1) = (k : Int) + 1 := IntWalk.i64_in _ (by omega)
          have z6 : ((k : Int) + 1).toNat = k + 1 := by omega
          go_wp2
          go_region
          all_goals go_wp2
          go_roundg (i - (k + 1))
          case measure => omega
          case rel => exact ⟨k + 1, by go_num, by omega, by omega, by omega, by rw [← HST.out]; exact HS1.out.drew⟩
        · have t2 : decide ((k : Int) < (i : Int) - 1) = false := decide_eq_false (by omega)
          obtain rfl : i = k + 1 := by omega
          go_wp2
          first
            | go_end0
            | refine bodyPost_ret (results_none rfl _ _ _) rfl ?_
          exact ⟨rfl, _, HS.out, one_ordd HM.out hi hj HI.out.below HI.out.above, (rotF_shuf d a (a + 1) (k + 1) (by omega) (by omega)).mono (Nat.le_refl _) hj⟩

set_option maxHeartbeats 3200000 in
set_option maxRecDepth 100000 in
theorem merge_last (Bx bK n c g cap a m : Nat) (key : Nat → Int) (w0 : World) (K : Keys w0 Bx bK n c g key) (ham : a + 1 < m) (hb : m + 1 ≤ n) (hn : n ≤ 1000000) : MergeOK Bx n g cap key w0 a m (m + 1) := by
  intro d w S hd M
  have HK := Lib.hid K
  have HS := Lib.hid S
  have HD := Lib.hid hd
  have HM := Lib.hid M
  clear K S hd M
  have t0 : ((m : Int) - (a : Int) == 1) = false := by simp; omega
  have t9 : ((m : Int) + 1 - (m : Int) == 1) = true := by simp; omega
  have e0 : ((m + 1 : Nat) : Int) = (m : Int) + 1 := by omega
  rw [e0]
  clear e0
  go_enter Try.func45, Try.ntmps45
  go_wp2
  go_loopg [14, 15] (m - a) (fun g1 vi vj wr => ∃ (i j : Nat), vi = .int .i64 i ∧ vj = .int .i64 j ∧ a ≤ i ∧ i ≤ j ∧ j ≤ m ∧ j - i ≤ g1 ∧ Hid (SW w0 g n d wr) ∧ Hid (Src key (d m) a i j m d))
  case atStart => exact ⟨a, m, rfl, rfl, Nat.le_refl _, by omega, Nat.le_refl _, by omega, HS, ⟨fun p h1 h2 => by omega, fun p h1 h2 => by omega⟩⟩
  case round =>
    clear HS
    obtain ⟨i, j, rfl, rfl, hi, hij, hj, hg1, HS, HI⟩ := hrel
    by_cases hlt : i < j
    · obtain ⟨h, hh⟩ : ∃ h, h = (i + j) / 2 := ⟨_, rfl⟩
      have r1 : i ≤ h := by omega
      have r2 : h < j := by omega
      have q1 : ((i : Int) + (j : Int)) / 2 = (h : Int) := by omega
      have c1 : wr.cell? ⟨g, m, none⟩ = some (.int .i64 (d m)) := HS.out.row.cell (by omega)
      have c2 : wr.cell? ⟨g, h, none⟩ = some (.int .i64 (d h)) := HS.out.row.cell (by omega)
      have hcmp := fun k : Nat => HK.out.cmp (HS.out.drewN k) (d m) (d h) (HD.out _ (by omega)) (HD.out _ (by omega))
      have hlow := HM.out.low h m (by omega) (by omega) (Nat.le_refl _) (by omega)
      obtain ⟨x, hx⟩ : ∃ x, x = d m := ⟨_, rfl⟩
      obtain ⟨y, hy⟩ : ∃ y, y = d h := ⟨_, rfl⟩
      rw [← hx] at c1 hcmp hlow
      rw [← hy] at c2 hcmp hlow
      have HX := Lib.hid hx
      have HY := Lib.hid hy
      have HC := Lib.hid hcmp
      have HLW := Lib.hid hlow
      have z1 : (0 : Int) ≤ (h : Int) := by omega
      have z2 : (h : Int) < (n : Int) := by omega
      have z3 : (0 : Int) ≤ (m : Int) := by omega
      have z4 : (m : Int) < (n : Int) := by omega
      clear hx hy hh hcmp hlow
      by_cases hlv : key y < key x
      · have t1 := cmpI_neg hlv
        go_wp2_with fail
        go_quiet ((go_at_call 34; exact Calls.quiet_of (HC.out _)))
        go_wp2
        go_roundg (h - i)
        case measure => omega
        case rel => exact ⟨i, h, rfl, rfl, hi, by omega, by omega, by omega, HS.out.drewN nq, HI.out.down HM.out.one (by omega) (by rw [← HX.out, ← HY.out]; exact (bef_iff HLW.out).mpr (by omega))⟩
      · have t1 := cmpI_pos hlv
        go_wp2_with fail
        go_quiet ((go_at_call 34; exact Calls.quiet_of (HC.out _)))
        go_wp2
        go_roundg (j - (h + 1))
        case measure => omega
        case rel => exact ⟨h + 1, j, by go_num, rfl, by omega, by omega, hj, by omega, HS.out.drewN nq, HI.out.up HM.out.one (by omega) (by rw [← HX.out, ← HY.out]; exact bef_not HLW.out (by omega))⟩
    · obtain rfl : i = j := by omega
      have e1 : Hid (SW w0 g n (rotF d m m (m + 1)) wr) := by rw [rotF_left]; exact HS
      clear HS
      go_wp2
      go_loopg [17] (m - i) (fun g2 vk wr2 => ∃ k : Nat, vk = .int .i64 k ∧ i ≤ k ∧ k ≤ m ∧ k - i ≤ g2 ∧ Hid (SW w0 g n (rotF d k m (m + 1)) wr2))
      case atStart => exact ⟨m, rfl, hj, Nat.le_refl _, Nat.le_refl _, e1⟩
      case round =>
        clear e1
        obtain ⟨k, rfl, hk1, hk2, hg2, HS⟩ := hrel
        by_cases hlt2 : i < k
        · obtain ⟨q, rfl⟩ : ∃ q, k = q + 1 := ⟨k - 1, by omega⟩
          have t2 : decide ((i : Int) < (q : Int) + 1) = true := decide_eq_true (by omega)
          obtain ⟨dk, hdk⟩ : ∃ dk, dk = rotF d (q + 1) m (m + 1) := ⟨_, rfl⟩
          have hst := rotF_last_step d m q (by omega)
          rw [← hdk] at HS hst
          have HST := Lib.hid hst
          clear hdk hst
          have c1 : wr.cell? ⟨g, q + 1, none⟩ = some (.int .i64 (dk (q + 1))) := HS.out.row.cell (by omega)
          have c2 : wr.cell? ⟨g, q, none⟩ = some (.int .i64 (dk q)) := HS.out.row.cell (by omega)
          have f1 := HS.out.row.frozen (q + 1)
          have f2 := HS.out.row.frozen q
          have S2 := HS.out.swap (i := q + 1) (j := q) (by omega)
          have HS1 := Lib.hid S2
          clear S2 HS
          obtain ⟨x, hx⟩ : ∃ x, x = dk (q + 1) := ⟨_, rfl⟩
          obtain ⟨y, hy⟩ : ∃ y, y = dk q := ⟨_, rfl⟩
          rw [← hx] at c1 HS1
          rw [← hy] at c2 HS1
          clear hx hy
          have z1 : (0 : Int) ≤ (q : Int) := by omega
          have z2 : (q : Int) < (n : Int) := by omega
          have z3 : (0 : Int) ≤ (q : Int) + 1 := by omega
          have z4 : (q : Int) + 1 < (n : Int) := by omega
          have z5 : IntKind.i64.wrap (q : Int) = (q : Int) := IntWalk.i64_in _ (by omega)
          have z6 : ((q : Int) + 1).toNat = q + 1 := by omega
          go_wp2
          go_region
          all_goals go_wp2
          go_roundg (q - i)
          case measure => omega
          case rel => exact ⟨q, by go_num, by omega, by omega, by omega, by rw [← HST.out]; exact HS1.out.drew⟩
        · obtain rfl : k = i := by omega
          have t2 : decide ((k : Int) < (k : Int)) = false := decide_eq_false (by omega)
          go_wp2
          first
            | go_end0
            | refine bodyPost_ret (results_none rfl _ _ _) rfl ?_
          exact ⟨rfl, _, HS.out, last_ordd HM.out hi hj HI.out.below HI.out.above, (rotF_shuf d k m (m + 1) (by omega) (by omega)).mono hi (Nat.le_refl _)⟩
end Go.Proofs.Ytmnhjcfhgcineaa
