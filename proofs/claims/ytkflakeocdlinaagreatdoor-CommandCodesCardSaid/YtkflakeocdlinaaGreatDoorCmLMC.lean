/-
  Contracts of the document's plain and Right of layer 18.
-/
import Derived.Test.YtkflakeocdlinaaGreatDoorCmKMC
import Derived.Test.YtkflakeocdlinaaGreatDoorMC06
import Derived.Test.YtkflakeocdlinaaGreatDoorMC18
import Derived.Deep.LoopGhost
namespace Go.Proofs.YtkflakeocdlinaaGreatDoor
open Go.RowKit Go.Deep

theorem plain_bad (c : Cm) (h : c.cur ≠ [] ∨ 0 < c.sh.length) : plainD c = false := by unfold plainD; rw [if_pos h]

set_option maxHeartbeats 1600000 in
theorem rplain_bad (k i b u t : List UInt8) (m : Int) (a : Option Addr) (cp : Nat) (xs : List Sh) (w : World) (h : u ≠ [] ∨ 0 < xs.length) :
    Calls Tryz.prog 29 #[.agg #[.string (st k), .string (st i), .string (st b), .string (st u), .string (st t), .int .i64 m, .slice a xs.length cp]] w fun e w' => e = .returned (.bool false) ∧ Below w.heap.size w w' := by
  have HB0 : Hid (Below w.heap.size w (w.alloc (.cells #[.string (st k), .string (st i), .string (st b), .string (st u), .string (st t), .int .i64 m, .slice a xs.length cp] 24))) := (Below.refl _ w).alloc (Nat.le_refl _) _
  have q1 := empty_eqA u
  obtain ⟨n, hn⟩ : ∃ n, n = xs.length := ⟨_, rfl⟩
  rw [← hn] at h HB0 ⊢
  clear hn
  by_cases h1 : u = []
  · have h2 : (0 : Int) < (n : Int) := by rcases h with h | h; exact absurd h1 h; omega
    have h3 : 0 < n := by omega
    rw [decide_eq_true h1] at q1
    clear h1 h
    go_enter Tryz.func29, Tryz.ntmps29
    go_wp2; go_ret; exact ⟨rfl, HB0.out⟩
  · rw [decide_eq_false h1] at q1
    clear h1 h
    go_enter Tryz.func29, Tryz.ntmps29
    go_wp2; go_ret; exact ⟨rfl, HB0.out⟩

set_option maxHeartbeats 3200000 in
set_option maxRecDepth 100000 in
theorem rplain_kRefund (i b t : List UInt8) (m : Int) (a : Option Addr) (cp : Nat) (w : World) (hi : i.length ≤ 4611686018427387904) (hb : b.length ≤ 4611686018427387904) (ht : t.length ≤ 4611686018427387904) (P : Bool) (hP : P = (nameB i 20 && (nameB b 20 && (decide (t = []) && amtB m 1)))) :
    Calls Tryz.prog 29 #[.agg #[.string (st kRefund), .string (st i), .string (st b), .string (st []), .string (st t), .int .i64 m, .slice a 0 cp]] w fun e w' => e = .returned (.bool P) ∧ Below w.heap.size w w' := by
  have HB0 : Hid (∀ o, Below w.heap.size w (w.alloc o)) := fun o => (Below.refl _ w).alloc (Nat.le_refl _) o
  have q0 : (st []).toList.isEmpty = true := by rw [empty_eqA]; rfl
  have HV := Lib.hid hP
  clear hP
  obtain ⟨bi, hbi⟩ : ∃ bi, bi = nameB i 20 := ⟨_, rfl⟩
  obtain ⟨bb, hbb⟩ : ∃ bb, bb = nameB b 20 := ⟨_, rfl⟩
  obtain ⟨bk, hbk⟩ : ∃ bk, bk = nameB b 60 := ⟨_, rfl⟩
  obtain ⟨bt, hbt⟩ : ∃ bt, bt = nameB t 20 := ⟨_, rfl⟩
  have H1 : ∀ W, Hid (Calls Tryz.prog 30 #[.string (st i), .int .i64 20] W fun e w' => e = .returned (.bool bi) ∧ W = w') := fun W => by rw [hbi]; exact rname_any i 20 W hi
  have H2 : ∀ W, Hid (Calls Tryz.prog 30 #[.string (st b), .int .i64 20] W fun e w' => e = .returned (.bool bb) ∧ W = w') := fun W => by rw [hbb]; exact rname_any b 20 W hb
  have H3 : ∀ W, Hid (Calls Tryz.prog 30 #[.string (st b), .int .i64 60] W fun e w' => e = .returned (.bool bk) ∧ W = w') := fun W => by rw [hbk]; exact rname_any b 60 W hb
  have H4 : ∀ W, Hid (Calls Tryz.prog 30 #[.string (st t), .int .i64 20] W fun e w' => e = .returned (.bool bt) ∧ W = w') := fun W => by rw [hbt]; exact rname_any t 20 W ht
  obtain ⟨m1, hm1⟩ : ∃ m1, m1 = amtB m 1 := ⟨_, rfl⟩
  obtain ⟨m0, hm0⟩ : ∃ m0, m0 = amtB m 0 := ⟨_, rfl⟩
  have A1 : ∀ W, Hid (Calls Tryz.prog 32 #[.int .i64 m, .int .i64 1] W fun e w' => e = .returned (.bool m1) ∧ W = w') := fun W => by rw [hm1]; exact ramount_any m 1 W
  have A0 : ∀ W, Hid (Calls Tryz.prog 32 #[.int .i64 m, .int .i64 0] W fun e w' => e = .returned (.bool m0) ∧ W = w') := fun W => by rw [hm0]; exact ramount_any m 0 W
  have fkRefund : ((st kRefund).toList == [114, 101, 102, 117, 110, 100]) = true := by rw [lit_eqA]; decide
  have fkCharge : ((st kRefund).toList == [99, 104, 97, 114, 103, 101, 98, 97, 99, 107]) = false := by rw [lit_eqA]; decide
  have fkReverse : ((st kRefund).toList == [114, 101, 118, 101, 114, 115, 101]) = false := by rw [lit_eqA]; decide
  have fkHold : ((st kRefund).toList == [104, 111, 108, 100]) = false := by rw [lit_eqA]; decide
  have fkFree : ((st kRefund).toList == [102, 114, 101, 101]) = false := by rw [lit_eqA]; decide
  have fkTick : ((st kRefund).toList == [116, 105, 99, 107]) = false := by rw [lit_eqA]; decide
  have fkReply : ((st kRefund).toList == [114, 101, 112, 108, 121]) = false := by rw [lit_eqA]; decide
  have ei := empty_eqA i
  have eb := empty_eqA b
  have et := empty_eqA t
  obtain ⟨zi, hzi⟩ : ∃ zi, zi = decide (i = []) := ⟨_, rfl⟩
  obtain ⟨zb, hzb⟩ : ∃ zb, zb = decide (b = []) := ⟨_, rfl⟩
  obtain ⟨zt, hzt⟩ : ∃ zt, zt = decide (t = []) := ⟨_, rfl⟩
  rw [← hzi] at ei
  rw [← hzb] at eb
  rw [← hzt] at et
  have HV : Hid (P = (bi && (bb && (zt && m1)))) := by show _ = _; rw [HV.out]; simp only [hbi, hbb, hzt, hm1]
  clear hbi hbb hbk hbt hm1 hm0 hzi hzb hzt hi hb ht
  go_enter Tryz.func29, Tryz.ntmps29
  go_upto_region 7 with (first
    | (go_at_call 30; with_reducible refine (H1 _).out.mono ?_; rintro e w' ⟨rfl, rfl⟩)
    | (go_at_call 30; with_reducible refine (H2 _).out.mono ?_; rintro e w' ⟨rfl, rfl⟩)
    | (go_at_call 30; with_reducible refine (H3 _).out.mono ?_; rintro e w' ⟨rfl, rfl⟩)
    | (go_at_call 30; with_reducible refine (H4 _).out.mono ?_; rintro e w' ⟨rfl, rfl⟩)
    | fail)
  clear H1 H2 H3 H4
  cases bi with
  | false =>
    go_wp2_with (first | (go_at_call 32; with_reducible refine (A1 _).out.mono ?_; rintro e w' ⟨rfl, rfl⟩) | (go_at_call 32; with_reducible refine (A0 _).out.mono ?_; rintro e w' ⟨rfl, rfl⟩) | fail)
    go_ret
    exact ⟨by rw [HV.out]; first | done | rfl | simp, HB0.out _⟩
  | true =>
    cases bb with
    | false =>
      go_wp2_with (first | (go_at_call 32; with_reducible refine (A1 _).out.mono ?_; rintro e w' ⟨rfl, rfl⟩) | (go_at_call 32; with_reducible refine (A0 _).out.mono ?_; rintro e w' ⟨rfl, rfl⟩) | fail)
      go_ret
      exact ⟨by rw [HV.out]; first | done | rfl | simp, HB0.out _⟩
    | true =>
      cases zt with
      | false =>
        go_wp2_with (first | (go_at_call 32; with_reducible refine (A1 _).out.mono ?_; rintro e w' ⟨rfl, rfl⟩) | (go_at_call 32; with_reducible refine (A0 _).out.mono ?_; rintro e w' ⟨rfl, rfl⟩) | fail)
        go_ret
        exact ⟨by rw [HV.out]; first | done | rfl | simp, HB0.out _⟩
      | true =>
        go_wp2_with (first | (go_at_call 32; with_reducible refine (A1 _).out.mono ?_; rintro e w' ⟨rfl, rfl⟩) | (go_at_call 32; with_reducible refine (A0 _).out.mono ?_; rintro e w' ⟨rfl, rfl⟩) | fail)
        go_ret
        exact ⟨by rw [HV.out]; first | done | rfl | simp, HB0.out _⟩

set_option maxHeartbeats 3200000 in
set_option maxRecDepth 100000 in
theorem rplain_kCharge (i b t : List UInt8) (m : Int) (a : Option Addr) (cp : Nat) (w : World) (hi : i.length ≤ 4611686018427387904) (hb : b.length ≤ 4611686018427387904) (ht : t.length ≤ 4611686018427387904) (P : Bool) (hP : P = (nameB i 20 && (nameB b 20 && (decide (t = []) && amtB m 1)))) :
    Calls Tryz.prog 29 #[.agg #[.string (st kCharge), .string (st i), .string (st b), .string (st []), .string (st t), .int .i64 m, .slice a 0 cp]] w fun e w' => e = .returned (.bool P) ∧ Below w.heap.size w w' := by
  have HB0 : Hid (∀ o, Below w.heap.size w (w.alloc o)) := fun o => (Below.refl _ w).alloc (Nat.le_refl _) o
  have q0 : (st []).toList.isEmpty = true := by rw [empty_eqA]; rfl
  have HV := Lib.hid hP
  clear hP
  obtain ⟨bi, hbi⟩ : ∃ bi, bi = nameB i 20 := ⟨_, rfl⟩
  obtain ⟨bb, hbb⟩ : ∃ bb, bb = nameB b 20 := ⟨_, rfl⟩
  obtain ⟨bk, hbk⟩ : ∃ bk, bk = nameB b 60 := ⟨_, rfl⟩
  obtain ⟨bt, hbt⟩ : ∃ bt, bt = nameB t 20 := ⟨_, rfl⟩
  have H1 : ∀ W, Hid (Calls Tryz.prog 30 #[.string (st i), .int .i64 20] W fun e w' => e = .returned (.bool bi) ∧ W = w') := fun W => by rw [hbi]; exact rname_any i 20 W hi
  have H2 : ∀ W, Hid (Calls Tryz.prog 30 #[.string (st b), .int .i64 20] W fun e w' => e = .returned (.bool bb) ∧ W = w') := fun W => by rw [hbb]; exact rname_any b 20 W hb
  have H3 : ∀ W, Hid (Calls Tryz.prog 30 #[.string (st b), .int .i64 60] W fun e w' => e = .returned (.bool bk) ∧ W = w') := fun W => by rw [hbk]; exact rname_any b 60 W hb
  have H4 : ∀ W, Hid (Calls Tryz.prog 30 #[.string (st t), .int .i64 20] W fun e w' => e = .returned (.bool bt) ∧ W = w') := fun W => by rw [hbt]; exact rname_any t 20 W ht
  obtain ⟨m1, hm1⟩ : ∃ m1, m1 = amtB m 1 := ⟨_, rfl⟩
  obtain ⟨m0, hm0⟩ : ∃ m0, m0 = amtB m 0 := ⟨_, rfl⟩
  have A1 : ∀ W, Hid (Calls Tryz.prog 32 #[.int .i64 m, .int .i64 1] W fun e w' => e = .returned (.bool m1) ∧ W = w') := fun W => by rw [hm1]; exact ramount_any m 1 W
  have A0 : ∀ W, Hid (Calls Tryz.prog 32 #[.int .i64 m, .int .i64 0] W fun e w' => e = .returned (.bool m0) ∧ W = w') := fun W => by rw [hm0]; exact ramount_any m 0 W
  have fkRefund : ((st kCharge).toList == [114, 101, 102, 117, 110, 100]) = false := by rw [lit_eqA]; decide
  have fkCharge : ((st kCharge).toList == [99, 104, 97, 114, 103, 101, 98, 97, 99, 107]) = true := by rw [lit_eqA]; decide
  have fkReverse : ((st kCharge).toList == [114, 101, 118, 101, 114, 115, 101]) = false := by rw [lit_eqA]; decide
  have fkHold : ((st kCharge).toList == [104, 111, 108, 100]) = false := by rw [lit_eqA]; decide
  have fkFree : ((st kCharge).toList == [102, 114, 101, 101]) = false := by rw [lit_eqA]; decide
  have fkTick : ((st kCharge).toList == [116, 105, 99, 107]) = false := by rw [lit_eqA]; decide
  have fkReply : ((st kCharge).toList == [114, 101, 112, 108, 121]) = false := by rw [lit_eqA]; decide
  have ei := empty_eqA i
  have eb := empty_eqA b
  have et := empty_eqA t
  obtain ⟨zi, hzi⟩ : ∃ zi, zi = decide (i = []) := ⟨_, rfl⟩
  obtain ⟨zb, hzb⟩ : ∃ zb, zb = decide (b = []) := ⟨_, rfl⟩
  obtain ⟨zt, hzt⟩ : ∃ zt, zt = decide (t = []) := ⟨_, rfl⟩
  rw [← hzi] at ei
  rw [← hzb] at eb
  rw [← hzt] at et
  have HV : Hid (P = (bi && (bb && (zt && m1)))) := by show _ = _; rw [HV.out]; simp only [hbi, hbb, hzt, hm1]
  clear hbi hbb hbk hbt hm1 hm0 hzi hzb hzt hi hb ht
  go_enter Tryz.func29, Tryz.ntmps29
  go_upto_region 7 with (first
    | (go_at_call 30; with_reducible refine (H1 _).out.mono ?_; rintro e w' ⟨rfl, rfl⟩)
    | (go_at_call 30; with_reducible refine (H2 _).out.mono ?_; rintro e w' ⟨rfl, rfl⟩)
    | (go_at_call 30; with_reducible refine (H3 _).out.mono ?_; rintro e w' ⟨rfl, rfl⟩)
    | (go_at_call 30; with_reducible refine (H4 _).out.mono ?_; rintro e w' ⟨rfl, rfl⟩)
    | fail)
  clear H1 H2 H3 H4
  cases bi with
  | false =>
    go_wp2_with (first | (go_at_call 32; with_reducible refine (A1 _).out.mono ?_; rintro e w' ⟨rfl, rfl⟩) | (go_at_call 32; with_reducible refine (A0 _).out.mono ?_; rintro e w' ⟨rfl, rfl⟩) | fail)
    go_ret
    exact ⟨by rw [HV.out]; first | done | rfl | simp, HB0.out _⟩
  | true =>
    cases bb with
    | false =>
      go_wp2_with (first | (go_at_call 32; with_reducible refine (A1 _).out.mono ?_; rintro e w' ⟨rfl, rfl⟩) | (go_at_call 32; with_reducible refine (A0 _).out.mono ?_; rintro e w' ⟨rfl, rfl⟩) | fail)
      go_ret
      exact ⟨by rw [HV.out]; first | done | rfl | simp, HB0.out _⟩
    | true =>
      cases zt with
      | false =>
        go_wp2_with (first | (go_at_call 32; with_reducible refine (A1 _).out.mono ?_; rintro e w' ⟨rfl, rfl⟩) | (go_at_call 32; with_reducible refine (A0 _).out.mono ?_; rintro e w' ⟨rfl, rfl⟩) | fail)
        go_ret
        exact ⟨by rw [HV.out]; first | done | rfl | simp, HB0.out _⟩
      | true =>
        go_wp2_with (first | (go_at_call 32; with_reducible refine (A1 _).out.mono ?_; rintro e w' ⟨rfl, rfl⟩) | (go_at_call 32; with_reducible refine (A0 _).out.mono ?_; rintro e w' ⟨rfl, rfl⟩) | fail)
        go_ret
        exact ⟨by rw [HV.out]; first | done | rfl | simp, HB0.out _⟩

set_option maxHeartbeats 3200000 in
set_option maxRecDepth 100000 in
theorem rplain_kReverse (i b t : List UInt8) (m : Int) (a : Option Addr) (cp : Nat) (w : World) (hi : i.length ≤ 4611686018427387904) (hb : b.length ≤ 4611686018427387904) (ht : t.length ≤ 4611686018427387904) (P : Bool) (hP : P = (nameB i 20 && (nameB b 20 && (decide (t = []) && (m == 0))))) :
    Calls Tryz.prog 29 #[.agg #[.string (st kReverse), .string (st i), .string (st b), .string (st []), .string (st t), .int .i64 m, .slice a 0 cp]] w fun e w' => e = .returned (.bool P) ∧ Below w.heap.size w w' := by
  have HB0 : Hid (∀ o, Below w.heap.size w (w.alloc o)) := fun o => (Below.refl _ w).alloc (Nat.le_refl _) o
  have q0 : (st []).toList.isEmpty = true := by rw [empty_eqA]; rfl
  have HV := Lib.hid hP
  clear hP
  obtain ⟨bi, hbi⟩ : ∃ bi, bi = nameB i 20 := ⟨_, rfl⟩
  obtain ⟨bb, hbb⟩ : ∃ bb, bb = nameB b 20 := ⟨_, rfl⟩
  obtain ⟨bk, hbk⟩ : ∃ bk, bk = nameB b 60 := ⟨_, rfl⟩
  obtain ⟨bt, hbt⟩ : ∃ bt, bt = nameB t 20 := ⟨_, rfl⟩
  have H1 : ∀ W, Hid (Calls Tryz.prog 30 #[.string (st i), .int .i64 20] W fun e w' => e = .returned (.bool bi) ∧ W = w') := fun W => by rw [hbi]; exact rname_any i 20 W hi
  have H2 : ∀ W, Hid (Calls Tryz.prog 30 #[.string (st b), .int .i64 20] W fun e w' => e = .returned (.bool bb) ∧ W = w') := fun W => by rw [hbb]; exact rname_any b 20 W hb
  have H3 : ∀ W, Hid (Calls Tryz.prog 30 #[.string (st b), .int .i64 60] W fun e w' => e = .returned (.bool bk) ∧ W = w') := fun W => by rw [hbk]; exact rname_any b 60 W hb
  have H4 : ∀ W, Hid (Calls Tryz.prog 30 #[.string (st t), .int .i64 20] W fun e w' => e = .returned (.bool bt) ∧ W = w') := fun W => by rw [hbt]; exact rname_any t 20 W ht
  obtain ⟨m1, hm1⟩ : ∃ m1, m1 = amtB m 1 := ⟨_, rfl⟩
  obtain ⟨m0, hm0⟩ : ∃ m0, m0 = amtB m 0 := ⟨_, rfl⟩
  have A1 : ∀ W, Hid (Calls Tryz.prog 32 #[.int .i64 m, .int .i64 1] W fun e w' => e = .returned (.bool m1) ∧ W = w') := fun W => by rw [hm1]; exact ramount_any m 1 W
  have A0 : ∀ W, Hid (Calls Tryz.prog 32 #[.int .i64 m, .int .i64 0] W fun e w' => e = .returned (.bool m0) ∧ W = w') := fun W => by rw [hm0]; exact ramount_any m 0 W
  have fkRefund : ((st kReverse).toList == [114, 101, 102, 117, 110, 100]) = false := by rw [lit_eqA]; decide
  have fkCharge : ((st kReverse).toList == [99, 104, 97, 114, 103, 101, 98, 97, 99, 107]) = false := by rw [lit_eqA]; decide
  have fkReverse : ((st kReverse).toList == [114, 101, 118, 101, 114, 115, 101]) = true := by rw [lit_eqA]; decide
  have fkHold : ((st kReverse).toList == [104, 111, 108, 100]) = false := by rw [lit_eqA]; decide
  have fkFree : ((st kReverse).toList == [102, 114, 101, 101]) = false := by rw [lit_eqA]; decide
  have fkTick : ((st kReverse).toList == [116, 105, 99, 107]) = false := by rw [lit_eqA]; decide
  have fkReply : ((st kReverse).toList == [114, 101, 112, 108, 121]) = false := by rw [lit_eqA]; decide
  have ei := empty_eqA i
  have eb := empty_eqA b
  have et := empty_eqA t
  obtain ⟨zi, hzi⟩ : ∃ zi, zi = decide (i = []) := ⟨_, rfl⟩
  obtain ⟨zb, hzb⟩ : ∃ zb, zb = decide (b = []) := ⟨_, rfl⟩
  obtain ⟨zt, hzt⟩ : ∃ zt, zt = decide (t = []) := ⟨_, rfl⟩
  rw [← hzi] at ei
  rw [← hzb] at eb
  rw [← hzt] at et
  have HV : Hid (P = (bi && (bb && (zt && (m == 0))))) := by show _ = _; rw [HV.out]; simp only [hbi, hbb, hzt]
  clear hbi hbb hbk hbt hm1 hm0 hzi hzb hzt hi hb ht
  go_enter Tryz.func29, Tryz.ntmps29
  go_upto_region 7 with (first
    | (go_at_call 30; with_reducible refine (H1 _).out.mono ?_; rintro e w' ⟨rfl, rfl⟩)
    | (go_at_call 30; with_reducible refine (H2 _).out.mono ?_; rintro e w' ⟨rfl, rfl⟩)
    | (go_at_call 30; with_reducible refine (H3 _).out.mono ?_; rintro e w' ⟨rfl, rfl⟩)
    | (go_at_call 30; with_reducible refine (H4 _).out.mono ?_; rintro e w' ⟨rfl, rfl⟩)
    | fail)
  clear H1 H2 H3 H4
  cases bi with
  | false =>
    go_wp2_with (first | (go_at_call 32; with_reducible refine (A1 _).out.mono ?_; rintro e w' ⟨rfl, rfl⟩) | (go_at_call 32; with_reducible refine (A0 _).out.mono ?_; rintro e w' ⟨rfl, rfl⟩) | fail)
    go_ret
    exact ⟨by rw [HV.out]; first | done | rfl | simp, HB0.out _⟩
  | true =>
    cases bb with
    | false =>
      go_wp2_with (first | (go_at_call 32; with_reducible refine (A1 _).out.mono ?_; rintro e w' ⟨rfl, rfl⟩) | (go_at_call 32; with_reducible refine (A0 _).out.mono ?_; rintro e w' ⟨rfl, rfl⟩) | fail)
      go_ret
      exact ⟨by rw [HV.out]; first | done | rfl | simp, HB0.out _⟩
    | true =>
      cases zt with
      | false =>
        go_wp2_with (first | (go_at_call 32; with_reducible refine (A1 _).out.mono ?_; rintro e w' ⟨rfl, rfl⟩) | (go_at_call 32; with_reducible refine (A0 _).out.mono ?_; rintro e w' ⟨rfl, rfl⟩) | fail)
        go_ret
        exact ⟨by rw [HV.out]; first | done | rfl | simp, HB0.out _⟩
      | true =>
        go_wp2_with (first | (go_at_call 32; with_reducible refine (A1 _).out.mono ?_; rintro e w' ⟨rfl, rfl⟩) | (go_at_call 32; with_reducible refine (A0 _).out.mono ?_; rintro e w' ⟨rfl, rfl⟩) | fail)
        go_ret
        exact ⟨by rw [HV.out]; first | done | rfl | simp, HB0.out _⟩

set_option maxHeartbeats 3200000 in
set_option maxRecDepth 100000 in
theorem rplain_kHold (i b t : List UInt8) (m : Int) (a : Option Addr) (cp : Nat) (w : World) (hi : i.length ≤ 4611686018427387904) (hb : b.length ≤ 4611686018427387904) (ht : t.length ≤ 4611686018427387904) (P : Bool) (hP : P = (nameB i 20 && (nameB b 20 && (decide (t = []) && (m == 0))))) :
    Calls Tryz.prog 29 #[.agg #[.string (st kHold), .string (st i), .string (st b), .string (st []), .string (st t), .int .i64 m, .slice a 0 cp]] w fun e w' => e = .returned (.bool P) ∧ Below w.heap.size w w' := by
  have HB0 : Hid (∀ o, Below w.heap.size w (w.alloc o)) := fun o => (Below.refl _ w).alloc (Nat.le_refl _) o
  have q0 : (st []).toList.isEmpty = true := by rw [empty_eqA]; rfl
  have HV := Lib.hid hP
  clear hP
  obtain ⟨bi, hbi⟩ : ∃ bi, bi = nameB i 20 := ⟨_, rfl⟩
  obtain ⟨bb, hbb⟩ : ∃ bb, bb = nameB b 20 := ⟨_, rfl⟩
  obtain ⟨bk, hbk⟩ : ∃ bk, bk = nameB b 60 := ⟨_, rfl⟩
  obtain ⟨bt, hbt⟩ : ∃ bt, bt = nameB t 20 := ⟨_, rfl⟩
  have H1 : ∀ W, Hid (Calls Tryz.prog 30 #[.string (st i), .int .i64 20] W fun e w' => e = .returned (.bool bi) ∧ W = w') := fun W => by rw [hbi]; exact rname_any i 20 W hi
  have H2 : ∀ W, Hid (Calls Tryz.prog 30 #[.string (st b), .int .i64 20] W fun e w' => e = .returned (.bool bb) ∧ W = w') := fun W => by rw [hbb]; exact rname_any b 20 W hb
  have H3 : ∀ W, Hid (Calls Tryz.prog 30 #[.string (st b), .int .i64 60] W fun e w' => e = .returned (.bool bk) ∧ W = w') := fun W => by rw [hbk]; exact rname_any b 60 W hb
  have H4 : ∀ W, Hid (Calls Tryz.prog 30 #[.string (st t), .int .i64 20] W fun e w' => e = .returned (.bool bt) ∧ W = w') := fun W => by rw [hbt]; exact rname_any t 20 W ht
  obtain ⟨m1, hm1⟩ : ∃ m1, m1 = amtB m 1 := ⟨_, rfl⟩
  obtain ⟨m0, hm0⟩ : ∃ m0, m0 = amtB m 0 := ⟨_, rfl⟩
  have A1 : ∀ W, Hid (Calls Tryz.prog 32 #[.int .i64 m, .int .i64 1] W fun e w' => e = .returned (.bool m1) ∧ W = w') := fun W => by rw [hm1]; exact ramount_any m 1 W
  have A0 : ∀ W, Hid (Calls Tryz.prog 32 #[.int .i64 m, .int .i64 0] W fun e w' => e = .returned (.bool m0) ∧ W = w') := fun W => by rw [hm0]; exact ramount_any m 0 W
  have fkRefund : ((st kHold).toList == [114, 101, 102, 117, 110, 100]) = false := by rw [lit_eqA]; decide
  have fkCharge : ((st kHold).toList == [99, 104, 97, 114, 103, 101, 98, 97, 99, 107]) = false := by rw [lit_eqA]; decide
  have fkReverse : ((st kHold).toList == [114, 101, 118, 101, 114, 115, 101]) = false := by rw [lit_eqA]; decide
  have fkHold : ((st kHold).toList == [104, 111, 108, 100]) = true := by rw [lit_eqA]; decide
  have fkFree : ((st kHold).toList == [102, 114, 101, 101]) = false := by rw [lit_eqA]; decide
  have fkTick : ((st kHold).toList == [116, 105, 99, 107]) = false := by rw [lit_eqA]; decide
  have fkReply : ((st kHold).toList == [114, 101, 112, 108, 121]) = false := by rw [lit_eqA]; decide
  have ei := empty_eqA i
  have eb := empty_eqA b
  have et := empty_eqA t
  obtain ⟨zi, hzi⟩ : ∃ zi, zi = decide (i = []) := ⟨_, rfl⟩
  obtain ⟨zb, hzb⟩ : ∃ zb, zb = decide (b = []) := ⟨_, rfl⟩
  obtain ⟨zt, hzt⟩ : ∃ zt, zt = decide (t = []) := ⟨_, rfl⟩
  rw [← hzi] at ei
  rw [← hzb] at eb
  rw [← hzt] at et
  have HV : Hid (P = (bi && (bb && (zt && (m == 0))))) := by show _ = _; rw [HV.out]; simp only [hbi, hbb, hzt]
  clear hbi hbb hbk hbt hm1 hm0 hzi hzb hzt hi hb ht
  go_enter Tryz.func29, Tryz.ntmps29
  go_upto_region 7 with (first
    | (go_at_call 30; with_reducible refine (H1 _).out.mono ?_; rintro e w' ⟨rfl, rfl⟩)
    | (go_at_call 30; with_reducible refine (H2 _).out.mono ?_; rintro e w' ⟨rfl, rfl⟩)
    | (go_at_call 30; with_reducible refine (H3 _).out.mono ?_; rintro e w' ⟨rfl, rfl⟩)
    | (go_at_call 30; with_reducible refine (H4 _).out.mono ?_; rintro e w' ⟨rfl, rfl⟩)
    | fail)
  clear H1 H2 H3 H4
  cases bi with
  | false =>
    go_wp2_with (first | (go_at_call 32; with_reducible refine (A1 _).out.mono ?_; rintro e w' ⟨rfl, rfl⟩) | (go_at_call 32; with_reducible refine (A0 _).out.mono ?_; rintro e w' ⟨rfl, rfl⟩) | fail)
    go_ret
    exact ⟨by rw [HV.out]; first | done | rfl | simp, HB0.out _⟩
  | true =>
    cases bb with
    | false =>
      go_wp2_with (first | (go_at_call 32; with_reducible refine (A1 _).out.mono ?_; rintro e w' ⟨rfl, rfl⟩) | (go_at_call 32; with_reducible refine (A0 _).out.mono ?_; rintro e w' ⟨rfl, rfl⟩) | fail)
      go_ret
      exact ⟨by rw [HV.out]; first | done | rfl | simp, HB0.out _⟩
    | true =>
      cases zt with
      | false =>
        go_wp2_with (first | (go_at_call 32; with_reducible refine (A1 _).out.mono ?_; rintro e w' ⟨rfl, rfl⟩) | (go_at_call 32; with_reducible refine (A0 _).out.mono ?_; rintro e w' ⟨rfl, rfl⟩) | fail)
        go_ret
        exact ⟨by rw [HV.out]; first | done | rfl | simp, HB0.out _⟩
      | true =>
        go_wp2_with (first | (go_at_call 32; with_reducible refine (A1 _).out.mono ?_; rintro e w' ⟨rfl, rfl⟩) | (go_at_call 32; with_reducible refine (A0 _).out.mono ?_; rintro e w' ⟨rfl, rfl⟩) | fail)
        go_ret
        exact ⟨by rw [HV.out]; first | done | rfl | simp, HB0.out _⟩

set_option maxHeartbeats 3200000 in
set_option maxRecDepth 100000 in
theorem rplain_kFree (i b t : List UInt8) (m : Int) (a : Option Addr) (cp : Nat) (w : World) (hi : i.length ≤ 4611686018427387904) (hb : b.length ≤ 4611686018427387904) (ht : t.length ≤ 4611686018427387904) (P : Bool) (hP : P = (nameB i 20 && (nameB b 20 && (decide (t = []) && (m == 0))))) :
    Calls Tryz.prog 29 #[.agg #[.string (st kFree), .string (st i), .string (st b), .string (st []), .string (st t), .int .i64 m, .slice a 0 cp]] w fun e w' => e = .returned (.bool P) ∧ Below w.heap.size w w' := by
  have HB0 : Hid (∀ o, Below w.heap.size w (w.alloc o)) := fun o => (Below.refl _ w).alloc (Nat.le_refl _) o
  have q0 : (st []).toList.isEmpty = true := by rw [empty_eqA]; rfl
  have HV := Lib.hid hP
  clear hP
  obtain ⟨bi, hbi⟩ : ∃ bi, bi = nameB i 20 := ⟨_, rfl⟩
  obtain ⟨bb, hbb⟩ : ∃ bb, bb = nameB b 20 := ⟨_, rfl⟩
  obtain ⟨bk, hbk⟩ : ∃ bk, bk = nameB b 60 := ⟨_, rfl⟩
  obtain ⟨bt, hbt⟩ : ∃ bt, bt = nameB t 20 := ⟨_, rfl⟩
  have H1 : ∀ W, Hid (Calls Tryz.prog 30 #[.string (st i), .int .i64 20] W fun e w' => e = .returned (.bool bi) ∧ W = w') := fun W => by rw [hbi]; exact rname_any i 20 W hi
  have H2 : ∀ W, Hid (Calls Tryz.prog 30 #[.string (st b), .int .i64 20] W fun e w' => e = .returned (.bool bb) ∧ W = w') := fun W => by rw [hbb]; exact rname_any b 20 W hb
  have H3 : ∀ W, Hid (Calls Tryz.prog 30 #[.string (st b), .int .i64 60] W fun e w' => e = .returned (.bool bk) ∧ W = w') := fun W => by rw [hbk]; exact rname_any b 60 W hb
  have H4 : ∀ W, Hid (Calls Tryz.prog 30 #[.string (st t), .int .i64 20] W fun e w' => e = .returned (.bool bt) ∧ W = w') := fun W => by rw [hbt]; exact rname_any t 20 W ht
  obtain ⟨m1, hm1⟩ : ∃ m1, m1 = amtB m 1 := ⟨_, rfl⟩
  obtain ⟨m0, hm0⟩ : ∃ m0, m0 = amtB m 0 := ⟨_, rfl⟩
  have A1 : ∀ W, Hid (Calls Tryz.prog 32 #[.int .i64 m, .int .i64 1] W fun e w' => e = .returned (.bool m1) ∧ W = w') := fun W => by rw [hm1]; exact ramount_any m 1 W
  have A0 : ∀ W, Hid (Calls Tryz.prog 32 #[.int .i64 m, .int .i64 0] W fun e w' => e = .returned (.bool m0) ∧ W = w') := fun W => by rw [hm0]; exact ramount_any m 0 W
  have fkRefund : ((st kFree).toList == [114, 101, 102, 117, 110, 100]) = false := by rw [lit_eqA]; decide
  have fkCharge : ((st kFree).toList == [99, 104, 97, 114, 103, 101, 98, 97, 99, 107]) = false := by rw [lit_eqA]; decide
  have fkReverse : ((st kFree).toList == [114, 101, 118, 101, 114, 115, 101]) = false := by rw [lit_eqA]; decide
  have fkHold : ((st kFree).toList == [104, 111, 108, 100]) = false := by rw [lit_eqA]; decide
  have fkFree : ((st kFree).toList == [102, 114, 101, 101]) = true := by rw [lit_eqA]; decide
  have fkTick : ((st kFree).toList == [116, 105, 99, 107]) = false := by rw [lit_eqA]; decide
  have fkReply : ((st kFree).toList == [114, 101, 112, 108, 121]) = false := by rw [lit_eqA]; decide
  have ei := empty_eqA i
  have eb := empty_eqA b
  have et := empty_eqA t
  obtain ⟨zi, hzi⟩ : ∃ zi, zi = decide (i = []) := ⟨_, rfl⟩
  obtain ⟨zb, hzb⟩ : ∃ zb, zb = decide (b = []) := ⟨_, rfl⟩
  obtain ⟨zt, hzt⟩ : ∃ zt, zt = decide (t = []) := ⟨_, rfl⟩
  rw [← hzi] at ei
  rw [← hzb] at eb
  rw [← hzt] at et
  have HV : Hid (P = (bi && (bb && (zt && (m == 0))))) := by show _ = _; rw [HV.out]; simp only [hbi, hbb, hzt]
  clear hbi hbb hbk hbt hm1 hm0 hzi hzb hzt hi hb ht
  go_enter Tryz.func29, Tryz.ntmps29
  go_upto_region 7 with (first
    | (go_at_call 30; with_reducible refine (H1 _).out.mono ?_; rintro e w' ⟨rfl, rfl⟩)
    | (go_at_call 30; with_reducible refine (H2 _).out.mono ?_; rintro e w' ⟨rfl, rfl⟩)
    | (go_at_call 30; with_reducible refine (H3 _).out.mono ?_; rintro e w' ⟨rfl, rfl⟩)
    | (go_at_call 30; with_reducible refine (H4 _).out.mono ?_; rintro e w' ⟨rfl, rfl⟩)
    | fail)
  clear H1 H2 H3 H4
  cases bi with
  | false =>
    go_wp2_with (first | (go_at_call 32; with_reducible refine (A1 _).out.mono ?_; rintro e w' ⟨rfl, rfl⟩) | (go_at_call 32; with_reducible refine (A0 _).out.mono ?_; rintro e w' ⟨rfl, rfl⟩) | fail)
    go_ret
    exact ⟨by rw [HV.out]; first | done | rfl | simp, HB0.out _⟩
  | true =>
    cases bb with
    | false =>
      go_wp2_with (first | (go_at_call 32; with_reducible refine (A1 _).out.mono ?_; rintro e w' ⟨rfl, rfl⟩) | (go_at_call 32; with_reducible refine (A0 _).out.mono ?_; rintro e w' ⟨rfl, rfl⟩) | fail)
      go_ret
      exact ⟨by rw [HV.out]; first | done | rfl | simp, HB0.out _⟩
    | true =>
      cases zt with
      | false =>
        go_wp2_with (first | (go_at_call 32; with_reducible refine (A1 _).out.mono ?_; rintro e w' ⟨rfl, rfl⟩) | (go_at_call 32; with_reducible refine (A0 _).out.mono ?_; rintro e w' ⟨rfl, rfl⟩) | fail)
        go_ret
        exact ⟨by rw [HV.out]; first | done | rfl | simp, HB0.out _⟩
      | true =>
        go_wp2_with (first | (go_at_call 32; with_reducible refine (A1 _).out.mono ?_; rintro e w' ⟨rfl, rfl⟩) | (go_at_call 32; with_reducible refine (A0 _).out.mono ?_; rintro e w' ⟨rfl, rfl⟩) | fail)
        go_ret
        exact ⟨by rw [HV.out]; first | done | rfl | simp, HB0.out _⟩

set_option maxHeartbeats 3200000 in
set_option maxRecDepth 100000 in
theorem rplain_kTick (i b t : List UInt8) (m : Int) (a : Option Addr) (cp : Nat) (w : World) (hi : i.length ≤ 4611686018427387904) (hb : b.length ≤ 4611686018427387904) (ht : t.length ≤ 4611686018427387904) (P : Bool) (hP : P = (decide (i = []) && (decide (b = []) && (decide (t = []) && (m == 0))))) :
    Calls Tryz.prog 29 #[.agg #[.string (st kTick), .string (st i), .string (st b), .string (st []), .string (st t), .int .i64 m, .slice a 0 cp]] w fun e w' => e = .returned (.bool P) ∧ Below w.heap.size w w' := by
  have HB0 : Hid (∀ o, Below w.heap.size w (w.alloc o)) := fun o => (Below.refl _ w).alloc (Nat.le_refl _) o
  have q0 : (st []).toList.isEmpty = true := by rw [empty_eqA]; rfl
  have HV := Lib.hid hP
  clear hP
  obtain ⟨bi, hbi⟩ : ∃ bi, bi = nameB i 20 := ⟨_, rfl⟩
  obtain ⟨bb, hbb⟩ : ∃ bb, bb = nameB b 20 := ⟨_, rfl⟩
  obtain ⟨bk, hbk⟩ : ∃ bk, bk = nameB b 60 := ⟨_, rfl⟩
  obtain ⟨bt, hbt⟩ : ∃ bt, bt = nameB t 20 := ⟨_, rfl⟩
  have H1 : ∀ W, Hid (Calls Tryz.prog 30 #[.string (st i), .int .i64 20] W fun e w' => e = .returned (.bool bi) ∧ W = w') := fun W => by rw [hbi]; exact rname_any i 20 W hi
  have H2 : ∀ W, Hid (Calls Tryz.prog 30 #[.string (st b), .int .i64 20] W fun e w' => e = .returned (.bool bb) ∧ W = w') := fun W => by rw [hbb]; exact rname_any b 20 W hb
  have H3 : ∀ W, Hid (Calls Tryz.prog 30 #[.string (st b), .int .i64 60] W fun e w' => e = .returned (.bool bk) ∧ W = w') := fun W => by rw [hbk]; exact rname_any b 60 W hb
  have H4 : ∀ W, Hid (Calls Tryz.prog 30 #[.string (st t), .int .i64 20] W fun e w' => e = .returned (.bool bt) ∧ W = w') := fun W => by rw [hbt]; exact rname_any t 20 W ht
  obtain ⟨m1, hm1⟩ : ∃ m1, m1 = amtB m 1 := ⟨_, rfl⟩
  obtain ⟨m0, hm0⟩ : ∃ m0, m0 = amtB m 0 := ⟨_, rfl⟩
  have A1 : ∀ W, Hid (Calls Tryz.prog 32 #[.int .i64 m, .int .i64 1] W fun e w' => e = .returned (.bool m1) ∧ W = w') := fun W => by rw [hm1]; exact ramount_any m 1 W
  have A0 : ∀ W, Hid (Calls Tryz.prog 32 #[.int .i64 m, .int .i64 0] W fun e w' => e = .returned (.bool m0) ∧ W = w') := fun W => by rw [hm0]; exact ramount_any m 0 W
  have fkRefund : ((st kTick).toList == [114, 101, 102, 117, 110, 100]) = false := by rw [lit_eqA]; decide
  have fkCharge : ((st kTick).toList == [99, 104, 97, 114, 103, 101, 98, 97, 99, 107]) = false := by rw [lit_eqA]; decide
  have fkReverse : ((st kTick).toList == [114, 101, 118, 101, 114, 115, 101]) = false := by rw [lit_eqA]; decide
  have fkHold : ((st kTick).toList == [104, 111, 108, 100]) = false := by rw [lit_eqA]; decide
  have fkFree : ((st kTick).toList == [102, 114, 101, 101]) = false := by rw [lit_eqA]; decide
  have fkTick : ((st kTick).toList == [116, 105, 99, 107]) = true := by rw [lit_eqA]; decide
  have fkReply : ((st kTick).toList == [114, 101, 112, 108, 121]) = false := by rw [lit_eqA]; decide
  have ei := empty_eqA i
  have eb := empty_eqA b
  have et := empty_eqA t
  obtain ⟨zi, hzi⟩ : ∃ zi, zi = decide (i = []) := ⟨_, rfl⟩
  obtain ⟨zb, hzb⟩ : ∃ zb, zb = decide (b = []) := ⟨_, rfl⟩
  obtain ⟨zt, hzt⟩ : ∃ zt, zt = decide (t = []) := ⟨_, rfl⟩
  rw [← hzi] at ei
  rw [← hzb] at eb
  rw [← hzt] at et
  have HV : Hid (P = (zi && (zb && (zt && (m == 0))))) := by show _ = _; rw [HV.out]; simp only [hzi, hzb, hzt]
  clear hbi hbb hbk hbt hm1 hm0 hzi hzb hzt hi hb ht
  go_enter Tryz.func29, Tryz.ntmps29
  go_upto_region 7 with (first
    | (go_at_call 30; with_reducible refine (H1 _).out.mono ?_; rintro e w' ⟨rfl, rfl⟩)
    | (go_at_call 30; with_reducible refine (H2 _).out.mono ?_; rintro e w' ⟨rfl, rfl⟩)
    | (go_at_call 30; with_reducible refine (H3 _).out.mono ?_; rintro e w' ⟨rfl, rfl⟩)
    | (go_at_call 30; with_reducible refine (H4 _).out.mono ?_; rintro e w' ⟨rfl, rfl⟩)
    | fail)
  clear H1 H2 H3 H4
  cases zi with
  | false =>
    go_wp2_with (first | (go_at_call 32; with_reducible refine (A1 _).out.mono ?_; rintro e w' ⟨rfl, rfl⟩) | (go_at_call 32; with_reducible refine (A0 _).out.mono ?_; rintro e w' ⟨rfl, rfl⟩) | fail)
    go_ret
    exact ⟨by rw [HV.out]; first | done | rfl | simp, HB0.out _⟩
  | true =>
    cases zb with
    | false =>
      go_wp2_with (first | (go_at_call 32; with_reducible refine (A1 _).out.mono ?_; rintro e w' ⟨rfl, rfl⟩) | (go_at_call 32; with_reducible refine (A0 _).out.mono ?_; rintro e w' ⟨rfl, rfl⟩) | fail)
      go_ret
      exact ⟨by rw [HV.out]; first | done | rfl | simp, HB0.out _⟩
    | true =>
      cases zt with
      | false =>
        go_wp2_with (first | (go_at_call 32; with_reducible refine (A1 _).out.mono ?_; rintro e w' ⟨rfl, rfl⟩) | (go_at_call 32; with_reducible refine (A0 _).out.mono ?_; rintro e w' ⟨rfl, rfl⟩) | fail)
        go_ret
        exact ⟨by rw [HV.out]; first | done | rfl | simp, HB0.out _⟩
      | true =>
        go_wp2_with (first | (go_at_call 32; with_reducible refine (A1 _).out.mono ?_; rintro e w' ⟨rfl, rfl⟩) | (go_at_call 32; with_reducible refine (A0 _).out.mono ?_; rintro e w' ⟨rfl, rfl⟩) | fail)
        go_ret
        exact ⟨by rw [HV.out]; first | done | rfl | simp, HB0.out _⟩

set_option maxHeartbeats 3200000 in
set_option maxRecDepth 100000 in
theorem rplain_kReply (i b t : List UInt8) (m : Int) (a : Option Addr) (cp : Nat) (w : World) (hi : i.length ≤ 4611686018427387904) (hb : b.length ≤ 4611686018427387904) (ht : t.length ≤ 4611686018427387904) (P : Bool) (hP : P = (decide (i = []) && (nameB b 60 && (nameB t 20 && amtB m 0)))) :
    Calls Tryz.prog 29 #[.agg #[.string (st kReply), .string (st i), .string (st b), .string (st []), .string (st t), .int .i64 m, .slice a 0 cp]] w fun e w' => e = .returned (.bool P) ∧ Below w.heap.size w w' := by
  have HB0 : Hid (∀ o, Below w.heap.size w (w.alloc o)) := fun o => (Below.refl _ w).alloc (Nat.le_refl _) o
  have q0 : (st []).toList.isEmpty = true := by rw [empty_eqA]; rfl
  have HV := Lib.hid hP
  clear hP
  obtain ⟨bi, hbi⟩ : ∃ bi, bi = nameB i 20 := ⟨_, rfl⟩
  obtain ⟨bb, hbb⟩ : ∃ bb, bb = nameB b 20 := ⟨_, rfl⟩
  obtain ⟨bk, hbk⟩ : ∃ bk, bk = nameB b 60 := ⟨_, rfl⟩
  obtain ⟨bt, hbt⟩ : ∃ bt, bt = nameB t 20 := ⟨_, rfl⟩
  have H1 : ∀ W, Hid (Calls Tryz.prog 30 #[.string (st i), .int .i64 20] W fun e w' => e = .returned (.bool bi) ∧ W = w') := fun W => by rw [hbi]; exact rname_any i 20 W hi
  have H2 : ∀ W, Hid (Calls Tryz.prog 30 #[.string (st b), .int .i64 20] W fun e w' => e = .returned (.bool bb) ∧ W = w') := fun W => by rw [hbb]; exact rname_any b 20 W hb
  have H3 : ∀ W, Hid (Calls Tryz.prog 30 #[.string (st b), .int .i64 60] W fun e w' => e = .returned (.bool bk) ∧ W = w') := fun W => by rw [hbk]; exact rname_any b 60 W hb
  have H4 : ∀ W, Hid (Calls Tryz.prog 30 #[.string (st t), .int .i64 20] W fun e w' => e = .returned (.bool bt) ∧ W = w') := fun W => by rw [hbt]; exact rname_any t 20 W ht
  obtain ⟨m1, hm1⟩ : ∃ m1, m1 = amtB m 1 := ⟨_, rfl⟩
  obtain ⟨m0, hm0⟩ : ∃ m0, m0 = amtB m 0 := ⟨_, rfl⟩
  have A1 : ∀ W, Hid (Calls Tryz.prog 32 #[.int .i64 m, .int .i64 1] W fun e w' => e = .returned (.bool m1) ∧ W = w') := fun W => by rw [hm1]; exact ramount_any m 1 W
  have A0 : ∀ W, Hid (Calls Tryz.prog 32 #[.int .i64 m, .int .i64 0] W fun e w' => e = .returned (.bool m0) ∧ W = w') := fun W => by rw [hm0]; exact ramount_any m 0 W
  have fkRefund : ((st kReply).toList == [114, 101, 102, 117, 110, 100]) = false := by rw [lit_eqA]; decide
  have fkCharge : ((st kReply).toList == [99, 104, 97, 114, 103, 101, 98, 97, 99, 107]) = false := by rw [lit_eqA]; decide
  have fkReverse : ((st kReply).toList == [114, 101, 118, 101, 114, 115, 101]) = false := by rw [lit_eqA]; decide
  have fkHold : ((st kReply).toList == [104, 111, 108, 100]) = false := by rw [lit_eqA]; decide
  have fkFree : ((st kReply).toList == [102, 114, 101, 101]) = false := by rw [lit_eqA]; decide
  have fkTick : ((st kReply).toList == [116, 105, 99, 107]) = false := by rw [lit_eqA]; decide
  have fkReply : ((st kReply).toList == [114, 101, 112, 108, 121]) = true := by rw [lit_eqA]; decide
  have ei := empty_eqA i
  have eb := empty_eqA b
  have et := empty_eqA t
  obtain ⟨zi, hzi⟩ : ∃ zi, zi = decide (i = []) := ⟨_, rfl⟩
  obtain ⟨zb, hzb⟩ : ∃ zb, zb = decide (b = []) := ⟨_, rfl⟩
  obtain ⟨zt, hzt⟩ : ∃ zt, zt = decide (t = []) := ⟨_, rfl⟩
  rw [← hzi] at ei
  rw [← hzb] at eb
  rw [← hzt] at et
  have HV : Hid (P = (zi && (bk && (bt && m0)))) := by show _ = _; rw [HV.out]; simp only [hzi, hbk, hbt, hm0]
  clear hbi hbb hbk hbt hm1 hm0 hzi hzb hzt hi hb ht
  go_enter Tryz.func29, Tryz.ntmps29
  go_upto_region 7 with (first
    | (go_at_call 30; with_reducible refine (H1 _).out.mono ?_; rintro e w' ⟨rfl, rfl⟩)
    | (go_at_call 30; with_reducible refine (H2 _).out.mono ?_; rintro e w' ⟨rfl, rfl⟩)
    | (go_at_call 30; with_reducible refine (H3 _).out.mono ?_; rintro e w' ⟨rfl, rfl⟩)
    | (go_at_call 30; with_reducible refine (H4 _).out.mono ?_; rintro e w' ⟨rfl, rfl⟩)
    | fail)
  clear H1 H2 H3 H4
  cases zi with
  | false =>
    go_wp2_with (first | (go_at_call 32; with_reducible refine (A1 _).out.mono ?_; rintro e w' ⟨rfl, rfl⟩) | (go_at_call 32; with_reducible refine (A0 _).out.mono ?_; rintro e w' ⟨rfl, rfl⟩) | fail)
    go_ret
    exact ⟨by rw [HV.out]; first | done | rfl | simp, HB0.out _⟩
  | true =>
    cases bk with
    | false =>
      go_wp2_with (first | (go_at_call 32; with_reducible refine (A1 _).out.mono ?_; rintro e w' ⟨rfl, rfl⟩) | (go_at_call 32; with_reducible refine (A0 _).out.mono ?_; rintro e w' ⟨rfl, rfl⟩) | fail)
      go_ret
      exact ⟨by rw [HV.out]; first | done | rfl | simp, HB0.out _⟩
    | true =>
      cases bt with
      | false =>
        go_wp2_with (first | (go_at_call 32; with_reducible refine (A1 _).out.mono ?_; rintro e w' ⟨rfl, rfl⟩) | (go_at_call 32; with_reducible refine (A0 _).out.mono ?_; rintro e w' ⟨rfl, rfl⟩) | fail)
        go_ret
        exact ⟨by rw [HV.out]; first | done | rfl | simp, HB0.out _⟩
      | true =>
        go_wp2_with (first | (go_at_call 32; with_reducible refine (A1 _).out.mono ?_; rintro e w' ⟨rfl, rfl⟩) | (go_at_call 32; with_reducible refine (A0 _).out.mono ?_; rintro e w' ⟨rfl, rfl⟩) | fail)
        go_ret
        exact ⟨by rw [HV.out]; first | done | rfl | simp, HB0.out _⟩

set_option maxHeartbeats 3200000 in
set_option maxRecDepth 100000 in
theorem rplain_none (k i b t : List UInt8) (m : Int) (a : Option Addr) (cp : Nat) (w : World) (hi : i.length ≤ 4611686018427387904) (hb : b.length ≤ 4611686018427387904) (ht : t.length ≤ 4611686018427387904) (nkRefund : ¬ k = [114, 101, 102, 117, 110, 100]) (nkCharge : ¬ k = [99, 104, 97, 114, 103, 101, 98, 97, 99, 107]) (nkReverse : ¬ k = [114, 101, 118, 101, 114, 115, 101]) (nkHold : ¬ k = [104, 111, 108, 100]) (nkFree : ¬ k = [102, 114, 101, 101]) (nkTick : ¬ k = [116, 105, 99, 107]) (nkReply : ¬ k = [114, 101, 112, 108, 121]) (P : Bool) (hP : P = false) :
    Calls Tryz.prog 29 #[.agg #[.string (st k), .string (st i), .string (st b), .string (st []), .string (st t), .int .i64 m, .slice a 0 cp]] w fun e w' => e = .returned (.bool P) ∧ Below w.heap.size w w' := by
  have HB0 : Hid (∀ o, Below w.heap.size w (w.alloc o)) := fun o => (Below.refl _ w).alloc (Nat.le_refl _) o
  have q0 : (st []).toList.isEmpty = true := by rw [empty_eqA]; rfl
  have HV := Lib.hid hP
  clear hP
  obtain ⟨bi, hbi⟩ : ∃ bi, bi = nameB i 20 := ⟨_, rfl⟩
  obtain ⟨bb, hbb⟩ : ∃ bb, bb = nameB b 20 := ⟨_, rfl⟩
  obtain ⟨bk, hbk⟩ : ∃ bk, bk = nameB b 60 := ⟨_, rfl⟩
  obtain ⟨bt, hbt⟩ : ∃ bt, bt = nameB t 20 := ⟨_, rfl⟩
  have H1 : ∀ W, Hid (Calls Tryz.prog 30 #[.string (st i), .int .i64 20] W fun e w' => e = .returned (.bool bi) ∧ W = w') := fun W => by rw [hbi]; exact rname_any i 20 W hi
  have H2 : ∀ W, Hid (Calls Tryz.prog 30 #[.string (st b), .int .i64 20] W fun e w' => e = .returned (.bool bb) ∧ W = w') := fun W => by rw [hbb]; exact rname_any b 20 W hb
  have H3 : ∀ W, Hid (Calls Tryz.prog 30 #[.string (st b), .int .i64 60] W fun e w' => e = .returned (.bool bk) ∧ W = w') := fun W => by rw [hbk]; exact rname_any b 60 W hb
  have H4 : ∀ W, Hid (Calls Tryz.prog 30 #[.string (st t), .int .i64 20] W fun e w' => e = .returned (.bool bt) ∧ W = w') := fun W => by rw [hbt]; exact rname_any t 20 W ht
  obtain ⟨m1, hm1⟩ : ∃ m1, m1 = amtB m 1 := ⟨_, rfl⟩
  obtain ⟨m0, hm0⟩ : ∃ m0, m0 = amtB m 0 := ⟨_, rfl⟩
  have A1 : ∀ W, Hid (Calls Tryz.prog 32 #[.int .i64 m, .int .i64 1] W fun e w' => e = .returned (.bool m1) ∧ W = w') := fun W => by rw [hm1]; exact ramount_any m 1 W
  have A0 : ∀ W, Hid (Calls Tryz.prog 32 #[.int .i64 m, .int .i64 0] W fun e w' => e = .returned (.bool m0) ∧ W = w') := fun W => by rw [hm0]; exact ramount_any m 0 W
  have fkRefund : ((st k).toList == [114, 101, 102, 117, 110, 100]) = false := by rw [lit_eqA]; exact decide_eq_false nkRefund
  have fkCharge : ((st k).toList == [99, 104, 97, 114, 103, 101, 98, 97, 99, 107]) = false := by rw [lit_eqA]; exact decide_eq_false nkCharge
  have fkReverse : ((st k).toList == [114, 101, 118, 101, 114, 115, 101]) = false := by rw [lit_eqA]; exact decide_eq_false nkReverse
  have fkHold : ((st k).toList == [104, 111, 108, 100]) = false := by rw [lit_eqA]; exact decide_eq_false nkHold
  have fkFree : ((st k).toList == [102, 114, 101, 101]) = false := by rw [lit_eqA]; exact decide_eq_false nkFree
  have fkTick : ((st k).toList == [116, 105, 99, 107]) = false := by rw [lit_eqA]; exact decide_eq_false nkTick
  have fkReply : ((st k).toList == [114, 101, 112, 108, 121]) = false := by rw [lit_eqA]; exact decide_eq_false nkReply
  have ei := empty_eqA i
  have eb := empty_eqA b
  have et := empty_eqA t
  obtain ⟨zi, hzi⟩ : ∃ zi, zi = decide (i = []) := ⟨_, rfl⟩
  obtain ⟨zb, hzb⟩ : ∃ zb, zb = decide (b = []) := ⟨_, rfl⟩
  obtain ⟨zt, hzt⟩ : ∃ zt, zt = decide (t = []) := ⟨_, rfl⟩
  rw [← hzi] at ei
  rw [← hzb] at eb
  rw [← hzt] at et
  have HV : Hid (P = false) := by exact HV.out
  clear hbi hbb hbk hbt hm1 hm0 hzi hzb hzt hi hb ht
  go_enter Tryz.func29, Tryz.ntmps29
  go_upto_region 7 with (first
    | (go_at_call 30; with_reducible refine (H1 _).out.mono ?_; rintro e w' ⟨rfl, rfl⟩)
    | (go_at_call 30; with_reducible refine (H2 _).out.mono ?_; rintro e w' ⟨rfl, rfl⟩)
    | (go_at_call 30; with_reducible refine (H3 _).out.mono ?_; rintro e w' ⟨rfl, rfl⟩)
    | (go_at_call 30; with_reducible refine (H4 _).out.mono ?_; rintro e w' ⟨rfl, rfl⟩)
    | fail)
  clear H1 H2 H3 H4
  go_wp2_with (first | (go_at_call 32; with_reducible refine (A1 _).out.mono ?_; rintro e w' ⟨rfl, rfl⟩) | (go_at_call 32; with_reducible refine (A0 _).out.mono ?_; rintro e w' ⟨rfl, rfl⟩) | fail)
  go_ret
  exact ⟨by rw [HV.out]; first | done | rfl | simp, HB0.out _⟩

theorem plainD_nil (k i b t : List UInt8) (m : Int) : plainD ⟨k, i, b, [], t, m, []⟩ = if k = kRefund ∨ k = kCharge then nameB i 20 && (nameB b 20 && (decide (t = []) && amtB m 1))
  else if k = kReverse ∨ k = kHold ∨ k = kFree then nameB i 20 && (nameB b 20 && (decide (t = []) && decide (m = 0)))
  else if k = kTick then decide (i = []) && (decide (b = []) && (decide (t = []) && decide (m = 0)))
  else if k = kReply then decide (i = []) && (nameB b 60 && (nameB t 20 && amtB m 0))
  else false := by
  unfold plainD
  rw [if_neg (by simp)]
theorem eq0_beq (m : Int) : decide (m = 0) = (m == 0) := by
  by_cases h : m = 0
  · rw [decide_eq_true h, h]; rfl
  · rw [decide_eq_false h]; symm; rw [beq_eq_false_iff_ne]; exact h

/-- the document's plain -/
theorem rplain_any (c : Cm) (a : Option Addr) (cp : Nat) (w : World) (hi : c.id.length ≤ 4611686018427387904) (hb : c.about.length ≤ 4611686018427387904) (ht : c.cat.length ≤ 4611686018427387904) :
    Calls Tryz.prog 29 #[.agg #[.string (st c.kind), .string (st c.id), .string (st c.about), .string (st c.cur), .string (st c.cat), .int .i64 c.amt, .slice a c.sh.length cp]] w fun e w' => e = .returned (.bool (plainD c)) ∧ Below w.heap.size w w' := by
  by_cases h : c.cur ≠ [] ∨ 0 < c.sh.length
  · rw [plain_bad c h]
    exact rplain_bad _ _ _ _ _ _ _ _ _ _ h
  obtain ⟨k, i, b, u, t, m, xs⟩ := c
  simp only at h hi hb ht ⊢
  have hu : u = [] := by
    by_cases e : u = []
    · exact e
    · exact absurd (.inl e) h
  have hx : xs.length = 0 := by
    by_cases e : xs.length = 0
    · exact e
    · exact absurd (.inr (by omega)) h
  have hxs : xs = [] := List.eq_nil_of_length_eq_zero hx
  subst hu hxs
  rcases formC_nine k with ⟨hk, _⟩ | ⟨hk, _⟩ | ⟨hk, _⟩ | ⟨hk, _⟩ | ⟨hk, _⟩ | ⟨hk, _⟩ | ⟨hk, _⟩ | ⟨hk, _⟩ | ⟨_, n1, n2, n3, n4, n5, n6, n7, n8⟩
  · subst hk
    exact rplain_none kSale i b t m a cp w hi hb ht (by decide) (by decide) (by decide) (by decide) (by decide) (by decide) (by decide) _ (by rw [plainD_nil, if_neg (by decide), if_neg (by decide), if_neg (by decide), if_neg (by decide)])
  · subst hk
    exact rplain_kRefund i b t m a cp w hi hb ht _ (by rw [plainD_nil, if_pos (.inl rfl)])
  · subst hk
    exact rplain_kCharge i b t m a cp w hi hb ht _ (by rw [plainD_nil, if_pos (.inr rfl)])
  · subst hk
    exact rplain_kReverse i b t m a cp w hi hb ht _ (by rw [plainD_nil, if_neg (by decide), if_pos (by decide), eq0_beq])
  · subst hk
    exact rplain_kHold i b t m a cp w hi hb ht _ (by rw [plainD_nil, if_neg (by decide), if_pos (by decide), eq0_beq])
  · subst hk
    exact rplain_kFree i b t m a cp w hi hb ht _ (by rw [plainD_nil, if_neg (by decide), if_pos (by decide), eq0_beq])
  · subst hk
    exact rplain_kTick i b t m a cp w hi hb ht _ (by rw [plainD_nil, if_neg (by decide), if_neg (by decide), if_pos rfl, eq0_beq])
  · subst hk
    exact rplain_kReply i b t m a cp w hi hb ht _ (by rw [plainD_nil, if_neg (by decide), if_neg (by decide), if_neg (by decide), if_pos rfl])
  · exact rplain_none k i b t m a cp w hi hb ht n2 n3 n4 n5 n6 n7 n8 _ (by rw [plainD_nil, if_neg (by simp [n2, n3]), if_neg (by simp [n4, n5, n6]), if_neg n7, if_neg n8])
end Go.Proofs.YtkflakeocdlinaaGreatDoor
