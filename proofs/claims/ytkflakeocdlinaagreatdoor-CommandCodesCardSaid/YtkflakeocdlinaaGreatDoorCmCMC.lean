/-
  Contracts of command.isRight, without, isBare, of slices.Index and Contains of fields.
-/
import Derived.Test.YtkflakeocdlinaaGreatDoorMC04
import Derived.Test.YtkflakeocdlinaaGreatDoorCmMMC
import Derived.Laws.ResultCell
import Derived.BigQuiet
namespace Go.Proofs.YtkflakeocdlinaaGreatDoor
open Go.RowKit Go.Deep Go.Lib

theorem infoCmd : (Tryz.prog.info? 24).map (·.size) = some 7 := by kernel_rfl
theorem results_cell1 {fn : Func} {p : Tmp} {ty : TypeId} (h : fn.results = #[.cell p ty]) (tmps : Array Value) (P : Program) (w : World) :
    (results fn tmps).run P w = ((asAddr (tmps.getD p undef)).run P w).andThen fun a w₁ => (loadVar ty a).run P w₁ := by
  simp only [results, h]
  simp [Sem.run_bind, Result.andThen]
/-- a command as the result, that lies in a cell -/
theorem cmd_ret1 {fn : Func} {s1 : Nat} (h : fn.results = #[.cell s1 24]) {tmps : Array Value} {W : World} (g : Nat) (hp : tmps.getD s1 undef = .pointer (some ⟨g, 0, none⟩)) {a0 a1 a2 a3 a4 a5 a6 : Value} (hg : Blk W g 24 #[a0, a1, a2, a3, a4, a5, a6]) :
    (results fn tmps).run Tryz.prog W = .ok (.agg #[a0, a1, a2, a3, a4, a5, a6]) W := by
  have hp' : tmps[s1]?.getD undef = .pointer (some ⟨g, 0, none⟩) := by simpa using hp
  rw [results_cell1 h]
  simp [hp', asAddr, Result.andThen, run_loadVar_row W g 24 24 _ _ _ hg Tryz.underlying24 rfl infoCmd]
/-- a command, and something behind it -/
theorem cmd_ret2 {fn : Func} {s1 s2 : Nat} (h : fn.results = #[.cell s1 24, .tmp s2]) {tmps : Array Value} {W : World} (g : Nat) (hp : tmps.getD s1 undef = .pointer (some ⟨g, 0, none⟩)) {a0 a1 a2 a3 a4 a5 a6 v : Value} (hg : Blk W g 24 #[a0, a1, a2, a3, a4, a5, a6]) (hv : tmps.getD s2 undef = v) :
    (results fn tmps).run Tryz.prog W = .ok (.tuple #[.agg #[a0, a1, a2, a3, a4, a5, a6], v]) W := by
  have hp' : tmps[s1]?.getD undef = .pointer (some ⟨g, 0, none⟩) := by simpa using hp
  have hv' : tmps[s2]?.getD undef = v := by simpa using hv
  rw [results_cell_tmp h]
  simp [hp', hv', asAddr, Result.andThen, run_loadVar_row W g 24 24 _ _ _ hg Tryz.underlying24 rfl infoCmd]
theorem blk_twoC (w : World) (o : Obj) (t : TypeId) (cs : Array Value) : Blk ((w.alloc o).alloc (.cells cs t)) (w.heap.size + 1) t cs := by
  have h := Blk.new (w.alloc o) t cs
  have e : (w.alloc o).heap.size = w.heap.size + 1 := by show (w.heap.push o).size = _; simp
  rw [e] at h
  exact h
/-- the result that lies in a cell of seven -/
theorem cell_seven {w : World} {g : Nat} {v0 v1 v2 v3 v4 v5 v6 : Value} (h : Blk w g 24 #[v0, v1, v2, v3, v4, v5, v6]) : w.cell? ⟨g, 0, none⟩ = some v0 ∧ w.cell? ⟨g, 1, none⟩ = some v1 ∧ w.cell? ⟨g, 2, none⟩ = some v2 ∧ w.cell? ⟨g, 3, none⟩ = some v3 ∧ w.cell? ⟨g, 4, none⟩ = some v4 ∧ w.cell? ⟨g, 5, none⟩ = some v5 ∧ w.cell? ⟨g, 6, none⟩ = some v6 :=
  ⟨h.cell 0, h.cell 1, h.cell 2, h.cell 3, h.cell 4, h.cell 5, h.cell 6⟩

set_option maxHeartbeats 800000 in
theorem isr_0 (k i b u t : List UInt8) (m : Int) (a : Option Addr) (cp : Nat) (xs : List Sh) (w : World) :
    Calls Tryz.prog 19 #[.agg #[.string (st k), .string (st i), .string (st b), .string (st u), .string (st t), .int .i64 m, .slice a xs.length cp], .int .i64 0] w fun e w' => e = .returned (.bool (nameB i 20)) ∧ Below w.heap.size w w' := by
  have HB : Hid (Below w.heap.size w (w.alloc (.cells #[.string (st k), .string (st i), .string (st b), .string (st u), .string (st t), .int .i64 m, .slice a xs.length cp] 24))) := (Below.refl _ w).alloc (Nat.le_refl _) _
  have HC : ∀ W, Hid (Calls Tryz.prog 45 #[.string (st i), .int .i64 20] W fun e w' => e = .returned (.bool (nameB i 20)) ∧ Below W.heap.size W w') := fun W => name_any i 20 W (by decide)
  go_enter Tryz.func19, Tryz.ntmps19
  go_wp2_with (first | (go_at_call 45; with_reducible refine (HC _).out.mono ?_; rintro e w' ⟨rfl, hb⟩; have HB2 := Lib.hid (bel_onG HB.out HB.out.size hb); clear hb) | fail)
  go_ret
  exact ⟨rfl, HB2.out⟩

set_option maxHeartbeats 800000 in
theorem isr_1 (k i b u t : List UInt8) (m : Int) (a : Option Addr) (cp : Nat) (xs : List Sh) (w : World) :
    Calls Tryz.prog 19 #[.agg #[.string (st k), .string (st i), .string (st b), .string (st u), .string (st t), .int .i64 m, .slice a xs.length cp], .int .i64 1] w fun e w' => e = .returned (.bool (nameB b 20)) ∧ Below w.heap.size w w' := by
  have HB : Hid (Below w.heap.size w (w.alloc (.cells #[.string (st k), .string (st i), .string (st b), .string (st u), .string (st t), .int .i64 m, .slice a xs.length cp] 24))) := (Below.refl _ w).alloc (Nat.le_refl _) _
  have HC : ∀ W, Hid (Calls Tryz.prog 45 #[.string (st b), .int .i64 20] W fun e w' => e = .returned (.bool (nameB b 20)) ∧ Below W.heap.size W w') := fun W => name_any b 20 W (by decide)
  go_enter Tryz.func19, Tryz.ntmps19
  go_wp2_with (first | (go_at_call 45; with_reducible refine (HC _).out.mono ?_; rintro e w' ⟨rfl, hb⟩; have HB2 := Lib.hid (bel_onG HB.out HB.out.size hb); clear hb) | fail)
  go_ret
  exact ⟨rfl, HB2.out⟩

set_option maxHeartbeats 800000 in
theorem isr_2 (k i b u t : List UInt8) (m : Int) (a : Option Addr) (cp : Nat) (xs : List Sh) (w : World) :
    Calls Tryz.prog 19 #[.agg #[.string (st k), .string (st i), .string (st b), .string (st u), .string (st t), .int .i64 m, .slice a xs.length cp], .int .i64 2] w fun e w' => e = .returned (.bool (nameB b 60)) ∧ Below w.heap.size w w' := by
  have HB : Hid (Below w.heap.size w (w.alloc (.cells #[.string (st k), .string (st i), .string (st b), .string (st u), .string (st t), .int .i64 m, .slice a xs.length cp] 24))) := (Below.refl _ w).alloc (Nat.le_refl _) _
  have HC : ∀ W, Hid (Calls Tryz.prog 45 #[.string (st b), .int .i64 60] W fun e w' => e = .returned (.bool (nameB b 60)) ∧ Below W.heap.size W w') := fun W => name_any b 60 W (by decide)
  go_enter Tryz.func19, Tryz.ntmps19
  go_wp2_with (first | (go_at_call 45; with_reducible refine (HC _).out.mono ?_; rintro e w' ⟨rfl, hb⟩; have HB2 := Lib.hid (bel_onG HB.out HB.out.size hb); clear hb) | fail)
  go_ret
  exact ⟨rfl, HB2.out⟩

set_option maxHeartbeats 800000 in
theorem isr_5 (k i b u t : List UInt8) (m : Int) (a : Option Addr) (cp : Nat) (xs : List Sh) (w : World) :
    Calls Tryz.prog 19 #[.agg #[.string (st k), .string (st i), .string (st b), .string (st u), .string (st t), .int .i64 m, .slice a xs.length cp], .int .i64 5] w fun e w' => e = .returned (.bool (nameB t 20)) ∧ Below w.heap.size w w' := by
  have HB : Hid (Below w.heap.size w (w.alloc (.cells #[.string (st k), .string (st i), .string (st b), .string (st u), .string (st t), .int .i64 m, .slice a xs.length cp] 24))) := (Below.refl _ w).alloc (Nat.le_refl _) _
  have HC : ∀ W, Hid (Calls Tryz.prog 45 #[.string (st t), .int .i64 20] W fun e w' => e = .returned (.bool (nameB t 20)) ∧ Below W.heap.size W w') := fun W => name_any t 20 W (by decide)
  go_enter Tryz.func19, Tryz.ntmps19
  go_wp2_with (first | (go_at_call 45; with_reducible refine (HC _).out.mono ?_; rintro e w' ⟨rfl, hb⟩; have HB2 := Lib.hid (bel_onG HB.out HB.out.size hb); clear hb) | fail)
  go_ret
  exact ⟨rfl, HB2.out⟩

set_option maxHeartbeats 800000 in
theorem isr_3 (k i b u t : List UInt8) (m : Int) (a : Option Addr) (cp : Nat) (xs : List Sh) (w : World) :
    Calls Tryz.prog 19 #[.agg #[.string (st k), .string (st i), .string (st b), .string (st u), .string (st t), .int .i64 m, .slice a xs.length cp], .int .i64 3] w fun e w' => e = .returned (.bool (curB u)) ∧ Below w.heap.size w w' := by
  have HB : Hid (Below w.heap.size w (w.alloc (.cells #[.string (st k), .string (st i), .string (st b), .string (st u), .string (st t), .int .i64 m, .slice a xs.length cp] 24))) := (Below.refl _ w).alloc (Nat.le_refl _) _
  have HC : ∀ W, Hid (Calls Tryz.prog 46 #[.string (st u)] W fun e w' => e = .returned (.bool (curB u)) ∧ Below W.heap.size W w') := fun W => currency_any u W
  go_enter Tryz.func19, Tryz.ntmps19
  go_wp2_with (first | (go_at_call 46; with_reducible refine (HC _).out.mono ?_; rintro e w' ⟨rfl, hb⟩; have HB2 := Lib.hid (bel_onG HB.out HB.out.size hb); clear hb) | fail)
  go_ret
  exact ⟨rfl, HB2.out⟩

set_option maxHeartbeats 800000 in
theorem isr_4 (k i b u t : List UInt8) (m : Int) (a : Option Addr) (cp : Nat) (xs : List Sh) (w : World) :
    Calls Tryz.prog 19 #[.agg #[.string (st k), .string (st i), .string (st b), .string (st u), .string (st t), .int .i64 m, .slice a xs.length cp], .int .i64 4] w fun e w' => e = .returned (.bool (decide (t = []) || nameB t 20)) ∧ Below w.heap.size w w' := by
  have HB : Hid (Below w.heap.size w (w.alloc (.cells #[.string (st k), .string (st i), .string (st b), .string (st u), .string (st t), .int .i64 m, .slice a xs.length cp] 24))) := (Below.refl _ w).alloc (Nat.le_refl _) _
  have HC : ∀ W, Hid (Calls Tryz.prog 45 #[.string (st t), .int .i64 20] W fun e w' => e = .returned (.bool (nameB t 20)) ∧ Below W.heap.size W w') := fun W => name_any t 20 W (by decide)
  have q1 := empty_eqA t
  by_cases h1 : t = []
  · rw [decide_eq_true h1] at q1 ⊢
    clear h1
    go_enter Tryz.func19, Tryz.ntmps19
    go_wp2
    go_ret
    exact ⟨by rfl, HB.out⟩
  · rw [decide_eq_false h1] at q1 ⊢
    clear h1
    rw [Bool.false_or]
    go_enter Tryz.func19, Tryz.ntmps19
    go_wp2_with (first | (go_at_call 45; with_reducible refine (HC _).out.mono ?_; rintro e w' ⟨rfl, hb⟩; have HB2 := Lib.hid (bel_onG HB.out HB.out.size hb); clear hb) | fail)
    go_ret
    exact ⟨rfl, HB2.out⟩

set_option maxHeartbeats 800000 in
theorem isr_6 (k i b u t : List UInt8) (m : Int) (a : Option Addr) (cp : Nat) (xs : List Sh) (w : World) :
    Calls Tryz.prog 19 #[.agg #[.string (st k), .string (st i), .string (st b), .string (st u), .string (st t), .int .i64 m, .slice a xs.length cp], .int .i64 6] w fun e w' => e = .returned (.bool (amtB m 1)) ∧ Below w.heap.size w w' := by
  have HB : Hid (Below w.heap.size w (w.alloc (.cells #[.string (st k), .string (st i), .string (st b), .string (st u), .string (st t), .int .i64 m, .slice a xs.length cp] 24))) := (Below.refl _ w).alloc (Nat.le_refl _) _
  by_cases h1 : 1 ≤ m
  · by_cases h2 : m ≤ 1125899906842624
    · have e : amtB m 1 = true := decide_eq_true ⟨h1, h2⟩
      rw [e]; clear e
      go_enter Tryz.func19, Tryz.ntmps19
      go_wp2
      go_ret
      exact ⟨by rfl, HB.out⟩
    · have e : amtB m 1 = false := decide_eq_false (by omega)
      rw [e]; clear e
      have h3 : decide (m ≤ 1125899906842624) = false := decide_eq_false h2
      go_enter Tryz.func19, Tryz.ntmps19
      go_wp2
      go_ret
      exact ⟨by first | rfl | simp; omega, HB.out⟩
  · have e : amtB m 1 = false := decide_eq_false (by omega)
    rw [e]; clear e
    go_enter Tryz.func19, Tryz.ntmps19
    go_wp2
    go_ret
    exact ⟨by first | rfl | simp; omega, HB.out⟩

set_option maxHeartbeats 800000 in
theorem isr_7 (k i b u t : List UInt8) (m : Int) (a : Option Addr) (cp : Nat) (xs : List Sh) (w : World) :
    Calls Tryz.prog 19 #[.agg #[.string (st k), .string (st i), .string (st b), .string (st u), .string (st t), .int .i64 m, .slice a xs.length cp], .int .i64 7] w fun e w' => e = .returned (.bool (amtB m 0)) ∧ Below w.heap.size w w' := by
  have HB : Hid (Below w.heap.size w (w.alloc (.cells #[.string (st k), .string (st i), .string (st b), .string (st u), .string (st t), .int .i64 m, .slice a xs.length cp] 24))) := (Below.refl _ w).alloc (Nat.le_refl _) _
  by_cases h1 : 0 ≤ m
  · by_cases h2 : m ≤ 1125899906842624
    · have e : amtB m 0 = true := decide_eq_true ⟨h1, h2⟩
      rw [e]; clear e
      go_enter Tryz.func19, Tryz.ntmps19
      go_wp2
      go_ret
      exact ⟨by rfl, HB.out⟩
    · have e : amtB m 0 = false := decide_eq_false (by omega)
      rw [e]; clear e
      have h3 : decide (m ≤ 1125899906842624) = false := decide_eq_false h2
      go_enter Tryz.func19, Tryz.ntmps19
      go_wp2
      go_ret
      exact ⟨by first | rfl | simp; omega, HB.out⟩
  · have e : amtB m 0 = false := decide_eq_false (by omega)
    rw [e]; clear e
    go_enter Tryz.func19, Tryz.ntmps19
    go_wp2
    go_ret
    exact ⟨by first | rfl | simp; omega, HB.out⟩

set_option maxHeartbeats 800000 in
theorem isr_8 (k i b u t : List UInt8) (m : Int) (a : Option Addr) (cp : Nat) (xs : List Sh) (w : World) (hr : RowG 2 cSh w a xs) (hl : xs.length ≤ 4611686018427387904) :
    Calls Tryz.prog 19 #[.agg #[.string (st k), .string (st i), .string (st b), .string (st u), .string (st t), .int .i64 m, .slice a xs.length cp], .int .i64 8] w fun e w' => e = .returned (.bool (namesB xs)) ∧ Below w.heap.size w w' := by
  have HR := Lib.hid hr
  clear hr
  have HB : Hid (Below w.heap.size w (w.alloc (.cells #[.string (st k), .string (st i), .string (st b), .string (st u), .string (st t), .int .i64 m, .slice a xs.length cp] 24))) := (Below.refl _ w).alloc (Nat.le_refl _) _
  have HC : Hid (Calls Tryz.prog 47 #[.slice a xs.length cp, .func (.func 48) #[] #[]] (w.alloc (.cells #[.string (st k), .string (st i), .string (st b), .string (st u), .string (st t), .int .i64 m, .slice a xs.length cp] 24)) fun e w' => e = .returned (.bool (!namesB xs)) ∧ Below (w.alloc (.cells #[.string (st k), .string (st i), .string (st b), .string (st u), .string (st t), .int .i64 m, .slice a xs.length cp] 24)).heap.size (w.alloc (.cells #[.string (st k), .string (st i), .string (st b), .string (st u), .string (st t), .int .i64 m, .slice a xs.length cp] 24)) w') := cfSh_any a cp xs (w.alloc (.cells #[.string (st k), .string (st i), .string (st b), .string (st u), .string (st t), .int .i64 m, .slice a xs.length cp] 24)) (HR.out.keep HB.out) hl
  obtain ⟨n, hn⟩ : ∃ n, n = xs.length := ⟨_, rfl⟩
  rw [← hn] at HC HB ⊢
  clear hn hl
  go_enter Tryz.func19, Tryz.ntmps19
  go_wp2_with (first | (go_at_call 47; refine HC.out.mono ?_; rintro e w' ⟨rfl, hb⟩; have HB2 := Lib.hid (bel_onG HB.out HB.out.size hb); clear hb) | fail)
  go_ret
  exact ⟨by simp, HB2.out⟩

theorem isRight_any (c : Cm) (x : Nat) (a : Option Addr) (cp : Nat) (w : World) (hx : x ≤ 8) (hr : RowG 2 cSh w a c.sh) (hl : c.sh.length ≤ 4611686018427387904) :
    Calls Tryz.prog 19 #[.agg #[.string (st c.kind), .string (st c.id), .string (st c.about), .string (st c.cur), .string (st c.cat), .int .i64 c.amt, .slice a c.sh.length cp], .int .i64 (x : Int)] w fun e w' => e = .returned (.bool (isR c x)) ∧ Below w.heap.size w w' := by
  match x, hx with
  | 0, _ => exact isr_0 _ _ _ _ _ _ _ _ _ _
  | 1, _ => exact isr_1 _ _ _ _ _ _ _ _ _ _
  | 2, _ => exact isr_2 _ _ _ _ _ _ _ _ _ _
  | 3, _ => exact isr_3 _ _ _ _ _ _ _ _ _ _
  | 4, _ => exact isr_4 _ _ _ _ _ _ _ _ _ _
  | 5, _ => exact isr_5 _ _ _ _ _ _ _ _ _ _
  | 6, _ => exact isr_6 _ _ _ _ _ _ _ _ _ _
  | 7, _ => exact isr_7 _ _ _ _ _ _ _ _ _ _
  | 8, _ => exact isr_8 _ _ _ _ _ _ _ _ _ _ hr hl

/-- what without answers: a command with one field less -/
def WoPost (c : Cm) (x : Nat) (a : Option Addr) (cp : Nat) (w : World) (e : Ending) (w' : World) : Prop :=
  e = .returned (.agg #[.string (st (woF c x).kind), .string (st (woF c x).id), .string (st (woF c x).about), .string (st (woF c x).cur), .string (st (woF c x).cat), .int .i64 (woF c x).amt, .slice (if x = 8 then none else a) (woF c x).sh.length (if x = 8 then 0 else cp)]) ∧ Below w.heap.size w w'

set_option maxHeartbeats 1600000 in
theorem wo_0 (k i b u t : List UInt8) (m : Int) (a : Option Addr) (cp : Nat) (xs : List Sh) (w : World) :
    Calls Tryz.prog 20 #[.agg #[.string (st k), .string (st i), .string (st b), .string (st u), .string (st t), .int .i64 m, .slice a xs.length cp], .int .i64 0] w fun e w' => e = .returned (.agg #[.string (st k), .string (st []), .string (st b), .string (st u), .string (st t), .int .i64 m, .slice a xs.length cp]) ∧ Below w.heap.size w w' := by
  have HB : ∀ o p, Hid (Below w.heap.size w ((w.alloc o).alloc p)) := fun o p => ((Below.refl _ w).alloc (Nat.le_refl _) o).alloc (by simp) p
  have hz : (Value.string ⟨#[]⟩) = .string (st []) := rfl
  go_enter Tryz.func20, Tryz.ntmps20
  go_wp2
  exact bodyPost_ret (cmd_ret1 rfl _ rfl (blk_twoC _ _ _ _)) rfl ⟨rfl, (HB _ _).out⟩

set_option maxHeartbeats 1600000 in
theorem wo_1 (k i b u t : List UInt8) (m : Int) (a : Option Addr) (cp : Nat) (xs : List Sh) (w : World) :
    Calls Tryz.prog 20 #[.agg #[.string (st k), .string (st i), .string (st b), .string (st u), .string (st t), .int .i64 m, .slice a xs.length cp], .int .i64 1] w fun e w' => e = .returned (.agg #[.string (st k), .string (st i), .string (st []), .string (st u), .string (st t), .int .i64 m, .slice a xs.length cp]) ∧ Below w.heap.size w w' := by
  have HB : ∀ o p, Hid (Below w.heap.size w ((w.alloc o).alloc p)) := fun o p => ((Below.refl _ w).alloc (Nat.le_refl _) o).alloc (by simp) p
  have hz : (Value.string ⟨#[]⟩) = .string (st []) := rfl
  go_enter Tryz.func20, Tryz.ntmps20
  go_wp2
  exact bodyPost_ret (cmd_ret1 rfl _ rfl (blk_twoC _ _ _ _)) rfl ⟨rfl, (HB _ _).out⟩

set_option maxHeartbeats 1600000 in
theorem wo_2 (k i b u t : List UInt8) (m : Int) (a : Option Addr) (cp : Nat) (xs : List Sh) (w : World) :
    Calls Tryz.prog 20 #[.agg #[.string (st k), .string (st i), .string (st b), .string (st u), .string (st t), .int .i64 m, .slice a xs.length cp], .int .i64 2] w fun e w' => e = .returned (.agg #[.string (st k), .string (st i), .string (st []), .string (st u), .string (st t), .int .i64 m, .slice a xs.length cp]) ∧ Below w.heap.size w w' := by
  have HB : ∀ o p, Hid (Below w.heap.size w ((w.alloc o).alloc p)) := fun o p => ((Below.refl _ w).alloc (Nat.le_refl _) o).alloc (by simp) p
  have hz : (Value.string ⟨#[]⟩) = .string (st []) := rfl
  go_enter Tryz.func20, Tryz.ntmps20
  go_wp2
  exact bodyPost_ret (cmd_ret1 rfl _ rfl (blk_twoC _ _ _ _)) rfl ⟨rfl, (HB _ _).out⟩

set_option maxHeartbeats 1600000 in
theorem wo_3 (k i b u t : List UInt8) (m : Int) (a : Option Addr) (cp : Nat) (xs : List Sh) (w : World) :
    Calls Tryz.prog 20 #[.agg #[.string (st k), .string (st i), .string (st b), .string (st u), .string (st t), .int .i64 m, .slice a xs.length cp], .int .i64 3] w fun e w' => e = .returned (.agg #[.string (st k), .string (st i), .string (st b), .string (st []), .string (st t), .int .i64 m, .slice a xs.length cp]) ∧ Below w.heap.size w w' := by
  have HB : ∀ o p, Hid (Below w.heap.size w ((w.alloc o).alloc p)) := fun o p => ((Below.refl _ w).alloc (Nat.le_refl _) o).alloc (by simp) p
  have hz : (Value.string ⟨#[]⟩) = .string (st []) := rfl
  go_enter Tryz.func20, Tryz.ntmps20
  go_wp2
  exact bodyPost_ret (cmd_ret1 rfl _ rfl (blk_twoC _ _ _ _)) rfl ⟨rfl, (HB _ _).out⟩

set_option maxHeartbeats 1600000 in
theorem wo_4 (k i b u t : List UInt8) (m : Int) (a : Option Addr) (cp : Nat) (xs : List Sh) (w : World) :
    Calls Tryz.prog 20 #[.agg #[.string (st k), .string (st i), .string (st b), .string (st u), .string (st t), .int .i64 m, .slice a xs.length cp], .int .i64 4] w fun e w' => e = .returned (.agg #[.string (st k), .string (st i), .string (st b), .string (st u), .string (st []), .int .i64 m, .slice a xs.length cp]) ∧ Below w.heap.size w w' := by
  have HB : ∀ o p, Hid (Below w.heap.size w ((w.alloc o).alloc p)) := fun o p => ((Below.refl _ w).alloc (Nat.le_refl _) o).alloc (by simp) p
  have hz : (Value.string ⟨#[]⟩) = .string (st []) := rfl
  go_enter Tryz.func20, Tryz.ntmps20
  go_wp2
  exact bodyPost_ret (cmd_ret1 rfl _ rfl (blk_twoC _ _ _ _)) rfl ⟨rfl, (HB _ _).out⟩

set_option maxHeartbeats 1600000 in
theorem wo_5 (k i b u t : List UInt8) (m : Int) (a : Option Addr) (cp : Nat) (xs : List Sh) (w : World) :
    Calls Tryz.prog 20 #[.agg #[.string (st k), .string (st i), .string (st b), .string (st u), .string (st t), .int .i64 m, .slice a xs.length cp], .int .i64 5] w fun e w' => e = .returned (.agg #[.string (st k), .string (st i), .string (st b), .string (st u), .string (st []), .int .i64 m, .slice a xs.length cp]) ∧ Below w.heap.size w w' := by
  have HB : ∀ o p, Hid (Below w.heap.size w ((w.alloc o).alloc p)) := fun o p => ((Below.refl _ w).alloc (Nat.le_refl _) o).alloc (by simp) p
  have hz : (Value.string ⟨#[]⟩) = .string (st []) := rfl
  go_enter Tryz.func20, Tryz.ntmps20
  go_wp2
  exact bodyPost_ret (cmd_ret1 rfl _ rfl (blk_twoC _ _ _ _)) rfl ⟨rfl, (HB _ _).out⟩

set_option maxHeartbeats 1600000 in
theorem wo_6 (k i b u t : List UInt8) (m : Int) (a : Option Addr) (cp : Nat) (xs : List Sh) (w : World) :
    Calls Tryz.prog 20 #[.agg #[.string (st k), .string (st i), .string (st b), .string (st u), .string (st t), .int .i64 m, .slice a xs.length cp], .int .i64 6] w fun e w' => e = .returned (.agg #[.string (st k), .string (st i), .string (st b), .string (st u), .string (st t), .int .i64 0, .slice a xs.length cp]) ∧ Below w.heap.size w w' := by
  have HB : ∀ o p, Hid (Below w.heap.size w ((w.alloc o).alloc p)) := fun o p => ((Below.refl _ w).alloc (Nat.le_refl _) o).alloc (by simp) p
  have hz : (Value.string ⟨#[]⟩) = .string (st []) := rfl
  go_enter Tryz.func20, Tryz.ntmps20
  go_wp2
  exact bodyPost_ret (cmd_ret1 rfl _ rfl (blk_twoC _ _ _ _)) rfl ⟨rfl, (HB _ _).out⟩

set_option maxHeartbeats 1600000 in
theorem wo_7 (k i b u t : List UInt8) (m : Int) (a : Option Addr) (cp : Nat) (xs : List Sh) (w : World) :
    Calls Tryz.prog 20 #[.agg #[.string (st k), .string (st i), .string (st b), .string (st u), .string (st t), .int .i64 m, .slice a xs.length cp], .int .i64 7] w fun e w' => e = .returned (.agg #[.string (st k), .string (st i), .string (st b), .string (st u), .string (st t), .int .i64 0, .slice a xs.length cp]) ∧ Below w.heap.size w w' := by
  have HB : ∀ o p, Hid (Below w.heap.size w ((w.alloc o).alloc p)) := fun o p => ((Below.refl _ w).alloc (Nat.le_refl _) o).alloc (by simp) p
  have hz : (Value.string ⟨#[]⟩) = .string (st []) := rfl
  go_enter Tryz.func20, Tryz.ntmps20
  go_wp2
  exact bodyPost_ret (cmd_ret1 rfl _ rfl (blk_twoC _ _ _ _)) rfl ⟨rfl, (HB _ _).out⟩

set_option maxHeartbeats 1600000 in
theorem wo_8 (k i b u t : List UInt8) (m : Int) (a : Option Addr) (cp : Nat) (xs : List Sh) (w : World) :
    Calls Tryz.prog 20 #[.agg #[.string (st k), .string (st i), .string (st b), .string (st u), .string (st t), .int .i64 m, .slice a xs.length cp], .int .i64 8] w fun e w' => e = .returned (.agg #[.string (st k), .string (st i), .string (st b), .string (st u), .string (st t), .int .i64 m, .slice none 0 0]) ∧ Below w.heap.size w w' := by
  have HB : ∀ o p, Hid (Below w.heap.size w ((w.alloc o).alloc p)) := fun o p => ((Below.refl _ w).alloc (Nat.le_refl _) o).alloc (by simp) p
  have hz : (Value.string ⟨#[]⟩) = .string (st []) := rfl
  go_enter Tryz.func20, Tryz.ntmps20
  go_wp2
  exact bodyPost_ret (cmd_ret1 rfl _ rfl (blk_twoC _ _ _ _)) rfl ⟨rfl, (HB _ _).out⟩

theorem without_any (c : Cm) (x : Nat) (a : Option Addr) (cp : Nat) (w : World) (hx : x ≤ 8) :
    Calls Tryz.prog 20 #[.agg #[.string (st c.kind), .string (st c.id), .string (st c.about), .string (st c.cur), .string (st c.cat), .int .i64 c.amt, .slice a c.sh.length cp], .int .i64 (x : Int)] w (WoPost c x a cp w) := by
  match x, hx with
  | 0, _ => exact wo_0 _ _ _ _ _ _ _ _ _ _
  | 1, _ => exact wo_1 _ _ _ _ _ _ _ _ _ _
  | 2, _ => exact wo_2 _ _ _ _ _ _ _ _ _ _
  | 3, _ => exact wo_3 _ _ _ _ _ _ _ _ _ _
  | 4, _ => exact wo_4 _ _ _ _ _ _ _ _ _ _
  | 5, _ => exact wo_5 _ _ _ _ _ _ _ _ _ _
  | 6, _ => exact wo_6 _ _ _ _ _ _ _ _ _ _
  | 7, _ => exact wo_7 _ _ _ _ _ _ _ _ _ _
  | 8, _ => exact wo_8 _ _ _ _ _ _ _ _ _ _

set_option maxHeartbeats 1600000 in
theorem isBare_any (c : Cm) (a : Option Addr) (cp : Nat) (w : World) :
    Calls Tryz.prog 21 #[.agg #[.string (st c.kind), .string (st c.id), .string (st c.about), .string (st c.cur), .string (st c.cat), .int .i64 c.amt, .slice a c.sh.length cp]] w fun e w' => e = .returned (.bool (bareB c)) ∧ Below w.heap.size w w' := by
  have HB : ∀ o, Hid (Below w.heap.size w (w.alloc o)) := fun o => (Below.refl _ w).alloc (Nat.le_refl _) o
  obtain ⟨k, i, b, u, t, m, xs⟩ := c
  unfold bareB
  simp only
  have q1 := empty_eqA i
  have q2 := empty_eqA b
  have q3 := empty_eqA u
  have q4 := empty_eqA t
  obtain ⟨n, hn⟩ : ∃ n, n = xs.length := ⟨_, rfl⟩
  rw [← hn]
  clear hn

  by_cases h1 : i = []
  · rw [decide_eq_true h1] at q1
    by_cases h2 : b = []
    · rw [decide_eq_true h2] at q2
      by_cases h3 : u = []
      · rw [decide_eq_true h3] at q3
        by_cases h4 : t = []
        · rw [decide_eq_true h4] at q4
          by_cases h5 : m = 0
          · by_cases h6 : n = 0
            · rw [decide_eq_true ⟨h1, h2, h3, h4, h5, h6⟩]
              clear h1 h2 h3 h4
              subst h5 h6
              go_enter Tryz.func21, Tryz.ntmps21
              go_wp2; go_ret; exact ⟨by first | rfl | simp, (HB _).out⟩
            · rw [decide_eq_false (by omega)]
              have k6 : ((n : Int) == 0) = false := by rw [beq_eq_false_iff_ne]; omega
              clear h1 h2 h3 h4 h6
              subst h5
              go_enter Tryz.func21, Tryz.ntmps21
              go_wp2; go_ret; exact ⟨by first | rfl | simp [k6], (HB _).out⟩
          · rw [decide_eq_false (fun h => h5 h.2.2.2.2.1)]
            have k5 : (m == 0) = false := by rw [beq_eq_false_iff_ne]; exact h5
            clear h1 h2 h3 h4 h5
            go_enter Tryz.func21, Tryz.ntmps21
            go_wp2; go_ret; exact ⟨by first | rfl | simp [k5], (HB _).out⟩
        · rw [decide_eq_false h4] at q4
          rw [decide_eq_false (fun h => h4 h.2.2.2.1)]
          clear h1 h2 h3 h4
          go_enter Tryz.func21, Tryz.ntmps21
          go_wp2; go_ret; exact ⟨by first | rfl | simp, (HB _).out⟩
      · rw [decide_eq_false h3] at q3
        rw [decide_eq_false (fun h => h3 h.2.2.1)]
        clear h1 h2 h3
        go_enter Tryz.func21, Tryz.ntmps21
        go_wp2; go_ret; exact ⟨by first | rfl | simp, (HB _).out⟩
    · rw [decide_eq_false h2] at q2
      rw [decide_eq_false (fun h => h2 h.2.1)]
      clear h1 h2
      go_enter Tryz.func21, Tryz.ntmps21
      go_wp2; go_ret; exact ⟨by first | rfl | simp, (HB _).out⟩
  · rw [decide_eq_false h1] at q1
    rw [decide_eq_false (fun h => h1 h.1)]
    clear h1
    go_enter Tryz.func21, Tryz.ntmps21
    go_wp2; go_ret; exact ⟨by first | rfl | simp, (HB _).out⟩


theorem contains_none {f : List Nat} {x : Nat} (h : ∀ (j y : Nat), f[j]? = some y → y ≠ x) : f.contains x = false := by
  rw [Bool.eq_false_iff]
  intro hc
  rw [List.contains_iff_mem] at hc
  obtain ⟨k, hk⟩ := List.mem_iff_getElem?.1 hc
  exact h k x hk rfl
theorem contains_some {f : List Nat} {k x : Nat} (h : f[k]? = some x) : f.contains x = true := by
  rw [List.contains_iff_mem]
  exact List.mem_of_getElem? h

/-- what slices.Index of fields answers -/
def IdxF (f : List Nat) (x : Nat) (w : World) (e : Ending) (w' : World) : Prop := ∃ n : Int, e = .returned (.int .i64 n) ∧ f.contains x = decide (0 ≤ n) ∧ w = w'

set_option maxHeartbeats 800000 in
theorem ixF_any (g cp : Nat) (f : List Nat) (x : Nat) (w : World) (hr : RowF w g f) (hl : f.length ≤ 1000000) :
    Calls Tryz.prog 49 #[.slice (some ⟨g, 0, none⟩) f.length cp, .int .i64 (x : Int)] w (IdxF f x w) := by
  obtain ⟨n, hn⟩ : ∃ n, n = f.length := ⟨_, rfl⟩
  have HN := Lib.hid hn
  have HR := Lib.hid hr
  rw [← hn] at hl ⊢
  clear hn hr
  go_enter Tryz.func49, Tryz.ntmps49
  go_wp2
  go_loopg [5, 8] n (fun gk _ i wr => w = wr ∧ ∃ k : Nat, k ≤ n ∧ i = .int .i64 k ∧ n - k ≤ gk ∧ Hid (∀ (j y : Nat), j < k → f[j]? = some y → y ≠ x))
  case atStart => exact ⟨rfl, 0, Nat.zero_le _, rfl, by omega, fun j s hj => by omega⟩
  case round =>
    obtain ⟨rfl, k, hk, rfl, hgk, HJ⟩ := hrel
    by_cases hlt : k < n
    · obtain ⟨y, hx⟩ : ∃ y, f[k]? = some y := ⟨_, List.getElem?_eq_getElem (by rw [← HN.out]; exact hlt)⟩
      have c0 : w.cell? ⟨g, k, none⟩ = some (.int .i64 (y : Int)) := HR.out.get hx
      have hkz : (0 : Int) ≤ (k : Int) := by omega
      have hkn : (k : Int) < (n : Int) := by omega
      have HX := Lib.hid hx
      clear hx
      by_cases hxy : x = y
      · have HE := Lib.hid hxy
        have t1 : ((x : Int) == (y : Int)) = true := by rw [hxy]; simp
        clear hxy
        go_wp2
        go_ret
        exact ⟨_, rfl, by rw [HE.out, contains_some HX.out]; simp, rfl⟩
      · have t1 : ((x : Int) == (y : Int)) = false := by rw [beq_eq_false_iff_ne]; omega
        have HE := Lib.hid hxy
        clear hxy
        go_wp2
        go_roundg (n - (k + 1))
        case measure => omega
        case rel =>
          refine ⟨rfl, k + 1, by omega, by go_num, by omega, fun j s hj hs => ?_⟩
          by_cases e : j = k
          · subst e
            rw [HX.out] at hs
            injection hs with hs
            subst hs
            exact fun e => HE.out e.symm
          · exact HJ.out j s (by omega) hs
    · have hkn : ¬ ((k : Int) < (n : Int)) := by omega
      have HK : Hid (k = n) := by show _ = _; omega
      go_wp2
      go_ret
      refine ⟨-1, rfl, ?_, rfl⟩
      rw [contains_none (fun j s hs => HJ.out j s (by have := (List.getElem?_eq_some_iff.1 hs).1; rw [HK.out, HN.out]; exact this) hs)]
      rfl

set_option maxHeartbeats 400000 in
theorem ctF_any (g cp : Nat) (f : List Nat) (x : Nat) (w : World) (hr : RowF w g f) (hl : f.length ≤ 1000000) :
    Calls Tryz.prog 22 #[.slice (some ⟨g, 0, none⟩) f.length cp, .int .i64 (x : Int)] w fun e w' => e = .returned (.bool (f.contains x)) ∧ w = w' := by
  have H := Lib.hid (ixF_any g cp f x w hr hl)
  clear hr hl
  go_enter Tryz.func22, Tryz.ntmps22
  go_wp2_with fail
  refine H.out.mono ?_
  rintro e w' ⟨n, rfl, h1, rfl⟩
  have H1 := Lib.hid h1
  clear h1
  go_wp2
  go_ret
  exact ⟨by rw [H1.out]; rfl, rfl⟩
end Go.Proofs.YtkflakeocdlinaaGreatDoor
