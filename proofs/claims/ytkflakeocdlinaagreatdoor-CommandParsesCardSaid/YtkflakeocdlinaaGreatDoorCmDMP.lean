/-
  Contracts of command.figures, cmp.Or of texts, command.written.
-/
import Derived.Test.YtkflakeocdlinaaGreatDoorCmCMP
import Derived.Test.YtkflakeocdlinaaGreatDoorMP04
import Derived.Test.YtkflakeocdlinaaGreatDoorShelfMP
import Derived.Test.YtkflakeocdlinaaGreatDoorMP01
import Derived.Deep.LoopGhost
import Derived.Deep.RegionHeld3
import Derived.Deep.CutRange
import Derived.BigRegion
import Derived.Lib.ItoaLen
namespace Go.Proofs.YtkflakeocdlinaaGreatDoor
open Go.RowKit Go.Deep

/-- figures -/
def digL (n : Nat) : List UInt8 := Go.Lib.decDigits n
theorem digL_len {n : Nat} (h : n ≤ 9223372036854775807) : (digL n).length ≤ 21 := by
  have := Go.Lib.itoa_length_le (n : Int) (by omega) (by omega)
  rw [Go.Lib.itoa_nonneg] at this
  exact this
theorem cfigures_any (n : Nat) (w : World) (hn : n ≤ 9223372036854775807) (ht : Tab w) :
    Calls Tryz.prog 55 #[.int .i64 (n : Int)] w fun e w' => e = .returned (.string (st (digL n))) ∧ Below w.heap.size w w' := by
  have H1 : ∀ W, Tab W → Calls Tryz.prog 73 #[.int .i64 (n : Int), .int .i64 10] W fun e w' => e = .returned (.string (st (digL n))) ∧ Below W.heap.size W w' := fun W hW => by
    refine (Tryz.strconv_FormatInt_10 (n : Int) (by omega) (by omega) W hW).mono ?_
    rintro e w' ⟨he, k, os, rfl⟩
    rw [Go.Lib.itoa_nonneg] at he
    exact ⟨he, bel_grow k os⟩
  go_enter Tryz.func55, Tryz.ntmps55
  go_wp2_with (first | (go_at_call 73; refine (H1 _ ht).mono ?_; rintro e w1 ⟨rfl, hb⟩; have HB := Lib.hid hb; clear hb) | fail)
  go_ret
  exact ⟨rfl, HB.out⟩

/-- the first of two texts that isn't empty, the second being a dash -/
def orD (t : List UInt8) : List UInt8 := if t = [] then [45] else t
set_option maxHeartbeats 1600000 in
theorem or_any (t : List UInt8) (g : Nat) (w : World) (h0 : w.cell? ⟨g, 0, none⟩ = some (.string (st t))) (h1 : w.cell? ⟨g, 1, none⟩ = some (.string ⟨#[45]⟩)) :
    Calls Tryz.prog 54 #[.slice (some ⟨g, 0, none⟩) 2 2] w fun e w' => e = .returned (.string (st (orD t))) ∧ w = w' := by
  have q1 := empty_eqA t
  obtain ⟨X, hX⟩ : ∃ X, X = st (orD t) := ⟨_, rfl⟩
  have HX := Lib.hid hX
  rw [← hX]
  clear hX
  by_cases he : t = []
  · have HV : Hid (X = ⟨#[45]⟩) := by show _ = _; rw [HX.out, orD, if_pos he]; rfl
    rw [decide_eq_true he] at q1
    clear he
    go_enter Tryz.func54, Tryz.ntmps54
    go_wp2
    go_loopg [5, 8] 2 (fun gk _ i wr => w = wr ∧ ((i = .int .i64 0 ∧ gk = 2) ∨ (i = .int .i64 1 ∧ gk = 1)))
    case atStart => exact ⟨rfl, .inl ⟨rfl, rfl⟩⟩
    case round =>
      obtain ⟨rfl, ⟨rfl, rfl⟩ | ⟨rfl, rfl⟩⟩ := hrel
      · go_wp2
        go_roundg 1
        case measure => omega
        case rel => exact ⟨rfl, .inr ⟨by go_num, rfl⟩⟩
      · go_wp2
        go_ret
        exact ⟨by rw [HV.out]; first | done | rfl, rfl⟩
  · have HV : Hid (X = st t) := by show _ = _; rw [HX.out, orD, if_neg he]
    rw [decide_eq_false he] at q1
    clear he
    go_enter Tryz.func54, Tryz.ntmps54
    go_wp2
    go_loopg [5, 8] 2 (fun gk _ i wr => w = wr ∧ i = .int .i64 0)
    case atStart => exact ⟨rfl, rfl⟩
    case round =>
      obtain ⟨rfl, rfl⟩ := hrel
      go_wp2
      go_ret
      exact ⟨by rw [HV.out]; first | done | rfl, rfl⟩

/-- a field's words -/
def wordsF (c : Cm) (f : Nat) : List (List UInt8) :=
  match f with
  | 0 => [c.id]
  | 1 => [c.about]
  | 2 => [c.about]
  | 3 => [c.cur]
  | 4 => [orD c.cat]
  | 5 => [orD c.cat]
  | 6 => [digL c.amt.toNat]
  | 7 => [digL c.amt.toNat]
  | _ => c.sh.map fun s => s.1 ++ [58] ++ digL s.2.toNat
/-- words in a new row -/
def WrPost (W : List (List UInt8)) (w : World) (e : Ending) (w' : World) : Prop :=
  ∃ g, e = .returned (.slice (some ⟨g, 0, none⟩) W.length W.length) ∧ RowG 1 cTx w' (some ⟨g, 0, none⟩) W ∧ w.heap.size ≤ g ∧ Below w.heap.size w w'
theorem row_one_tx (w : World) (s : List UInt8) (t : TypeId) : RowG 1 cTx (w.alloc (.cells #[.string (st s)] t)) (some ⟨w.heap.size, 0, none⟩) [s] := fun _ => by
  refine ⟨w.heap.size, 0, rfl, fun i x hx j u hu => ?_⟩
  match i, hx with
  | 0, hx =>
    injection hx with hx
    subst hx
    have hj : j < 1 := (List.getElem?_eq_some_iff.1 hu).1
    obtain rfl : j = 0 := by omega
    injection hu with hu
    subst hu
    exact (Blk.new w t _).cell 0
  | i + 1, hx => simp at hx
theorem row_one_tx2 (w : World) (o : Obj) (s : List UInt8) (t : TypeId) : RowG 1 cTx ((w.alloc o).alloc (.cells #[.string (st s)] t)) (some ⟨w.heap.size + 1, 0, none⟩) [s] := by
  have h := row_one_tx (w.alloc o) s t
  have e : (w.alloc o).heap.size = w.heap.size + 1 := by show (w.heap.push o).size = _; simp
  rw [e] at h
  exact h

set_option maxHeartbeats 800000 in
theorem wr_0 (k i b u t : List UInt8) (m : Int) (a : Option Addr) (cp : Nat) (xs : List Sh) (w : World) :
    Calls Tryz.prog 27 #[.agg #[.string (st k), .string (st i), .string (st b), .string (st u), .string (st t), .int .i64 m, .slice a xs.length cp], .int .i64 0] w (WrPost [i] w) := by
  have HB : ∀ o p, Hid (Below w.heap.size w ((w.alloc o).alloc p)) := fun o p => ((Below.refl _ w).alloc (Nat.le_refl _) o).alloc (by simp) p
  go_enter Tryz.func27, Tryz.ntmps27
  go_wp2
  go_ret
  exact ⟨_, rfl, row_one_tx2 _ _ _ _, by omega, (HB _ _).out⟩

set_option maxHeartbeats 800000 in
theorem wr_1 (k i b u t : List UInt8) (m : Int) (a : Option Addr) (cp : Nat) (xs : List Sh) (w : World) :
    Calls Tryz.prog 27 #[.agg #[.string (st k), .string (st i), .string (st b), .string (st u), .string (st t), .int .i64 m, .slice a xs.length cp], .int .i64 1] w (WrPost [b] w) := by
  have HB : ∀ o p, Hid (Below w.heap.size w ((w.alloc o).alloc p)) := fun o p => ((Below.refl _ w).alloc (Nat.le_refl _) o).alloc (by simp) p
  go_enter Tryz.func27, Tryz.ntmps27
  go_wp2
  go_ret
  exact ⟨_, rfl, row_one_tx2 _ _ _ _, by omega, (HB _ _).out⟩

set_option maxHeartbeats 800000 in
theorem wr_2 (k i b u t : List UInt8) (m : Int) (a : Option Addr) (cp : Nat) (xs : List Sh) (w : World) :
    Calls Tryz.prog 27 #[.agg #[.string (st k), .string (st i), .string (st b), .string (st u), .string (st t), .int .i64 m, .slice a xs.length cp], .int .i64 2] w (WrPost [b] w) := by
  have HB : ∀ o p, Hid (Below w.heap.size w ((w.alloc o).alloc p)) := fun o p => ((Below.refl _ w).alloc (Nat.le_refl _) o).alloc (by simp) p
  go_enter Tryz.func27, Tryz.ntmps27
  go_wp2
  go_ret
  exact ⟨_, rfl, row_one_tx2 _ _ _ _, by omega, (HB _ _).out⟩

set_option maxHeartbeats 800000 in
theorem wr_3 (k i b u t : List UInt8) (m : Int) (a : Option Addr) (cp : Nat) (xs : List Sh) (w : World) :
    Calls Tryz.prog 27 #[.agg #[.string (st k), .string (st i), .string (st b), .string (st u), .string (st t), .int .i64 m, .slice a xs.length cp], .int .i64 3] w (WrPost [u] w) := by
  have HB : ∀ o p, Hid (Below w.heap.size w ((w.alloc o).alloc p)) := fun o p => ((Below.refl _ w).alloc (Nat.le_refl _) o).alloc (by simp) p
  go_enter Tryz.func27, Tryz.ntmps27
  go_wp2
  go_ret
  exact ⟨_, rfl, row_one_tx2 _ _ _ _, by omega, (HB _ _).out⟩

set_option maxHeartbeats 1600000 in
theorem wr_4 (k i b u t : List UInt8) (m : Int) (a : Option Addr) (cp : Nat) (xs : List Sh) (w : World) :
    Calls Tryz.prog 27 #[.agg #[.string (st k), .string (st i), .string (st b), .string (st u), .string (st t), .int .i64 m, .slice a xs.length cp], .int .i64 4] w (WrPost [orD t] w) := by
  have HB : ∀ o p, Hid (Below w.heap.size w ((w.alloc o).alloc p)) := fun o p => ((Below.refl _ w).alloc (Nat.le_refl _) o).alloc (by simp) p
  have HC : ∀ W g, Hid (W.cell? ⟨g, 0, none⟩ = some (.string (st t)) → W.cell? ⟨g, 1, none⟩ = some (.string ⟨#[45]⟩) → Calls Tryz.prog 54 #[.slice (some ⟨g, 0, none⟩) 2 2] W fun e w' => e = .returned (.string (st (orD t))) ∧ W = w') := fun W g h0 h1 => or_any t g W h0 h1
  obtain ⟨w0, hw0⟩ : ∃ w0, w0 = (w.alloc (.cells #[.string (st k), .string (st i), .string (st b), .string (st u), .string (st t), .int .i64 m, .slice a xs.length cp] 24)).alloc (.cells #[.string (st t), .string ⟨#[45]⟩] 9) := ⟨_, rfl⟩
  have HC2 : Hid (Calls Tryz.prog 54 #[.slice (some ⟨w.heap.size + 1, 0, none⟩) 2 2] w0 fun e w' => e = .returned (.string (st (orD t))) ∧ w0 = w') := by
    have hb := blk_twoC w (.cells #[.string (st k), .string (st i), .string (st b), .string (st u), .string (st t), .int .i64 m, .slice a xs.length cp] 24) 9 #[.string (st t), .string ⟨#[45]⟩]
    rw [← hw0] at hb
    exact (HC w0 _).out (hb.cell 0) (hb.cell 1)
  have HB0 : Hid (Below w.heap.size w w0) := by rw [hw0]; exact (HB _ _).out
  obtain ⟨X, hX⟩ : ∃ X, X = orD t := ⟨_, rfl⟩
  rw [← hX] at HC2 ⊢
  have HW0 := Lib.hid hw0
  clear HC hX hw0
  go_enter Tryz.func27, Tryz.ntmps27
  go_wp2_with fail
  rw [← HW0.out]
  refine HC2.out.mono ?_
  rintro e w1 ⟨rfl, rfl⟩
  go_wp2
  go_ret
  exact ⟨_, rfl, row_one_tx _ _ _, HB0.out.size, HB0.out.alloc HB0.out.size _⟩

set_option maxHeartbeats 1600000 in
theorem wr_5 (k i b u t : List UInt8) (m : Int) (a : Option Addr) (cp : Nat) (xs : List Sh) (w : World) :
    Calls Tryz.prog 27 #[.agg #[.string (st k), .string (st i), .string (st b), .string (st u), .string (st t), .int .i64 m, .slice a xs.length cp], .int .i64 5] w (WrPost [orD t] w) := by
  have HB : ∀ o p, Hid (Below w.heap.size w ((w.alloc o).alloc p)) := fun o p => ((Below.refl _ w).alloc (Nat.le_refl _) o).alloc (by simp) p
  have HC : ∀ W g, Hid (W.cell? ⟨g, 0, none⟩ = some (.string (st t)) → W.cell? ⟨g, 1, none⟩ = some (.string ⟨#[45]⟩) → Calls Tryz.prog 54 #[.slice (some ⟨g, 0, none⟩) 2 2] W fun e w' => e = .returned (.string (st (orD t))) ∧ W = w') := fun W g h0 h1 => or_any t g W h0 h1
  obtain ⟨w0, hw0⟩ : ∃ w0, w0 = (w.alloc (.cells #[.string (st k), .string (st i), .string (st b), .string (st u), .string (st t), .int .i64 m, .slice a xs.length cp] 24)).alloc (.cells #[.string (st t), .string ⟨#[45]⟩] 9) := ⟨_, rfl⟩
  have HC2 : Hid (Calls Tryz.prog 54 #[.slice (some ⟨w.heap.size + 1, 0, none⟩) 2 2] w0 fun e w' => e = .returned (.string (st (orD t))) ∧ w0 = w') := by
    have hb := blk_twoC w (.cells #[.string (st k), .string (st i), .string (st b), .string (st u), .string (st t), .int .i64 m, .slice a xs.length cp] 24) 9 #[.string (st t), .string ⟨#[45]⟩]
    rw [← hw0] at hb
    exact (HC w0 _).out (hb.cell 0) (hb.cell 1)
  have HB0 : Hid (Below w.heap.size w w0) := by rw [hw0]; exact (HB _ _).out
  obtain ⟨X, hX⟩ : ∃ X, X = orD t := ⟨_, rfl⟩
  rw [← hX] at HC2 ⊢
  have HW0 := Lib.hid hw0
  clear HC hX hw0
  go_enter Tryz.func27, Tryz.ntmps27
  go_wp2_with fail
  rw [← HW0.out]
  refine HC2.out.mono ?_
  rintro e w1 ⟨rfl, rfl⟩
  go_wp2
  go_ret
  exact ⟨_, rfl, row_one_tx _ _ _, HB0.out.size, HB0.out.alloc HB0.out.size _⟩

set_option maxHeartbeats 1600000 in
theorem wr_6 (k i b u t : List UInt8) (m : Int) (a : Option Addr) (cp : Nat) (xs : List Sh) (w : World) (ht : Tab w) (hm : 0 ≤ m ∧ m ≤ 1125899906842624) :
    Calls Tryz.prog 27 #[.agg #[.string (st k), .string (st i), .string (st b), .string (st u), .string (st t), .int .i64 m, .slice a xs.length cp], .int .i64 6] w (WrPost [digL m.toNat] w) := by
  have HB0 : Hid (Below w.heap.size w (w.alloc (.cells #[.string (st k), .string (st i), .string (st b), .string (st u), .string (st t), .int .i64 m, .slice a xs.length cp] 24))) := (Below.refl _ w).alloc (Nat.le_refl _) _
  have HC : Hid (Calls Tryz.prog 55 #[.int .i64 m] (w.alloc (.cells #[.string (st k), .string (st i), .string (st b), .string (st u), .string (st t), .int .i64 m, .slice a xs.length cp] 24)) fun e w' => e = .returned (.string (st (digL m.toNat))) ∧ Below (w.alloc (.cells #[.string (st k), .string (st i), .string (st b), .string (st u), .string (st t), .int .i64 m, .slice a xs.length cp] 24)).heap.size (w.alloc (.cells #[.string (st k), .string (st i), .string (st b), .string (st u), .string (st t), .int .i64 m, .slice a xs.length cp] 24)) w') := by
    have h := cfigures_any m.toNat (w.alloc (.cells #[.string (st k), .string (st i), .string (st b), .string (st u), .string (st t), .int .i64 m, .slice a xs.length cp] 24)) (by omega) (ht.keep HB0.out)
    rw [show ((m.toNat : Nat) : Int) = m by omega] at h
    exact h
  obtain ⟨X, hX⟩ : ∃ X, X = digL m.toNat := ⟨_, rfl⟩
  rw [← hX] at HC ⊢
  clear hX ht hm
  go_enter Tryz.func27, Tryz.ntmps27
  go_wp2_with fail
  refine HC.out.mono ?_
  rintro e w1 ⟨rfl, hb⟩
  have HB1 := Lib.hid (bel_onG HB0.out HB0.out.size hb)
  clear hb
  go_wp2
  go_ret
  exact ⟨_, rfl, row_one_tx _ _ _, HB1.out.size, HB1.out.alloc HB1.out.size _⟩

set_option maxHeartbeats 1600000 in
theorem wr_7 (k i b u t : List UInt8) (m : Int) (a : Option Addr) (cp : Nat) (xs : List Sh) (w : World) (ht : Tab w) (hm : 0 ≤ m ∧ m ≤ 1125899906842624) :
    Calls Tryz.prog 27 #[.agg #[.string (st k), .string (st i), .string (st b), .string (st u), .string (st t), .int .i64 m, .slice a xs.length cp], .int .i64 7] w (WrPost [digL m.toNat] w) := by
  have HB0 : Hid (Below w.heap.size w (w.alloc (.cells #[.string (st k), .string (st i), .string (st b), .string (st u), .string (st t), .int .i64 m, .slice a xs.length cp] 24))) := (Below.refl _ w).alloc (Nat.le_refl _) _
  have HC : Hid (Calls Tryz.prog 55 #[.int .i64 m] (w.alloc (.cells #[.string (st k), .string (st i), .string (st b), .string (st u), .string (st t), .int .i64 m, .slice a xs.length cp] 24)) fun e w' => e = .returned (.string (st (digL m.toNat))) ∧ Below (w.alloc (.cells #[.string (st k), .string (st i), .string (st b), .string (st u), .string (st t), .int .i64 m, .slice a xs.length cp] 24)).heap.size (w.alloc (.cells #[.string (st k), .string (st i), .string (st b), .string (st u), .string (st t), .int .i64 m, .slice a xs.length cp] 24)) w') := by
    have h := cfigures_any m.toNat (w.alloc (.cells #[.string (st k), .string (st i), .string (st b), .string (st u), .string (st t), .int .i64 m, .slice a xs.length cp] 24)) (by omega) (ht.keep HB0.out)
    rw [show ((m.toNat : Nat) : Int) = m by omega] at h
    exact h
  obtain ⟨X, hX⟩ : ∃ X, X = digL m.toNat := ⟨_, rfl⟩
  rw [← hX] at HC ⊢
  clear hX ht hm
  go_enter Tryz.func27, Tryz.ntmps27
  go_wp2_with fail
  refine HC.out.mono ?_
  rintro e w1 ⟨rfl, hb⟩
  have HB1 := Lib.hid (bel_onG HB0.out HB0.out.size hb)
  clear hb
  go_wp2
  go_ret
  exact ⟨_, rfl, row_one_tx _ _ _, HB1.out.size, HB1.out.alloc HB1.out.size _⟩

end Go.Proofs.YtkflakeocdlinaaGreatDoor
