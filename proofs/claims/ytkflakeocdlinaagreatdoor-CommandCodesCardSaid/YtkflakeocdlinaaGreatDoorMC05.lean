/-
  Contract of part.Right.
-/
import Derived.Test.YtkflakeocdlinaaGreatDoorPtAMC
import Derived.Deep.RegionHeld3
import Derived.OrdersHeld
import Derived.Tactics
import Derived.KernelRfl
import Derived.Deep.MidRow
import Derived.Below
import Derived.WalkKit
import Derived.Lib.Hide
namespace Go.Proofs.YtkflakeocdlinaaGreatDoor
open Go.RowKit Go.Deep

theorem rgF_bad {l : List Sh} (h : l.length = 0 ∨ 8 < l.length) : rgF l = 1 := if_pos h
theorem rgF_few {l : List Sh} (h : ¬ (l.length = 0 ∨ 8 < l.length)) : rgF l = rgTo l l.length := if_neg h

/-- two cells of a new block -/
theorem cells2 {w : World} {b : Nat} {t : TypeId} {u0 u1 : Value} (h : Blk w b t #[u0, u1]) : w.cell? ⟨b, 0, none⟩ = some u0 ∧ w.cell? ⟨b, 1, none⟩ = some u1 := ⟨h.cell 0, h.cell 1⟩

set_option maxHeartbeats 400000 in
theorem right_bad (a : Option Addr) (c n : Nat) (w : World) (h : n = 0 ∨ 8 < n) :
    Calls Tryz.prog 23 #[.slice a n c] w fun e w' => e = .returned (.int .i64 1) ∧ Below w.heap.size w w' := by
  rcases h with h | h
  · subst h
    go_enter Tryz.func23, Tryz.ntmps23
    go_wp2
    go_ret
    exact ⟨rfl, Below.refl _ w⟩
  · have t1 : ((n : Int) == 0) = false := by rw [beq_eq_false_iff_ne]; omega
    go_enter Tryz.func23, Tryz.ntmps23
    go_wp2
    go_ret
    exact ⟨rfl, Below.refl _ w⟩

set_option maxHeartbeats 4000000 in
set_option maxRecDepth 100000 in
theorem right_few (a : Option Addr) (c : Nat) (xs : List Sh) (w : World) (hr : RowG 2 cSh w a xs) (hc : xs.length ≤ c) (h0 : 0 < xs.length) (h8 : xs.length ≤ 8) :
    Calls Tryz.prog 23 #[.slice a xs.length c] w fun e w' => e = .returned (.int .i64 (rgTo xs xs.length)) ∧ Below w.heap.size w w' := by
  obtain ⟨n, hn⟩ : ∃ n, n = xs.length := ⟨_, rfl⟩
  obtain ⟨R, hR⟩ : ∃ R, R = rgTo xs xs.length := ⟨_, rfl⟩
  rw [← hR]
  have HN := Lib.hid hn
  have HRR := Lib.hid hR
  have HR := Lib.hid hr
  rw [← hn] at hc h0 h8 ⊢
  have t1 : ((n : Int) == 0) = false := by rw [beq_eq_false_iff_ne]; omega
  have t2 : ¬ (8 : Int) < (n : Int) := by omega
  have hc0 : 0 < c := by omega
  clear hn hR hr
  go_enter Tryz.func23, Tryz.ntmps23
  go_wp2
  go_loopg [3, 4, 5, 16] n (fun gk _ _ _ i wr => ∃ k : Nat, k ≤ n ∧ i = .int .i64 k ∧ n - k ≤ gk ∧ Hid (rgTo xs k = 0) ∧ Hid (Below w.heap.size w wr))
  case atStart => exact ⟨0, Nat.zero_le _, rfl, by omega, rfl, Below.refl _ _⟩
  case round =>
    obtain ⟨k, hk, rfl, hgk, HZ, HB⟩ := hrel
    by_cases hlt : k < n
    · obtain ⟨x, hx⟩ : ∃ x, xs[k]? = some x := ⟨_, List.getElem?_eq_getElem (by rw [← HN.out]; exact hlt)⟩
      obtain ⟨p, m⟩ := x
      obtain ⟨b1, off, rfl⟩ := HR.out.form (by rw [← HN.out]; omega)
      have hrow := HR.out.keep HB.out
      have hat := hrow.at hx
      have c0 : wr.cell? ⟨b1, off + k * 2, none⟩ = some (.string (st p)) := by simpa using hat 0 _ rfl
      have c1 : wr.cell? ⟨b1, off + k * 2 + 1, none⟩ = some (.int .i64 m) := hat 1 _ rfl
      obtain ⟨E, hE⟩ : ∃ E, E = rbF (p, m) (xs.take k) := ⟨_, rfl⟩
      have hlk : (xs.take k).length = k := by rw [List.length_take, ← HN.out]; omega
      have HF : ∀ W, Below wr.heap.size wr W → Calls Tryz.prog 50 #[.agg #[.string (st p), .int .i64 m], .slice (some ⟨b1, off, none⟩) k c] W fun e w' => e = .returned (.int .i64 E) ∧ Below W.heap.size W w' := fun W hW => by
        have := rb_any p m (some ⟨b1, off, none⟩) c (xs.take k) W ((hrow.keep hW).take k) (by rw [hlk]; omega)
        rw [hlk, ← hE] at this
        exact this
      have HF := Lib.hid HF
      have HNX : Hid (rgTo xs (k + 1) = E) := by show _ = _; rw [rgTo_next HZ.out hx, hE]
      have hkz : (0 : Int) ≤ (k : Int) := by omega
      have hkn : (k : Int) < (n : Int) := by omega
      have hkc : (k : Int) ≤ (c : Int) := by omega
      clear hx hat hrow hE hlk
      go_wp2_with fail
      have hbx := Blk.new wr 39 #[.string (st p), .int .i64 m]
      have hbd : Below wr.heap.size wr (wr.alloc (.cells #[.string (st p), .int .i64 m] 39)) := (Below.refl _ wr).alloc (Nat.le_refl _) _
      obtain ⟨X, hX⟩ : ∃ X, X = wr.heap.size := ⟨_, rfl⟩
      rw [← hX] at hbx ⊢
      generalize wr.alloc (.cells #[.string (st p), .int .i64 m] 39) = wc at hbx hbd ⊢
      have HBD : Hid (Below wr.heap.size wr wc.drew) := hbd.drew
      have k0 : wc.drew.cell? ⟨X, 0, none⟩ = some (.string (st p)) ∧ wc.drew.cell? ⟨X, 1, none⟩ = some (.int .i64 m) := cells2 (w := wc.drew) (t := 39) hbx
      have HF1 := Lib.hid (HF.out _ HBD.out)
      have HBX : Hid (Blk wc.drew X 39 #[.string (st p), .int .i64 m]) := hbx
      clear c0 c1 hbx hbd hX
      go_region_held3 (fun w' => w'.cell? ⟨X, 0, none⟩ = some (.string (st p)) ∧ w'.cell? ⟨X, 1, none⟩ = some (.int .i64 m))
        (first | with_reducible exact k0 | with_reducible exact k1 | go_keep)
        (first
          | (go_at_call 50; ((with_reducible refine HF1.out.mono ?_); rintro e w1 ⟨rfl, hb1⟩; have k1 := cells2 (HBX.out.since hb1))))
      have HB2 := Lib.hid (bel_onG HB.out HB.out.size (bel_onG HBD.out HBD.out.size hb1))
      clear hb1 k0 k1
      by_cases hE : E = 0
      · have HE0 : Hid (rgTo xs (k + 1) = 0) := by show _ = _; rw [HNX.out, hE]
        subst hE
        go_wp2
        go_roundg (n - (k + 1))
        case measure => omega
        case rel => exact ⟨k + 1, by omega, by go_num, by omega, HE0, HB2.out⟩
      · have t3 : (E != 0) = true := by rw [bne_iff_ne]; exact hE
        have HRE : Hid (R = E) := by
          show _ = _
          have h1 := HNX.out
          have h2 : rgTo xs xs.length = rgTo xs (k + 1) := rgTo_from (by rw [h1]; exact hE) (by rw [← HN.out]; omega)
          rw [HRR.out, h2, h1]
        clear hE
        go_wp2
        go_ret
        exact ⟨by rw [HRE.out]; first | done | rfl, HB2.out⟩
    · have hkn : ¬ ((k : Int) < (n : Int)) := by omega
      have HK : Hid (R = 0) := by show _ = _; rw [HRR.out, ← HN.out, ← show k = n by omega]; exact HZ.out
      go_wp2
      go_ret
      exact ⟨by rw [HK.out]; first | done | rfl, HB.out⟩

theorem right_any (a : Option Addr) (c : Nat) (xs : List Sh) (w : World) (hr : RowG 2 cSh w a xs) (hc : xs.length ≤ c) :
    Calls Tryz.prog 23 #[.slice a xs.length c] w fun e w' => e = .returned (.int .i64 (rgF xs)) ∧ Below w.heap.size w w' := by
  by_cases h : xs.length = 0 ∨ 8 < xs.length
  · rw [rgF_bad h]
    exact right_bad a c xs.length w h
  · rw [rgF_few h]
    exact right_few a c xs w hr hc (by omega) (by omega)
end Go.Proofs.YtkflakeocdlinaaGreatDoor
/-
  A region that draws its order: loads may be taken first, though an operation that waits for all of them writes what they have read: a condition on the world is shown behind each operation but those of a list.
-/
namespace Go.Proofs.YtkflakeocdlinaaGreatDoor

section
variable {P : Program} {ops : Array Oper} {Q : Exit → Act → World → Prop} {md : Region.Mode} {S : World → Prop} {E : List Nat}

/-- Whatever order is picked from here on, and S holds behind each operation that is not one of E. -/
def wpAnyE (P : Program) (md : Region.Mode) (ops : Array Oper) (Q : Exit → Act → World → Prop) (S : World → Prop) (E : List Nat) : Nat → Array Bool → Act → World → Prop
  | 0, listed, a, w => Region.ready md ops listed = [] ∧ Q .normal a w
  | fuel + 1, listed, a, w =>
    (Region.ready md ops listed = [] → Q .normal a w) ∧
    ∀ i ∈ Region.ready md ops listed, wpOp P ops Q i (fun a' w' => (E.contains i = false → S w') ∧ wpAnyE P md ops Q S E fuel (listed.setIfInBounds i true) a' w') a w

theorem wpAny_of_E : ∀ (fuel : Nat) (listed : Array Bool) (a : Act) (w : World), wpAnyE P md ops Q S E fuel listed a w → wpAny P md ops Q fuel listed a w
  | 0, _, _, _, h => h
  | fuel + 1, _, _, _, h => ⟨h.1, fun i hi => wpOp_mono (fun a' w' h' => wpAny_of_E fuel _ a' w' h'.2) (h.2 i hi)⟩

/-- each operation of E waits for operation i -/
def waitB (md : Region.Mode) (ops : Array Oper) (E : List Nat) (i : Nat) : Bool :=
  E.all fun j => match ops[j]? with
    | some oj => oj.after.any fun e => Region.binds md e && e.on == i
    | none => true

theorem waitB_ready {i j : Nat} {listed : Array Bool} (hw : waitB md ops E i = true) (hi : i ∈ Region.ready md ops listed) (hj : j ∈ Region.ready md ops listed) : E.contains j = false := by
  rw [Bool.eq_false_iff]
  intro hc
  have hm : j ∈ E := by simpa using hc
  obtain ⟨_, oj, hoj, hall⟩ := mem_ready.1 hj
  have h1 := List.all_eq_true.1 hw j hm
  rw [hoj] at h1
  obtain ⟨e, he, hb⟩ := Array.any_eq_true'.1 h1
  simp only [Bool.and_eq_true, beq_iff_eq] at hb
  have h2 := hall e he hb.1
  rw [hb.2] at h2
  have h0 := (mem_ready.1 hi).1
  rcases Nat.lt_or_ge i listed.size with h' | h'
  · simp [h'] at h0 h2; rw [h0] at h2; cases h2
  · simp [Array.getElem?_eq_none h'] at h2

theorem wpAnyE_first {i : Nat} {oi : Oper} {v : Value} (hi : ops[i]? = some oi) (hsel : ∀ (j : Nat) (o : Oper) cs b, ops[j]? = some o → o.op ≠ .select cs b)
    (hQ : ∀ c a w, Q (.panic c) (a.put oi.dst v) w → Q (.panic c) a w) (hw : waitB md ops E i = true) :
    ∀ (fuel : Nat) (listed : Array Bool) (a : Act) (w : World),
      (∀ j oj, ops[j]? = some oj → j ≠ i → listed.getD j true = false → (∀ e ∈ oj.after, Region.binds md e = true → e.on ≠ i) → oi.apart ops oj = true) →
      i ∈ Region.ready md ops listed → YieldsIf P ops S oi v a → S w →
      wpAnyE P md ops Q S E fuel (listed.setIfInBounds i true) (a.put oi.dst v) w → wpAnyE P md ops Q S E (fuel + 1) listed a w := by
  intro fuel
  induction fuel with
  | zero =>
    intro listed a w _ hr hy hS H
    refine ⟨fun h => (by rw [h] at hr; cases hr), fun j hj => ?_⟩
    by_cases hji : j = i
    · subst hji; exact hy.wpOp hi hS ⟨fun _ => hS, H⟩
    · have := ready_mono hj hji
      rw [H.1] at this
      cases this
  | succ fuel ih =>
    intro listed a w hfree hr hy hS H
    refine ⟨fun h => (by rw [h] at hr; cases hr), fun j hj => ?_⟩
    by_cases hji : j = i
    · subst hji; exact hy.wpOp hi hS ⟨fun _ => hS, H⟩
    · have h1 := H.2 j (ready_mono hj hji)
      have hEj := waitB_ready hw hr hj
      obtain ⟨hjun, oj, hoj, hall⟩ := mem_ready.1 hj
      have hnot : ∀ e ∈ oj.after, Region.binds md e = true → e.on ≠ i := fun e he hb heq => by
        have h1 := hall e he hb
        have h0 := (mem_ready.1 hr).1
        rw [heq] at h1
        rcases Nat.lt_or_ge i listed.size with h' | h'
        · simp [h'] at h0 h1; rw [h0] at h1; cases h1
        · simp [Array.getElem?_eq_none h'] at h1
      have h2 := wpOp_putIf hoj (hfree j oj hoj hji hjun hnot) (fun cs b => hsel i oi cs b hi) (fun cs b => hsel j oj cs b hoj) hQ hy h1
      have hfree' : ∀ k ok, ops[k]? = some ok → k ≠ i → (listed.setIfInBounds j true).getD k true = false →
          (∀ e ∈ ok.after, Region.binds md e = true → e.on ≠ i) → oi.apart ops ok = true := fun k ok hk hki hun hno => by
        refine hfree k ok hk hki ?_ hno
        by_cases hjk : j = k
        · subst hjk; exact hjun
        · rw [getD_set_ne true hjk] at hun; exact hun
      refine wpOp_mono (fun a' w' h3 => ⟨h3.2.1, ih (listed.setIfInBounds j true) a' w' hfree' (ready_mono hr (Ne.symm hji)) h3.1 (h3.2.1 hEj) ?_⟩) h2
      rw [Array.setIfInBounds_comm _ _ hji]
      exact h3.2.2

/-- Take number i first: its slot is named, so that the frame behind it can be written out. -/
theorem wpAnyE_take (i : Nat) (dst : Option Tmp) (v : Value) {oi : Oper} {fuel : Nat} {listed : Array Bool} {a : Act} {w : World} (hi : ops[i]? = some oi) (hd : oi.dst = dst)
    (hs : Region.noSelect ops = true) (hf : Region.free md ops listed i = true) (hr : (Region.ready md ops listed).contains i = true) (hw : waitB md ops E i = true)
    (hQ : ∀ c a w, Q (.panic c) (a.put dst v) w → Q (.panic c) a w) (hy : YieldsIf P ops S oi v a) (hS : S w)
    (h : wpAnyE P md ops Q S E fuel (listed.setIfInBounds i true) (a.put dst v) w) : wpAnyE P md ops Q S E (fuel + 1) listed a w := by
  subst hd
  exact wpAnyE_first hi (Region.noSelect_spec hs) hQ hw fuel listed a w (Region.free_spec hi hf) (by simpa using hr) hy hS h

/-- One alone may come up, and it yields its value. -/
theorem wpAnyE_step (i : Nat) (dst : Option Tmp) (v : Value) {oi : Oper} {fuel : Nat} {listed : Array Bool} {a : Act} {w : World} (hr : Region.ready md ops listed = [i]) (hi : ops[i]? = some oi) (hd : oi.dst = dst)
    (hy : YieldsIf P ops S oi v a) (hS : S w) (h : wpAnyE P md ops Q S E fuel (listed.setIfInBounds i true) (a.put dst v) w) : wpAnyE P md ops Q S E (fuel + 1) listed a w := by
  subst hd
  refine ⟨fun h0 => (by rw [hr] at h0; cases h0), fun j hj => ?_⟩
  rw [hr, List.mem_singleton] at hj
  subst hj
  exact hy.wpOp hi hS ⟨fun _ => hS, h⟩

/-- One alone may come up; S is shown behind it. -/
theorem wpAnyE_one {i : Nat} {o : Oper} {fuel : Nat} {listed : Array Bool} {a : Act} {w : World} (hr : Region.ready md ops listed = [i]) (ho : ops[i]? = some o) (hg : o.guard = none)
    (h : o.wp P a w (fun a' w' => S w' ∧ wpAnyE P md ops Q S E fuel (listed.setIfInBounds i true) a' w') Q) : wpAnyE P md ops Q S E (fuel + 1) listed a w := by
  refine ⟨fun h0 => (by rw [hr] at h0; cases h0), fun j hj => ?_⟩
  rw [hr, List.mem_singleton] at hj
  subst hj
  unfold wpOp
  simp only [ho, Region.wanted, hg, if_true]
  exact .inl (Oper.wp_mono (fun _ _ hh => ⟨fun _ => hh.1, hh.2⟩) h)

/-- One alone may come up, and it is one of E. -/
theorem wpAnyE_end {i : Nat} {o : Oper} {fuel : Nat} {listed : Array Bool} {a : Act} {w : World} (hr : Region.ready md ops listed = [i]) (ho : ops[i]? = some o) (hg : o.guard = none) (hE : E.contains i = true)
    (h : o.wp P a w (fun a' w' => wpAnyE P md ops Q S E fuel (listed.setIfInBounds i true) a' w') Q) : wpAnyE P md ops Q S E (fuel + 1) listed a w := by
  refine ⟨fun h0 => (by rw [hr] at h0; cases h0), fun j hj => ?_⟩
  rw [hr, List.mem_singleton] at hj
  subst hj
  unfold wpOp
  simp only [ho, Region.wanted, hg, if_true]
  exact .inl (Oper.wp_mono (fun _ _ hh => ⟨fun hc => (by rw [hE] at hc; cases hc), hh⟩) h)

theorem wpAnyE_done {listed : Array Bool} {a : Act} {w : World} (hr : Region.ready md ops listed = []) (h : Q .normal a w) :
    ∀ fuel, wpAnyE P md ops Q S E fuel listed a w
  | 0 => ⟨hr, h⟩
  | _ + 1 => ⟨fun _ => h, by rw [hr]; simp⟩

theorem wp_region_E {id : Nat} {a : Act} {w : World} (S : World → Prop) (E : List Nat) (hm : P.follows .mixedOrders = true)
    (h : wpAnyE P .any ops Q S E ops.size (Array.replicate ops.size false) a w.drew) : (Code.region id ops true).wp P Q a w :=
  wp_region_any hm (wpAny_of_E _ _ _ _ h)

theorem run_loadAt_one {w : World} (ty : TypeId) {d : TypeDesc} (hna : P.underlying ty = some d) (hd : d.isRow = false) (A : Addr) (v : Value) (hc : w.cell? A = some v) : (Instr.loadAt ty (.pointer (some A))).run P w = .ok v w := by
  have hagg : (isAgg ty).run P w = .ok false w := by
    unfold isAgg
    rw [Sem.run_bind, run_underlying hna w]
    cases d <;> simp_all
  simp only [Instr.loadAt, Instr.sureAddr, Sem.run_bind, Sem.run_pure, Result.andThen_ok, loadVar, hagg, Bool.false_eq_true, if_false]
  rw [run_load]
  simp [hc]

theorem yields_load {o : Oper} {a : Act} (hg : o.guard = none) (ty : TypeId) (x : Operand) (ho : o.op = .load ty x) {d : TypeDesc} (hna : P.underlying ty = some d) (hd : d.isRow = false) (A : Addr) (hx : a.eval x = .pointer (some A)) (v : Value) (hS : ∀ w, S w → w.cell? A = some v) : YieldsIf P ops S o v a :=
  .inl ⟨by simp [Region.wanted, hg], fun w hw => by
    unfold execOp
    simp only [ho, hx, Sem.run_bind, run_loadAt_one ty hna hd A v (hS w hw), Result.andThen_ok, Sem.run_pure]⟩

theorem yields_move {o : Oper} {a : Act} (hg : o.guard = none) (x : Operand) (ho : o.op = .move x) (v : Value) (hx : a.eval x = v) : YieldsIf P ops S o v a :=
  .inl ⟨by simp [Region.wanted, hg], fun w _ => by unfold execOp; simp only [ho, hx]; rfl⟩
theorem yields_nilCheck {o : Oper} {a : Act} (hg : o.guard = none) (x : Operand) (ho : o.op = .nilCheck x) (A : Addr) (hx : a.eval x = .pointer (some A)) : YieldsIf P ops S o (.pointer (some A)) a :=
  .inl ⟨by simp [Region.wanted, hg], fun w _ => by unfold execOp; simp only [ho, hx]; rfl⟩
end
end Go.Proofs.YtkflakeocdlinaaGreatDoor
/-
  A region that draws its order, walked by hand: an operation under a guard.
-/
namespace Go.Proofs.YtkflakeocdlinaaGreatDoor
open Go.RowKit Go.Lib

section
variable {P : Program} {ops : Array Oper} {Q : Exit → Act → World → Prop} {md : Region.Mode} {S : World → Prop} {E : List Nat}

/-- One alone may come up, and it is wanted; S is shown behind it; what follows is shut. -/
theorem wpAnyE_oneG (i : Nat) {o : Oper} {fuel : Nat} {listed : Array Bool} {a : Act} {w : World} (hr : Region.ready md ops listed = [i]) (ho : ops[i]? = some o) (hw : Region.wanted o (yielded ops a.tmps) = true)
    (h : ∀ K : Act → World → Prop, Hid (∀ a' w', S w' → wpAnyE P md ops Q S E fuel (listed.setIfInBounds i true) a' w' → K a' w') → o.wp P a w K Q) : wpAnyE P md ops Q S E (fuel + 1) listed a w := by
  refine ⟨fun h0 => (by rw [hr] at h0; cases h0), fun j hj => ?_⟩
  rw [hr, List.mem_singleton] at hj
  subst hj
  unfold wpOp
  simp only [ho, hw, if_true]
  exact .inl (h _ (Lib.hid fun a' w' hs hh => ⟨fun _ => hs, hh⟩))
end

end Go.Proofs.YtkflakeocdlinaaGreatDoor
