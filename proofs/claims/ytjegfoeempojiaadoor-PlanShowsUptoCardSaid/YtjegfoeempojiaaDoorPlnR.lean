/-
  Rows of structs of four cells; contracts of Known, isEnd, isOf, IndexFunc, EqualFunc.
-/
import Derived.Test.YtjegfoeempojiaaDoorPlnM
import Derived.Test.YtjegfoeempojiaaDoorLexF
import Derived.Deep.LoopGhost
namespace Go.Proofs.YtjegfoeempojiaaDoor
open Go.RowKit Go.Maps

/-- a row of structs of four cells that can be read -/
def RowK {α : Type} (c : α → List Value) (w : World) (a : Option Addr) (xs : List α) : Prop :=
  0 < xs.length → ∃ b off, a = some ⟨b, off, none⟩ ∧ ∀ (i : Nat) (x : α), xs[i]? = some x → ∀ (j : Nat) (u : Value), (c x)[j]? = some u → w.cell? ⟨b, off + i * 4 + j, none⟩ = some u

section
variable {α : Type} {c : α → List Value}

theorem RowK.nil (w : World) (a : Option Addr) : RowK c w a [] := fun h => absurd h (by simp)
theorem RowK.keep {w w' : World} {a : Option Addr} {xs : List α} (h : RowK c w a xs) (hb : Below w.heap.size w w') : RowK c w' a xs := by
  intro h0
  obtain ⟨b, off, e, hc⟩ := h h0
  refine ⟨b, off, e, fun i x hx j u hu => ?_⟩
  have q := hc i x hx j u hu
  rw [hb.cell (p := ⟨b, off + i * 4 + j, none⟩) (World.block_lt_of_cell? w _ q)]
  exact q
theorem RowK.alloc {w : World} {a : Option Addr} {xs : List α} (h : RowK c w a xs) (o : Obj) : RowK c (w.alloc o) a xs := h.keep ((Below.refl _ w).alloc (Nat.le_refl _) o)
/-- what stands behind some of them -/
theorem RowK.drop {w : World} {b off : Nat} {xs : List α} (h : RowK c w (some ⟨b, off, none⟩) xs) (p : Nat) : RowK c w (some ⟨b, off + p * 4, none⟩) (xs.drop p) := by
  intro h0
  rw [List.length_drop] at h0
  obtain ⟨b', off', e, hc⟩ := h (by omega)
  simp only [Option.some.injEq, Addr.mk.injEq, and_true] at e
  obtain ⟨rfl, rfl⟩ := e
  refine ⟨_, _, rfl, fun i x hx j u hu => ?_⟩
  rw [List.getElem?_drop] at hx
  have := hc (p + i) x hx j u hu
  rw [show off + p * 4 + i * 4 + j = off + (p + i) * 4 + j by omega]
  exact this
theorem RowK.take {w : World} {a : Option Addr} {xs : List α} (h : RowK c w a xs) (n : Nat) : RowK c w a (xs.take n) := by
  intro h0
  rw [List.length_take] at h0
  obtain ⟨b, off, e, hc⟩ := h (by omega)
  refine ⟨b, off, e, fun i x hx j u hu => hc i x ?_ j u hu⟩
  rw [List.getElem?_take] at hx
  split at hx
  · exact hx
  · cases hx
theorem RowK.form {w : World} {a : Option Addr} {xs : List α} (h : RowK c w a xs) (h0 : 0 < xs.length) : ∃ b off, a = some ⟨b, off, none⟩ := by
  obtain ⟨b, off, e, _⟩ := h h0
  exact ⟨b, off, e⟩
theorem RowK.at {w : World} {b off : Nat} {xs : List α} (h : RowK c w (some ⟨b, off, none⟩) xs) {i : Nat} {x : α} (hx : xs[i]? = some x) : ∀ (j : Nat) (u : Value), (c x)[j]? = some u → w.cell? ⟨b, off + i * 4 + j, none⟩ = some u := by
  have hlt := (List.getElem?_eq_some_iff.1 hx).1
  obtain ⟨b', off', e, hc⟩ := h (by omega)
  simp only [Option.some.injEq, Addr.mk.injEq, and_true] at e
  obtain ⟨rfl, rfl⟩ := e
  exact hc i x hx

theorem flat_get4 (h4 : ∀ x, (c x).length = 4) : ∀ (ss : List α) (i j : Nat) (x : α) (u : Value), ss[i]? = some x → (c x)[j]? = some u → (ss.flatMap c)[i * 4 + j]? = some u
  | [], i, j, x, u, h, _ => by simp at h
  | y :: r, 0, j, x, u, h, hu => by
    simp only [List.getElem?_cons_zero, Option.some.injEq] at h
    subst h
    have hj : j < (c y).length := (List.getElem?_eq_some_iff.1 hu).1
    rw [List.flatMap_cons, Nat.zero_mul, Nat.zero_add, List.getElem?_append_left hj]
    exact hu
  | y :: r, i + 1, j, x, u, h, hu => by
    simp only [List.getElem?_cons_succ] at h
    have e : (i + 1) * 4 + j = (c y).length + (i * 4 + j) := by rw [h4]; omega
    rw [List.flatMap_cons, e, List.getElem?_append_right (by omega), Nat.add_sub_cancel_left]
    exact flat_get4 h4 r i j x u h hu

/-- an own row of them: where it lies, that it can be read -/
theorem RowK.own (h4 : ∀ x, (c x).length = 4) {w : World} {B : Nat} {e : TypeId} {v : Value} {n : Nat} {ls : List α} (h : w.ownsRow B e 4 v n (ls.flatMap c)) (hn : n = ls.length) : ∃ a cp, v = .slice a ls.length cp ∧ RowK c w a ls ∧ (∀ p, a = some p → B ≤ p.block) ∧ ls.length ≤ cp := by
  rcases h.2 with ⟨hv, h0⟩ | ⟨g, cap, cur, hv, hB, hg, h1, h2, h3, h5⟩
  · refine ⟨none, 0, by rw [hv, ← hn, h0], fun hp => by omega, (fun p hp => by cases hp), by omega⟩
  · refine ⟨some ⟨g, 0, none⟩, cap, by rw [hv, hn], fun _ => ⟨g, 0, rfl, fun i x hx j u hu => ?_⟩, (fun p hp => by injection hp with hp; rw [← hp]; exact hB), ?_⟩
    · have hb : Blk w g e cur := hg
      have hf := flat_get4 h4 ls i j x u hx hu
      have hi : i < ls.length := (List.getElem?_eq_some_iff.1 hx).1
      have hj : j < 4 := by have := (List.getElem?_eq_some_iff.1 hu).1; rwa [h4] at this
      rw [← h5, List.getElem?_take_of_lt (by omega)] at hf
      rw [Nat.zero_add, hb.cell, ← Array.getElem?_toList]
      exact hf
    · omega
end

theorem tkC_len (t : Tk × Nat) : (tkC t).length = 4 := rfl
/-- a rule's cells -/
def cR (r : Rl) : List Value := [.string (st r.1), .string (st r.2.1), .int .i64 r.2.2.1, .int .i64 r.2.2.2]
theorem cR_len (r : Rl) : (cR r).length = 4 := rfl

/-- the map of forms, where a kind is none -/
theorem forms_none {k : List UInt8} (h : formL k = none) (hk : k.length ≤ 1000000000) (ok : Bool) (w : World) : Calls Tryd.prog 11 #[] w fun e w' => ∃ m, e = .returned (.map (some m)) ∧
    (Instr.lookup 38 (.map (some m)) (.string (st k)) ok).run Tryd.prog w' = .ok (if ok then .tuple #[.slice none 0 0, .bool false] else .slice none 0 0) w' ∧ Below w.heap.size w w' := by
  refine (forms_any w).mono ?_
  rintro e w1 ⟨m, rfl, hm, hb⟩
  have hk2 : k.length ≤ maxLen := by unfold maxLen; omega
  refine ⟨m, rfl, ?_, hb⟩
  cases ok with
  | true =>
    rcases hm.look hk2 with ⟨_, hrun⟩ | ⟨f, g, e, _⟩
    · exact hrun
    · rw [h] at e; cases e
  | false =>
    rcases hm.look1 hk2 with ⟨_, hrun⟩ | ⟨f, g, e, _⟩
    · exact hrun
    · rw [h] at e; cases e
/-- where it is one -/
theorem forms_some {k : List UInt8} {f : List Nat} (h : formL k = some f) (hk : k.length ≤ 1000000000) (ok : Bool) (w : World) : Calls Tryd.prog 11 #[] w fun e w' => ∃ m g, e = .returned (.map (some m)) ∧
    (Instr.lookup 38 (.map (some m)) (.string (st k)) ok).run Tryd.prog w' = .ok (if ok then .tuple #[.slice (some ⟨g, 0, none⟩) f.length f.length, .bool true] else .slice (some ⟨g, 0, none⟩) f.length f.length) w' ∧ RowN2 w' g f ∧ Below w.heap.size w w' := by
  refine (forms_any w).mono ?_
  rintro e w1 ⟨m, rfl, hm, hb⟩
  have hk2 : k.length ≤ maxLen := by unfold maxLen; omega
  cases ok with
  | true =>
    rcases hm.look hk2 with ⟨e, _⟩ | ⟨f', g, e, hrun, hr⟩
    · rw [h] at e; cases e
    · rw [h] at e; injection e with e; subst e; exact ⟨m, g, rfl, hrun, hr, hb⟩
  | false =>
    rcases hm.look1 hk2 with ⟨e, _⟩ | ⟨f', g, e, hrun, hr⟩
    · rw [h] at e; cases e
    · rw [h] at e; injection e with e; subst e; exact ⟨m, g, rfl, hrun, hr, hb⟩

set_option maxRecDepth 100000 in
theorem known_any (k : List UInt8) (w : World) (hk : k.length ≤ 1000000000) :
    Calls Tryd.prog 5 #[.string (st k)] w fun e w' => e = .returned (.bool (formL k).isSome) ∧ Below w.heap.size w w' := by
  cases hf : formL k with
  | none =>
    have HF : ∀ W, Hid (Calls Tryd.prog 11 #[] W fun e w' => ∃ m, e = .returned (.map (some m)) ∧ (Instr.lookup 38 (.map (some m)) (.string (st k)) true).run Tryd.prog w' = .ok (.tuple #[.slice none 0 0, .bool false]) w' ∧ Below W.heap.size W w') := fun W => forms_none hf hk true W
    clear hf hk
    go_enter Tryd.func5, Tryd.ntmps5
    go_wp2_with (first | (go_at_call 11; with_reducible refine (HF _).out.mono ?_; rintro e w1 ⟨m, rfl, hm, hb⟩; have HB := Lib.hid hb; clear hb) | fail)
    go_ret
    exact ⟨rfl, HB.out⟩
  | some f =>
    have HF : ∀ W, Hid (Calls Tryd.prog 11 #[] W fun e w' => ∃ m g, e = .returned (.map (some m)) ∧ (Instr.lookup 38 (.map (some m)) (.string (st k)) true).run Tryd.prog w' = .ok (.tuple #[.slice (some ⟨g, 0, none⟩) f.length f.length, .bool true]) w' ∧ RowN2 w' g f ∧ Below W.heap.size W w') := fun W => forms_some hf hk true W
    clear hf hk
    go_enter Tryd.func5, Tryd.ntmps5
    go_wp2_with (first | (go_at_call 11; with_reducible refine (HF _).out.mono ?_; rintro e w1 ⟨m, g, rfl, hm, hr, hb⟩; have HB := Lib.hid hb; clear hb hr) | fail)
    go_ret
    exact ⟨rfl, HB.out⟩

theorem beqN (a b : Nat) : ((a : Int) == (b : Int)) = (a == b) := by rw [Bool.eq_iff_iff]; simp; omega

theorem isEnd_any (t : Tk × Nat) (w : World) : Calls Tryd.prog 19 #[.agg (tkC t).toArray] w fun e w' => e = .returned (.bool (t.1.1 == 3)) ∧ Below w.heap.size w w' := by
  unfold tkC
  go_enter Tryd.func19, Tryd.ntmps19
  go_wp2
  go_ret
  exact ⟨by rw [← beqN]; rfl, (Below.refl _ w).alloc (Nat.le_refl _) _⟩
theorem isOf_any (t : Tk × Nat) (k : Nat) (w : World) : Calls Tryd.prog 34 #[.agg (tkC t).toArray, .int .i64 (k : Int)] w fun e w' => e = .returned (.bool (t.1.1 == k)) ∧ Below w.heap.size w w' := by
  unfold tkC
  go_enter Tryd.func34, Tryd.ntmps34
  go_wp2
  go_ret
  exact ⟨by rw [← beqN]; rfl, (Below.refl _ w).alloc (Nat.le_refl _) _⟩

/-- none of the first so many is an End -/
def NoEnd (ts : Tks) (k : Nat) : Prop := ∀ j, j < k → ∀ u, ts[j]? = some u → u.1.1 ≠ 3
theorem NoEnd.start (ts : Tks) : NoEnd ts 0 := fun j hj => by omega
theorem NoEnd.succ {ts : Tks} {k : Nat} {t : Tk × Nat} (h : NoEnd ts k) (hx : ts[k]? = some t) (ht : (t.1.1 == 3) = false) : NoEnd ts (k + 1) := by
  intro j hj u hu
  by_cases e : j = k
  · subst e
    rw [hx] at hu
    injection hu with hu
    subst hu
    simpa using ht
  · exact h j (by omega) u hu
theorem NoEnd.found {ts : Tks} {k : Nat} {t : Tk × Nat} (hn : NoEnd ts k) (hx : ts[k]? = some t) (h : (t.1.1 == 3) = true) : endI ts = k := by
  obtain ⟨h1, h2⟩ := List.getElem?_eq_some_iff.1 hx
  unfold endI
  rw [List.findIdx_eq h1]
  refine ⟨by rw [h2]; exact h, fun j hj => ?_⟩
  have hj2 : j < ts.length := by omega
  have := hn j hj _ (List.getElem?_eq_getElem hj2)
  simpa using this
theorem NoEnd.all {ts : Tks} (hn : NoEnd ts ts.length) : endI ts = ts.length := by
  unfold endI
  rw [List.findIdx_eq_length]
  intro x hx
  obtain ⟨j, hj, rfl⟩ := List.getElem_of_mem hx
  have := hn j hj _ (List.getElem?_eq_getElem hj)
  simpa using this
theorem endI_le (ts : Tks) : endI ts ≤ ts.length := List.findIdx_le_length

/-- a box, and what comes behind it -/
theorem bel_less {B B' : Nat} {a b : World} (h : Below B' a b) (hB : B ≤ B') : Below B a b := ⟨h.os, h.tape, h.output, h.size, fun k hk => h.block k (Nat.lt_of_lt_of_le hk hB)⟩
theorem bel_on {B : Nat} {w wr w1 : World} (h : Below B w wr) (hB : B ≤ wr.heap.size) (hb : Below wr.heap.size wr w1) : Below B w w1 := h.trans (bel_less hb hB)

set_option maxHeartbeats 1000000 in
set_option maxRecDepth 100000 in
/-- where the first End stands; -1: there is none -/
theorem index_any (a : Option Addr) (c : Nat) (ts : Tks) (w : World) (hr : RowK tkC w a ts) (hl : ts.length ≤ 1000000000) :
    Calls Tryd.prog 18 #[.slice a ts.length c, .func (.func 19) #[] #[]] w fun e w' => e = .returned (.int .i64 (if endI ts < ts.length then (endI ts : Int) else -1)) ∧ Below w.heap.size w w' := by
  obtain ⟨n, hn⟩ : ∃ n, n = ts.length := ⟨_, rfl⟩
  have HN := Lib.hid hn
  have HR := Lib.hid hr
  rw [← hn] at hl ⊢
  obtain ⟨B, hB⟩ : ∃ B, B = w.heap.size := ⟨_, rfl⟩
  have HBE := Lib.hid hB
  rw [← hB]
  obtain ⟨R, hE⟩ : ∃ R : Int, R = if endI ts < n then (endI ts : Int) else -1 := ⟨_, rfl⟩
  have HE := Lib.hid hE
  rw [← hE]
  clear hn hr hB hE
  go_enter Tryd.func18, Tryd.ntmps18
  go_wp2
  go_loopg [5, 8] n (fun gk _ i wr => ∃ k : Nat, k ≤ n ∧ i = .int .i64 k ∧ n - k ≤ gk ∧ Hid (NoEnd ts k) ∧ Hid (Below B w wr))
  case atStart => exact ⟨0, Nat.zero_le _, rfl, by omega, NoEnd.start ts, Below.refl _ _⟩
  case round =>
    obtain ⟨k, hk, rfl, hgk, HT, HB⟩ := hrel
    by_cases hlt : k < n
    · obtain ⟨t, hx⟩ : ∃ t, ts[k]? = some t := ⟨_, List.getElem?_eq_getElem (by rw [← HN.out]; exact hlt)⟩
      obtain ⟨b, off, rfl, hc⟩ := (HR.out.keep (by rw [← HBE.out]; exact HB.out)) (by rw [← HN.out]; omega)
      have c0 : wr.cell? ⟨b, off + k * 4, none⟩ = some (.int .i64 (t.1.1 : Int)) := by simpa using hc k t hx 0 _ rfl
      have c1 := hc k t hx 1 _ rfl
      have c2 := hc k t hx 2 _ rfl
      have c3 := hc k t hx 3 _ rfl
      have hkz : (0 : Int) ≤ (k : Int) := by omega
      have hkn : (k : Int) < (n : Int) := by omega
      have HX := Lib.hid hx
      have H1 : ∀ W, Hid (Calls Tryd.prog 19 #[.agg #[.int .i64 (t.1.1 : Int), .string (st t.1.2.1), .int .i64 (t.1.2.2 : Int), .int .i64 (t.2 : Int)]] W fun e w' => e = .returned (.bool (t.1.1 == 3)) ∧ Below W.heap.size W w') := fun W => isEnd_any t W
      have HBs : Hid (B ≤ wr.heap.size) := by have := HB.out.size; have := HBE.out; show _ ≤ _; omega
      clear hc hx
      cases he : (t.1.1 == 3) with
      | true =>
        rw [he] at H1
        have HF : Hid (endI ts = k) := HT.out.found HX.out he
        have HRk : Hid (R = (k : Int)) := by show _ = _; rw [HE.out, HF.out, if_pos hlt]
        clear he
        go_wp2_with (first | (go_at_call 19; with_reducible refine (H1 _).out.mono ?_; rintro e w1 ⟨rfl, hb⟩; have HB1 := Lib.hid (bel_on HB.out HBs.out hb); clear hb) | fail)
        go_ret
        exact ⟨by rw [HRk.out]; rfl, HB1.out⟩
      | false =>
        rw [he] at H1
        have HS := Lib.hid (HT.out.succ HX.out he)
        clear he
        go_wp2_with (first | (go_at_call 19; with_reducible refine (H1 _).out.mono ?_; rintro e w1 ⟨rfl, hb⟩; have HB1 := Lib.hid (bel_on HB.out HBs.out hb); clear hb) | fail)
        go_roundg (n - (k + 1))
        case measure => omega
        case rel => exact ⟨k + 1, by omega, by go_num, by omega, HS, HB1⟩
    · have e : k = n := by omega
      have HRk : Hid (R = -1) := by
        have h1 := HT.out
        rw [e, HN.out] at h1
        show _ = _
        rw [HE.out, h1.all, if_neg (by rw [← HN.out]; omega)]
      have hkn : ¬ ((k : Int) < (n : Int)) := by omega
      go_wp2
      go_ret
      exact ⟨by rw [HRk.out]; rfl, HB.out⟩

theorem kinds_step {ts : Tks} {f : List Nat} {k : Nat} {t : Tk × Nat} {x : Nat} (h : (ts.take k).map (·.1.1) = f.take k) (ht : ts[k]? = some t) (hf : f[k]? = some x) (e : (t.1.1 == x) = true) : (ts.take (k + 1)).map (·.1.1) = f.take (k + 1) := by
  obtain ⟨h1, h2⟩ := List.getElem?_eq_some_iff.1 ht
  obtain ⟨h3, h4⟩ := List.getElem?_eq_some_iff.1 hf
  rw [List.take_succ_eq_append_getElem h1, List.take_succ_eq_append_getElem h3, List.map_append, h, h2, h4]
  simpa using e
theorem kinds_ne {ts : Tks} {f : List Nat} {k : Nat} {t : Tk × Nat} {x : Nat} (ht : ts[k]? = some t) (hf : f[k]? = some x) (e : (t.1.1 == x) = false) : ts.map (·.1.1) ≠ f := by
  intro h
  have : (ts.map (·.1.1))[k]? = some t.1.1 := by rw [List.getElem?_map, ht]; rfl
  rw [h, hf] at this
  injection this with this
  rw [this] at e
  simp at e

set_option maxHeartbeats 1000000 in
set_option maxRecDepth 100000 in
/-- whether tokens are of these kinds -/
theorem equal_any (a : Option Addr) (c : Nat) (ts : Tks) (g : Nat) (f : List Nat) (w : World) (hr : RowK tkC w a ts) (hf : RowN2 w g f) (hl : ts.length ≤ 1000000000) (hfl : f.length ≤ 2) :
    Calls Tryd.prog 33 #[.slice a ts.length c, .slice (some ⟨g, 0, none⟩) f.length f.length, .func (.func 34) #[] #[]] w fun e w' => e = .returned (.bool (decide (ts.map (·.1.1) = f))) ∧ Below w.heap.size w w' := by
  obtain ⟨n, hn⟩ : ∃ n, n = ts.length := ⟨_, rfl⟩
  obtain ⟨m, hm⟩ : ∃ m, m = f.length := ⟨_, rfl⟩
  have HN := Lib.hid hn
  have HM := Lib.hid hm
  have HR := Lib.hid hr
  have HF := Lib.hid hf
  rw [← hn] at hl ⊢
  rw [← hm] at hfl ⊢
  obtain ⟨B, hB⟩ : ∃ B, B = w.heap.size := ⟨_, rfl⟩
  have HBE := Lib.hid hB
  rw [← hB]
  obtain ⟨R, hE⟩ : ∃ R : Bool, R = decide (ts.map (·.1.1) = f) := ⟨_, rfl⟩
  have HE := Lib.hid hE
  rw [← hE]
  clear hn hr hB hE hm hf
  by_cases hnm : n = m
  · subst hnm
    go_enter Tryd.func33, Tryd.ntmps33
    go_wp2
    go_loopg [7, 8, 9, 17] n (fun gk _ _ _ i wr => ∃ k : Nat, k ≤ n ∧ i = .int .i64 k ∧ n - k ≤ gk ∧ Hid ((ts.take k).map (·.1.1) = f.take k) ∧ Hid (Below B w wr))
    case atStart => exact ⟨0, Nat.zero_le _, rfl, by omega, rfl, Below.refl _ _⟩
    case round =>
      obtain ⟨k, hk, rfl, hgk, HT, HB⟩ := hrel
      by_cases hlt : k < n
      · obtain ⟨t, hx⟩ : ∃ t, ts[k]? = some t := ⟨_, List.getElem?_eq_getElem (by rw [← HN.out]; exact hlt)⟩
        obtain ⟨x, hy⟩ : ∃ x, f[k]? = some x := ⟨_, List.getElem?_eq_getElem (by rw [← HM.out]; exact hlt)⟩
        obtain ⟨b, off, rfl, hc⟩ := (HR.out.keep (by rw [← HBE.out]; exact HB.out)) (by rw [← HN.out]; omega)
        have hfk := (HF.out.keep (by rw [← HBE.out]; exact HB.out)) k x hy
        have hfk2 := World.cell?_alloc_lt wr (.cells #[.int .i64 (t.1.1 : Int), .string (st t.1.2.1), .int .i64 (t.1.2.2 : Int), .int .i64 (t.2 : Int)] 55) ⟨g, k, none⟩ (World.block_lt_of_cell? wr _ hfk)
        rw [hfk] at hfk2
        have c0 : wr.cell? ⟨b, off + k * 4, none⟩ = some (.int .i64 (t.1.1 : Int)) := by simpa using hc k t hx 0 _ rfl
        have c1 := hc k t hx 1 _ rfl
        have c2 := hc k t hx 2 _ rfl
        have c3 := hc k t hx 3 _ rfl
        have hkz : (0 : Int) ≤ (k : Int) := by omega
        have hkn : (k : Int) < (n : Int) := by omega
        have HX := Lib.hid hx
        have HY := Lib.hid hy
        have H1 : ∀ W, Hid (Calls Tryd.prog 34 #[.agg #[.int .i64 (t.1.1 : Int), .string (st t.1.2.1), .int .i64 (t.1.2.2 : Int), .int .i64 (t.2 : Int)], .int .i64 (x : Int)] W fun e w' => e = .returned (.bool (t.1.1 == x)) ∧ Below W.heap.size W w') := fun W => isOf_any t x W
        have HBs : Hid (B ≤ wr.heap.size) := by have := HB.out.size; have := HBE.out; show _ ≤ _; omega
        clear hc hx hy hfk
        cases he : (t.1.1 == x) with
        | true =>
          rw [he] at H1
          have HS : Hid ((ts.take (k + 1)).map (·.1.1) = f.take (k + 1)) := kinds_step HT.out HX.out HY.out he
          clear he
          go_wp2_with (first | (go_at_call 34; with_reducible refine (H1 _).out.mono ?_; rintro e w1 ⟨rfl, hb⟩; have HB1 := Lib.hid (bel_on (HB.out.alloc HBs.out _) (by simp; have := HBs.out; omega) hb); clear hb) | fail)
          go_roundg (n - (k + 1))
          case measure => omega
          case rel => exact ⟨k + 1, by omega, by go_num, by omega, HS, HB1⟩
        | false =>
          rw [he] at H1
          have HRk : Hid (R = false) := by show _ = _; rw [HE.out, decide_eq_false (kinds_ne HX.out HY.out he)]
          clear he
          go_wp2_with (first | (go_at_call 34; with_reducible refine (H1 _).out.mono ?_; rintro e w1 ⟨rfl, hb⟩; have HB1 := Lib.hid (bel_on (HB.out.alloc HBs.out _) (by simp; have := HBs.out; omega) hb); clear hb) | fail)
          go_ret
          exact ⟨by rw [HRk.out]; rfl, HB1.out⟩
      · have e : k = n := by omega
        have HRk : Hid (R = true) := by
          have h1 := HT.out
          rw [List.take_of_length_le (by rw [← HN.out, e]; exact Nat.le_refl _), List.take_of_length_le (by rw [← HM.out, e]; exact Nat.le_refl _)] at h1
          show _ = _
          rw [HE.out, decide_eq_true h1]
        have hkn : ¬ ((k : Int) < (n : Int)) := by omega
        go_wp2
        go_ret
        exact ⟨by rw [HRk.out]; rfl, HB.out⟩
  · have HRk : Hid (R = false) := by
      show _ = _
      rw [HE.out, decide_eq_false]
      intro h
      have := congrArg List.length h
      rw [List.length_map, ← HN.out, ← HM.out] at this
      exact hnm this
    have hne : ¬ ((n : Int) = (m : Int)) := by omega
    go_enter Tryd.func33, Tryd.ntmps33
    go_wp2
    go_ret
    exact ⟨by rw [HRk.out]; rfl, Below.refl _ _⟩
end Go.Proofs.YtjegfoeempojiaaDoor
