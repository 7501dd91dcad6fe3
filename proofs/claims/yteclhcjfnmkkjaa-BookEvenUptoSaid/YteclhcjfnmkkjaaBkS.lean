/-
  Contract of soukref07.order.
-/
import Derived.Test.YteclhcjfnmkkjaaBkJ
import Derived.BigQuiet
namespace Go.Proofs.Yteclhcjfnmkkjaa
open Go.RowKit Go.Lib

theorem less_cb : ∀ a b : List UInt8, Op.bytesLess a b = decide (compareBytes a b < 0)
  | [], [] => rfl
  | _ :: _, [] => rfl
  | [], _ :: _ => rfl
  | x :: r, y :: s => by
    unfold Op.bytesLess compareBytes
    by_cases h1 : x < y
    · rw [if_pos h1, decide_eq_true h1]; rfl
    · rw [if_neg h1, decide_eq_false h1]
      by_cases h2 : y < x
      · rw [if_pos h2]
        have : (x == y) = false := by
          rw [beq_eq_false_iff_ne]
          rintro rfl
          rw [UInt8.lt_iff_toNat_lt] at h2; omega
        rw [this]; rfl
      · rw [if_neg h2]
        have : x = y := by
          rw [UInt8.lt_iff_toNat_lt] at h1 h2
          exact UInt8.toNat_inj.1 (by omega)
        rw [this, less_cb r s]; simp

theorem less_st (a b : List UInt8) : Op.bytesLess (st a).toList (st b).toList = decide (compareBytes a b < 0) := by rw [st_tl, st_tl]; exact less_cb a b

/-- an account's texts -/
def lst (a : Ac) : List (List UInt8) := [a.1, a.2.1, a.2.2]
theorem lst_inj {a b : Ac} (h : lst a = lst b) : a = b := by
  obtain ⟨a1, a2, a3⟩ := a
  obtain ⟨b1, b2, b3⟩ := b
  simp only [lst, List.cons.injEq, and_true] at h
  rw [h.1, h.2.1, h.2.2]
theorem cmpA_at {a b : Ac} {k : Nat} (hk : k < 3) (h : (lst a).take k = (lst b).take k) {x y : List UInt8} (hx : (lst a)[k]? = some x) (hy : (lst b)[k]? = some y) (hn : compareBytes x y ≠ 0) : cmpA a b = compareBytes x y := by
  obtain ⟨a1, a2, a3⟩ := a
  obtain ⟨b1, b2, b3⟩ := b
  unfold cmpA
  match k, hk with
  | 0, _ =>
    simp [lst] at hx hy
    rw [hx, hy]; simp [hn]
  | 1, _ =>
    simp [lst] at hx hy h
    rw [h, cb_self, hx, hy]; simp [hn]
  | 2, _ =>
    simp [lst] at hx hy h
    rw [h.1, h.2, cb_self, cb_self, hx, hy]; simp

theorem take_succ_eq {a b : List (List UInt8)} {k : Nat} {x : List UInt8} (ha : a[k]? = some x) (hb : b[k]? = some x) (h : a.take k = b.take k) : a.take (k + 1) = b.take (k + 1) := by
  obtain ⟨ha1, ha2⟩ := List.getElem?_eq_some_iff.1 ha
  obtain ⟨hb1, hb2⟩ := List.getElem?_eq_some_iff.1 hb
  rw [List.take_succ_eq_append_getElem ha1, List.take_succ_eq_append_getElem hb1, h, ha2, hb2]

theorem row3 {w : World} {b : Nat} {t : TypeId} {a : Ac} (h : Blk w b t #[.string (st a.1), .string (st a.2.1), .string (st a.2.2)]) {k : Nat} {x : List UInt8} (hx : (lst a)[k]? = some x) : w.cell? ⟨b, 0 + k, none⟩ = some (.string (st x)) := by
  rw [Nat.zero_add, h.cell k]
  have hk : k < 3 := (List.getElem?_eq_some_iff.1 hx).1
  match k, hk with
  | 0, _ => simp [lst] at hx; rw [hx]; rfl
  | 1, _ => simp [lst] at hx; rw [hx]; rfl
  | 2, _ => simp [lst] at hx; rw [hx]; rfl

theorem stD {w wr : World} (h : Below w.heap.size w wr) (m : Nat) : Below w.heap.size w (wr.drewN m) := ⟨h.os, h.tape, h.output, h.size, h.block⟩

set_option maxHeartbeats 4000000 in
set_option maxRecDepth 100000 in
theorem order_any (x y : Ln) (w : World) : Calls Try.prog 32 #[.agg (cL x).toArray, .agg (cL y).toArray] w fun e w' => e = .returned (.int .i64 (cmpA x.1 y.1)) ∧ Below w.heap.size w w' := by
  obtain ⟨xa, xn⟩ := x
  obtain ⟨ya, yn⟩ := y
  unfold cL
  obtain ⟨w1, hw1⟩ : ∃ w1, w1 = (((w.alloc (.cells #[.string (st xa.1), .string (st xa.2.1), .string (st xa.2.2), .int .i64 xn] 37)).alloc (.cells #[.string (st ya.1), .string (st ya.2.1), .string (st ya.2.2), .int .i64 yn] 37)).alloc (.cells #[.string (st xa.1), .string (st xa.2.1), .string (st xa.2.2)] 9)).alloc (.cells #[.string (st ya.1), .string (st ya.2.1), .string (st ya.2.2)] 9) := ⟨_, rfl⟩
  have HW1 := Lib.hid hw1
  have HB1 : Hid (Below w.heap.size w w1) := by rw [hw1]; exact ((((Below.refl _ w).alloc (Nat.le_refl _) _).alloc (by simp) _).alloc (by simp; omega) _).alloc (by simp; omega) _
  have HX1 : Hid (Blk w1 (w.heap.size + 2) 9 #[.string (st xa.1), .string (st xa.2.1), .string (st xa.2.2)]) := by
    rw [hw1]
    have := Blk.new ((w.alloc (.cells #[.string (st xa.1), .string (st xa.2.1), .string (st xa.2.2), .int .i64 xn] 37)).alloc (.cells #[.string (st ya.1), .string (st ya.2.1), .string (st ya.2.2), .int .i64 yn] 37)) 9 #[.string (st xa.1), .string (st xa.2.1), .string (st xa.2.2)]
    have e : ((w.alloc (.cells #[.string (st xa.1), .string (st xa.2.1), .string (st xa.2.2), .int .i64 xn] 37)).alloc (.cells #[.string (st ya.1), .string (st ya.2.1), .string (st ya.2.2), .int .i64 yn] 37)).heap.size = w.heap.size + 2 := by simp
    rw [e] at this
    exact this.alloc _
  have HY1 : Hid (Blk w1 (w.heap.size + 3) 9 #[.string (st ya.1), .string (st ya.2.1), .string (st ya.2.2)]) := by
    rw [hw1]
    have := Blk.new (((w.alloc (.cells #[.string (st xa.1), .string (st xa.2.1), .string (st xa.2.2), .int .i64 xn] 37)).alloc (.cells #[.string (st ya.1), .string (st ya.2.1), .string (st ya.2.2), .int .i64 yn] 37)).alloc (.cells #[.string (st xa.1), .string (st xa.2.1), .string (st xa.2.2)] 9)) 9 #[.string (st ya.1), .string (st ya.2.1), .string (st ya.2.2)]
    have e : (((w.alloc (.cells #[.string (st xa.1), .string (st xa.2.1), .string (st xa.2.2), .int .i64 xn] 37)).alloc (.cells #[.string (st ya.1), .string (st ya.2.1), .string (st ya.2.2), .int .i64 yn] 37)).alloc (.cells #[.string (st xa.1), .string (st xa.2.1), .string (st xa.2.2)] 9)).heap.size = w.heap.size + 3 := by simp
    rw [e] at this
    exact this
  clear hw1
  go_enter Try.func32, Try.ntmps32
  go_wp2
  rw [← HW1.out]
  clear HW1
  go_loopg [7] 3 (fun gk i wr => ∃ k : Nat, k ≤ 3 ∧ i = .int .i64 k ∧ 3 - k ≤ gk ∧ Hid ((lst xa).take k = (lst ya).take k) ∧ Hid (∃ q, wr = w1.drewN q))
  case atStart => exact ⟨0, Nat.zero_le _, rfl, by omega, rfl, ⟨0, rfl⟩⟩
  case round =>
    obtain ⟨k, hk, rfl, hgk, HE, HD⟩ := hrel
    obtain ⟨q, hq⟩ := HD.out
    subst hq
    by_cases hlt : k < 3
    · obtain ⟨x, hx⟩ : ∃ x, (lst xa)[k]? = some x := ⟨_, List.getElem?_eq_getElem hlt⟩
      obtain ⟨y, hy⟩ : ∃ y, (lst ya)[k]? = some y := ⟨_, List.getElem?_eq_getElem hlt⟩
      have f1 : w1.cell? ⟨w.heap.size + 2, k, none⟩ = some (.string (st x)) := by have := row3 HX1.out hx; rwa [Nat.zero_add] at this
      have f2 : w1.cell? ⟨w.heap.size + 3, k, none⟩ = some (.string (st y)) := by have := row3 HY1.out hy; rwa [Nat.zero_add] at this
      have hkz : (0 : Int) ≤ (k : Int) := by omega
      have hkn : (k : Int) < 3 := by omega
      rcases Int.lt_trichotomy (compareBytes x y) 0 with hc | hc | hc
      · have t1 : Op.bytesLess (st x).toList (st y).toList = true := by rw [less_st]; exact decide_eq_true hc
        have HR : Hid (cmpA xa ya = -1) := by
          have := cmpA_at hlt HE.out hx hy (by omega)
          rcases cb_cases x y with h | h | h <;> (show _ = _; omega)
        clear hx hy hc
        go_wp2
        go_quiet (fail)
        go_wp2
        go_ret
        exact ⟨by rw [HR.out]; rfl, stD (stD HB1.out _) _⟩
      · have hxy := cb_eq hc
        subst hxy
        have t1 : Op.bytesLess (st x).toList (st x).toList = false := by rw [less_st, hc]; rfl
        have HT := Lib.hid (take_succ_eq hx hy HE.out)
        clear hx hy hc
        go_wp2
        go_quiet (fail)
        go_wp2
        go_quiet (fail)
        go_wp2
        go_roundg (3 - (k + 1))
        case measure => omega
        case rel => exact ⟨k + 1, by omega, by go_num, by omega, HT.out, ⟨_, rfl⟩⟩
      · have t1 : Op.bytesLess (st x).toList (st y).toList = false := by rw [less_st]; exact decide_eq_false (by omega)
        have t2 : ((st x).toList == (st y).toList) = false := st_neb (fun e => by rw [e, cb_self] at hc; omega)
        have HR : Hid (cmpA xa ya = 1) := by
          have := cmpA_at hlt HE.out hx hy (by omega)
          rcases cb_cases x y with h | h | h <;> (show _ = _; omega)
        clear hx hy hc
        go_wp2
        go_quiet (fail)
        go_wp2
        go_quiet (fail)
        go_wp2
        go_ret
        exact ⟨by rw [HR.out]; rfl, stD (stD (stD HB1.out _) _) _⟩
    · have e : k = 3 := by omega
      subst e
      have HR : Hid (cmpA xa ya = 0) := by
        have h := HE.out
        have h2 : lst xa = lst ya := by simpa [lst] using h
        rw [lst_inj h2]; exact cmpA_self _
      go_wp2
      go_ret
      exact ⟨by rw [HR.out]; rfl, stD HB1.out _⟩
end Go.Proofs.Yteclhcjfnmkkjaa
