/-
  Contracts of slices.IndexFunc and ContainsFunc of shares at part.rightBehind's test, of rightBehind.
-/
import Derived.Test.YtkflakeocdlinaaGreatDoorMC01
import Derived.Test.YtkflakeocdlinaaGreatDoorMC03
import Derived.Deep.LoopGhost
import Derived.BigQuiet
import Derived.Lib.Hide
namespace Go.Proofs.YtkflakeocdlinaaGreatDoor
open Go.RowKit

set_option maxHeartbeats 400000 in
theorem rbc_any (p q : List UInt8) (m : Int) (b : Nat) (w : World) (hc : w.cell? ⟨b, 0, none⟩ = some (.string (st q))) :
    Calls Tryz.prog 72 #[.agg #[.string (st p), .int .i64 m], .pointer (some ⟨b, 0, none⟩)] w fun e w' => e = .returned (.bool (decide (p = q))) ∧ Below w.heap.size w w' := by
  have hlt := World.block_lt_of_cell? w _ hc
  have hc2 : (w.alloc (.cells #[.string (st p), .int .i64 m] 39)).cell? ⟨b, 0, none⟩ = some (.string (st q)) := by
    rw [World.cell?_alloc_lt _ _ _ hlt]; exact hc
  by_cases h : p = q
  · subst h
    go_enter Tryz.func72, Tryz.ntmps72
    go_wp2
    go_ret
    exact ⟨by simp, (Below.refl _ w).alloc (Nat.le_refl _) _⟩
  · have h1 := st_neb h
    have e : decide (p = q) = false := decide_eq_false h
    rw [e]
    clear h e
    go_enter Tryz.func72, Tryz.ntmps72
    go_wp2
    go_ret
    exact ⟨rfl, (Below.refl _ w).alloc (Nat.le_refl _) _⟩

/-- what slices.IndexFunc answers -/
def IdxPost (q : List UInt8) (xs : List Sh) (w : World) (e : Ending) (w' : World) : Prop := ∃ n : Int, e = .returned (.int .i64 n) ∧ hasP q xs = decide (0 ≤ n) ∧ Below w.heap.size w w'

set_option maxHeartbeats 800000 in
theorem ifShare_any (a : Option Addr) (c : Nat) (xs : List Sh) (q : List UInt8) (b : Nat) (w : World) (hr : RowG 2 cSh w a xs) (hl : xs.length ≤ 100) (hq : w.cell? ⟨b, 0, none⟩ = some (.string (st q))) :
    Calls Tryz.prog 71 #[.slice a xs.length c, .func (.func 72) #[] #[.pointer (some ⟨b, 0, none⟩)]] w (IdxPost q xs w) := by
  obtain ⟨n, hn⟩ : ∃ n, n = xs.length := ⟨_, rfl⟩
  have HN := Lib.hid hn
  have HR := Lib.hid hr
  have HQ := Lib.hid hq
  rw [← hn] at hl ⊢
  clear hn hr hq
  go_enter Tryz.func71, Tryz.ntmps71
  go_wp2
  go_loopg [5, 8] n (fun gk _ i wr => ∃ k : Nat, k ≤ n ∧ i = .int .i64 k ∧ n - k ≤ gk ∧ Hid (∀ (j : Nat) (s : Sh), j < k → xs[j]? = some s → s.1 ≠ q) ∧ Hid (Below w.heap.size w wr))
  case atStart => exact ⟨0, Nat.zero_le _, rfl, by omega, fun j s hj => by omega, Below.refl _ _⟩
  case round =>
    obtain ⟨k, hk, rfl, hgk, HJ, HB⟩ := hrel
    by_cases hlt : k < n
    · obtain ⟨x, hx⟩ : ∃ x, xs[k]? = some x := ⟨_, List.getElem?_eq_getElem (by rw [← HN.out]; exact hlt)⟩
      obtain ⟨p, m⟩ := x
      obtain ⟨b1, off, rfl⟩ := HR.out.form (by rw [← HN.out]; omega)
      have hat := (HR.out.keep HB.out).at hx
      have c0 : wr.cell? ⟨b1, off + k * 2, none⟩ = some (.string (st p)) := by simpa using hat 0 _ rfl
      have c1 : wr.cell? ⟨b1, off + k * 2 + 1, none⟩ = some (.int .i64 m) := hat 1 _ rfl
      have hqr : wr.cell? ⟨b, 0, none⟩ = some (.string (st q)) := by
        rw [HB.out.cell (p := ⟨b, 0, none⟩) (World.block_lt_of_cell? w _ HQ.out)]; exact HQ.out
      have HC := Lib.hid (rbc_any p q m b wr hqr)
      have hkz : (0 : Int) ≤ (k : Int) := by omega
      have hkn : (k : Int) < (n : Int) := by omega
      have HX := Lib.hid hx
      clear hx hat hqr
      by_cases hpq : p = q
      · have t1 : decide (p = q) = true := decide_eq_true hpq
        rw [t1] at HC
        have HP := Lib.hid hpq
        clear t1 hpq
        go_wp2_with fail
        refine HC.out.mono ?_
        rintro e w' ⟨rfl, hb⟩
        have HB2 := Lib.hid (bel_onG HB.out HB.out.size hb)
        clear hb
        go_wp2
        go_ret
        exact ⟨_, rfl, by rw [hasP_some HX.out HP.out]; simp, HB2.out⟩
      · have t1 : decide (p = q) = false := decide_eq_false hpq
        rw [t1] at HC
        have HP := Lib.hid hpq
        clear t1 hpq
        go_wp2_with fail
        refine HC.out.mono ?_
        rintro e w' ⟨rfl, hb⟩
        have HB2 := Lib.hid (bel_onG HB.out HB.out.size hb)
        clear hb
        go_wp2
        go_roundg (n - (k + 1))
        case measure => omega
        case rel =>
          refine ⟨k + 1, by omega, by go_num, by omega, fun j s hj hs => ?_, HB2.out⟩
          by_cases e : j = k
          · subst e
            rw [HX.out] at hs
            injection hs with hs
            subst hs
            exact HP.out
          · exact HJ.out j s (by omega) hs
    · have hkn : ¬ ((k : Int) < (n : Int)) := by omega
      have HK : Hid (k = n) := by show _ = _; omega
      go_wp2
      go_ret
      refine ⟨-1, rfl, ?_, HB.out⟩
      rw [hasP_none (fun j s hs => HJ.out j s (by have := (List.getElem?_eq_some_iff.1 hs).1; rw [HK.out, HN.out]; exact this) hs)]
      rfl

set_option maxHeartbeats 400000 in
theorem cfShare_any (a : Option Addr) (c : Nat) (xs : List Sh) (q : List UInt8) (b : Nat) (w : World) (hr : RowG 2 cSh w a xs) (hl : xs.length ≤ 100) (hq : w.cell? ⟨b, 0, none⟩ = some (.string (st q))) :
    Calls Tryz.prog 47 #[.slice a xs.length c, .func (.func 72) #[] #[.pointer (some ⟨b, 0, none⟩)]] w fun e w' => e = .returned (.bool (hasP q xs)) ∧ Below w.heap.size w w' := by
  have H := Lib.hid (ifShare_any a c xs q b w hr hl hq)
  clear hr hl hq
  go_enter Tryz.func47, Tryz.ntmps47
  go_wp2_with fail
  refine H.out.mono ?_
  rintro e w' ⟨n, rfl, h1, h2⟩
  have H1 := Lib.hid h1
  have H2 := Lib.hid h2
  clear h1 h2
  go_wp2
  go_ret
  exact ⟨by rw [H1.out]; rfl, H2.out⟩

set_option maxHeartbeats 1600000 in
theorem rb_any (p : List UInt8) (m : Int) (a : Option Addr) (c : Nat) (xs : List Sh) (w : World) (hr : RowG 2 cSh w a xs) (hl : xs.length ≤ 100) :
    Calls Tryz.prog 50 #[.agg #[.string (st p), .int .i64 m], .slice a xs.length c] w fun e w' => e = .returned (.int .i64 (rbF (p, m) xs)) ∧ Below w.heap.size w w' := by
  have hsz := st_size p
  have hb1 : Below w.heap.size w (w.alloc (.cells #[.string (st p), .int .i64 m] 39)) := (Below.refl _ w).alloc (Nat.le_refl _) _
  have HB := Lib.hid hb1
  have HC := Lib.hid (cfShare_any a c xs p w.heap.size (w.alloc (.cells #[.string (st p), .int .i64 m] 39)) (hr.keep hb1) hl ((Blk.new w _ _).cell 0))
  have HL : Hid (w.heap.size ≤ (w.alloc (.cells #[.string (st p), .int .i64 m] 39)).heap.size) := hb1.size
  obtain ⟨n, hn⟩ : ∃ n, n = xs.length := ⟨_, rfl⟩
  obtain ⟨R, hR⟩ : ∃ R, R = rbF (p, m) xs := ⟨_, rfl⟩
  obtain ⟨L, hL⟩ : ∃ L, L = p.length := ⟨_, rfl⟩
  rw [← hn] at HC ⊢
  rw [← hR]
  rw [← hL] at hsz
  have HR := Lib.hid hR
  have HLL := Lib.hid hL
  clear hb1 hr hl hn hR hL
  have bad : (L = 0 ∨ 20 < L ∨ m < 1 ∨ 1125899906842624 < m) → Hid (R = 1) := fun h => by
    show _ = _
    rw [HR.out]
    unfold rbF
    rw [show badS (p, m) = true from decide_eq_true (by simp only; rw [← HLL.out]; exact h)]
    rfl
  by_cases h1 : L = 0
  · have HBad := bad (.inl h1)
    subst h1
    clear bad
    go_enter Tryz.func50, Tryz.ntmps50
    go_wp2
    go_ret
    exact ⟨by rw [HBad.out]; first | done | rfl, HB.out⟩
  by_cases h2 : 20 < L
  · have HBad := bad (.inr (.inl h2))
    clear bad
    have t1 : ((L : Int) == 0) = false := by rw [beq_eq_false_iff_ne]; omega
    go_enter Tryz.func50, Tryz.ntmps50
    go_wp2
    go_ret
    exact ⟨by rw [HBad.out]; first | done | rfl, HB.out⟩
  by_cases h3 : m < 1
  · have HBad := bad (.inr (.inr (.inl h3)))
    clear bad
    have t1 : ((L : Int) == 0) = false := by rw [beq_eq_false_iff_ne]; omega
    have t2 : ¬ (20 : Int) < (L : Int) := by omega
    go_enter Tryz.func50, Tryz.ntmps50
    go_wp2
    go_ret
    exact ⟨by rw [HBad.out]; first | done | rfl, HB.out⟩
  by_cases h4 : 1125899906842624 < m
  · have HBad := bad (.inr (.inr (.inr h4)))
    clear bad
    have t1 : ((L : Int) == 0) = false := by rw [beq_eq_false_iff_ne]; omega
    have t2 : ¬ (20 : Int) < (L : Int) := by omega
    go_enter Tryz.func50, Tryz.ntmps50
    go_wp2
    go_ret
    exact ⟨by rw [HBad.out]; first | done | rfl, HB.out⟩
  have t1 : ((L : Int) == 0) = false := by rw [beq_eq_false_iff_ne]; omega
  have t2 : ¬ (20 : Int) < (L : Int) := by omega
  have hg : badS (p, m) = false := decide_eq_false (by simp only; rw [← HLL.out]; omega)
  have HG : Hid (R = if hasP p xs then 9 else 0) := by
    show _ = _
    rw [HR.out]
    unfold rbF
    rw [hg]
    rfl
  clear bad hg h1 h2
  cases hh : hasP p xs with
  | true =>
    rw [hh] at HC
    have HRR : Hid (R = 9) := by show _ = _; rw [HG.out, hh]; rfl
    clear hh
    go_enter Tryz.func50, Tryz.ntmps50
    go_wp2_with (first | (go_at_call 47; (with_reducible refine HC.out.mono ?_); rintro e w2 ⟨rfl, hb2⟩; have HB2 := Lib.hid hb2; clear hb2) | fail)
    go_ret
    exact ⟨by rw [HRR.out]; first | done | rfl, bel_onG HB.out HL.out HB2.out⟩
  | false =>
    rw [hh] at HC
    have HRR : Hid (R = 0) := by show _ = _; rw [HG.out, hh]; rfl
    clear hh
    go_enter Tryz.func50, Tryz.ntmps50
    go_wp2_with (first | (go_at_call 47; (with_reducible refine HC.out.mono ?_); rintro e w2 ⟨rfl, hb2⟩; have HB2 := Lib.hid hb2; clear hb2) | fail)
    go_ret
    exact ⟨by rw [HRR.out]; first | done | rfl, bel_onG HB.out HL.out HB2.out⟩
end Go.Proofs.YtkflakeocdlinaaGreatDoor
