/-
  Contract of soukref03.equal.
-/
import Derived.Test.YtbpklikmldpeiaaBlkGMA
namespace Go.Proofs.Ytbpklikmldpeiaa
open Go.RowKit

theorem below_drewN4 {B : Nat} {a w : World} (h : Below B a w) (n : Nat) : Below B a (w.drewN n) := ⟨h.os, h.tape, h.output, h.size, h.block⟩

theorem take_eq_step {a b : List (List UInt8)} {k : Nat} {x y : List UInt8} (ha : a[k]? = some x) (hb : b[k]? = some y) (h : a.take k = b.take k) (e : x = y) : a.take (k + 1) = b.take (k + 1) := by
  obtain ⟨ha1, ha2⟩ := List.getElem?_eq_some_iff.1 ha
  obtain ⟨hb1, hb2⟩ := List.getElem?_eq_some_iff.1 hb
  rw [List.take_succ_eq_append_getElem ha1, List.take_succ_eq_append_getElem hb1, h, ha2, hb2, e]

set_option maxHeartbeats 1000000 in
theorem r4equal_any (a1 a2 : Option Addr) (c1 c2 n : Nat) (xs ys : List (List UInt8)) (w : World) (h1 : RowS w a1 xs) (h2 : RowS w a2 ys) (hx : xs.length = n) (hy : ys.length = n) (hn : n ≤ 9223372036854775807) :
    Calls Try.prog 62 #[.slice a1 n c1, .slice a2 n c2] w fun e w' => e = .returned (.bool (decide (xs = ys))) ∧ Below w.heap.size w w' := by
  have HX := Lib.hid hx
  have HY := Lib.hid hy
  have HR1 := Lib.hid h1
  have HR2 := Lib.hid h2
  clear hx hy h1 h2
  go_enter Try.func62, Try.ntmps62
  go_wp2
  go_loopg [5] n (fun gk i wr => ∃ k : Nat, k ≤ n ∧ i = .int .i64 k ∧ n - k ≤ gk ∧ Hid (xs.take k = ys.take k) ∧ Hid (Below w.heap.size w wr))
  case atStart => exact ⟨0, Nat.zero_le _, rfl, by omega, rfl, Below.refl _ _⟩
  case round =>
    obtain ⟨k, hk, rfl, hgk, HE, HB⟩ := hrel
    by_cases hlt : k < n
    · have hxl : k < xs.length := by rw [HX.out]; exact hlt
      have hyl : k < ys.length := by rw [HY.out]; exact hlt
      obtain ⟨b1, o1, rfl, hc1⟩ := HR1.out (by omega)
      obtain ⟨b2, o2, rfl, hc2⟩ := HR2.out (by omega)
      obtain ⟨x, hx⟩ : ∃ x, xs[k]? = some x := ⟨_, List.getElem?_eq_getElem hxl⟩
      obtain ⟨y, hy⟩ : ∃ y, ys[k]? = some y := ⟨_, List.getElem?_eq_getElem hyl⟩
      have d1 := (HR1.out.keep HB.out)
      have e1 := hc1 k x hx
      have e2 := hc2 k y hy
      have f1 : wr.cell? ⟨b1, o1 + k, none⟩ = some (.string (st x)) := by rw [HB.out.cell (p := ⟨b1, o1 + k, none⟩) (World.block_lt_of_cell? w _ e1)]; exact e1
      have f2 : wr.cell? ⟨b2, o2 + k, none⟩ = some (.string (st y)) := by rw [HB.out.cell (p := ⟨b2, o2 + k, none⟩) (World.block_lt_of_cell? w _ e2)]; exact e2
      have hkz : (0 : Int) ≤ (k : Int) := by omega
      have hkn : (k : Int) < (n : Int) := by omega
      have HXk := Lib.hid hx
      have HYk := Lib.hid hy
      have HD := fun m => Lib.hid (below_drewN4 HB.out m)
      by_cases hxy : x = y
      · have HT := Lib.hid (take_eq_step hx hy HE.out hxy)
        subst hxy
        clear hc1 hc2 hx hy e1 e2 d1 hxl hyl
        go_wp2
        go_quiet (fail)
        go_wp2
        go_roundg (n - (k + 1))
        case measure => omega
        case rel => exact ⟨k + 1, by omega, by go_num, by omega, HT.out, HD _⟩
      · have hne := st_neb hxy
        have hd : decide (xs = ys) = false := decide_eq_false (fun e => by
          rw [e, HYk.out] at hx
          injection hx with hx
          exact hxy hx.symm)
        have HDE := Lib.hid hd
        clear hc1 hc2 hx hy e1 e2 d1 hxl hyl hd
        go_wp2
        go_quiet (fail)
        go_wp2
        go_ret
        exact ⟨by rw [HDE.out]; rfl, HD _⟩
    · have e : k = n := by omega
      subst e
      have hd : xs = ys := by
        have := HE.out
        rwa [List.take_of_length_le (by rw [HX.out]; omega), List.take_of_length_le (by rw [HY.out]; omega)] at this
      have HDE := Lib.hid (show decide (xs = ys) = true from decide_eq_true hd)
      clear hd
      go_wp2
      go_ret
      exact ⟨by rw [HDE.out]; rfl, HB.out⟩
end Go.Proofs.Ytbpklikmldpeiaa
