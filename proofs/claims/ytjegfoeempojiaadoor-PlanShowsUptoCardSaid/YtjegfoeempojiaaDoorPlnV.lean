/-
  Contract of slices.Equal of rules.
-/
import Derived.Test.YtjegfoeempojiaaDoorPlnR
import Derived.Laws.StructEq
import Derived.BigQuiet
namespace Go.Proofs.YtjegfoeempojiaaDoor
open Go.RowKit Go.Maps

theorem bel_drewN' {B n : Nat} {w w' : World} (h : Below B w w') : Below B w (w'.drewN n) := ⟨h.os, h.tape, h.output, h.size, h.block⟩

theorem cells4 {α : Type} {c : α → List Value} {w : World} {b off : Nat} {xs : List α} (h : RowK c w (some ⟨b, off, none⟩) xs) {k : Nat} {x : α} {u0 u1 u2 u3 : Value} (hx : xs[k]? = some x) (hc : c x = [u0, u1, u2, u3]) :
    w.cell? ⟨b, off + k * 4, none⟩ = some u0 ∧ w.cell? ⟨b, off + k * 4 + 1, none⟩ = some u1 ∧ w.cell? ⟨b, off + k * 4 + 2, none⟩ = some u2 ∧ w.cell? ⟨b, off + k * 4 + 3, none⟩ = some u3 := by
  have := h.at hx
  rw [hc] at this
  exact ⟨by simpa using this 0 _ rfl, this 1 _ rfl, this 2 _ rfl, this 3 _ rfl⟩

theorem take_step {α : Type} {l1 l2 : List α} {k : Nat} {x : α} (h : l1.take k = l2.take k) (h1 : l1[k]? = some x) (h2 : l2[k]? = some x) : l1.take (k + 1) = l2.take (k + 1) := by
  obtain ⟨a1, b1⟩ := List.getElem?_eq_some_iff.1 h1
  obtain ⟨a2, b2⟩ := List.getElem?_eq_some_iff.1 h2
  rw [List.take_succ_eq_append_getElem a1, List.take_succ_eq_append_getElem a2, h, b1, b2]
theorem ne_at {α : Type} {l1 l2 : List α} {k : Nat} {x y : α} (h1 : l1[k]? = some x) (h2 : l2[k]? = some y) (hne : x ≠ y) : l1 ≠ l2 := by
  intro e
  subst e
  rw [h1] at h2
  injection h2 with h2
  exact hne h2

set_option maxHeartbeats 4000000 in
set_option maxRecDepth 100000 in
theorem equalRule_any (a1 a2 : Option Addr) (c1 c2 : Nat) (l1 l2 : List Rl) (w : World) (h1 : RowK cR w a1 l1) (h2 : RowK cR w a2 l2) (hl1 : l1.length ≤ 1000000000) (hl2 : l2.length ≤ 1000000000) :
    Calls Tryd.prog 10 #[.slice a1 l1.length c1, .slice a2 l2.length c2] w fun e w' => e = .returned (.bool (decide (l1 = l2))) ∧ Below w.heap.size w w' := by
  obtain ⟨n, hn⟩ : ∃ n, n = l1.length := ⟨_, rfl⟩
  obtain ⟨m, hm⟩ : ∃ m, m = l2.length := ⟨_, rfl⟩
  have HN := Lib.hid hn
  have HM := Lib.hid hm
  have HR1 := Lib.hid h1
  have HR2 := Lib.hid h2
  rw [← hn] at hl1 ⊢
  rw [← hm] at hl2 ⊢
  obtain ⟨R, hE⟩ : ∃ R : Bool, R = decide (l1 = l2) := ⟨_, rfl⟩
  have HE := Lib.hid hE
  rw [← hE]
  clear hn hm h1 h2 hE
  by_cases hnm : n = m
  · subst hnm
    go_enter Tryd.func10, Tryd.ntmps10
    go_wp2
    go_loopg [5, 13] n (fun gk _ i wr => ∃ k : Nat, k ≤ n ∧ i = .int .i64 k ∧ n - k ≤ gk ∧ Hid (l1.take k = l2.take k) ∧ Hid (Below w.heap.size w wr))
    case atStart => exact ⟨0, Nat.zero_le _, rfl, by omega, rfl, Below.refl _ _⟩
    case round =>
      obtain ⟨k, hk, rfl, hgk, HT, HB⟩ := hrel
      by_cases hlt : k < n
      case' pos =>
        obtain ⟨x, hx⟩ : ∃ x, l1[k]? = some x := ⟨_, List.getElem?_eq_getElem (by rw [← HN.out]; exact hlt)⟩
        obtain ⟨y, hy⟩ : ∃ y, l2[k]? = some y := ⟨_, List.getElem?_eq_getElem (by rw [← HM.out]; exact hlt)⟩
        obtain ⟨k1, n1, N1, R1⟩ := x
        obtain ⟨k2, n2, N2, R2⟩ := y
        obtain ⟨b1, off1, rfl⟩ := HR1.out.form (by rw [← HN.out]; omega)
        obtain ⟨b2, off2, rfl⟩ := HR2.out.form (by rw [← HM.out]; omega)
        obtain ⟨f0, f1, f2, f3⟩ := cells4 (HR1.out.keep HB.out) hx rfl
        obtain ⟨g0, g1, g2, g3⟩ := cells4 (HR2.out.keep HB.out) hy rfl
        have hkz : (0 : Int) ≤ (k : Int) := by omega
        have hkn : (k : Int) < (n : Int) := by omega
        have HX := Lib.hid hx
        have HY := Lib.hid hy
        clear hx hy
        have HNE : Hid ((k1, n1, N1, R1) ≠ (k2, n2, N2, R2) → R = false) := fun hne => by rw [HE.out]; exact decide_eq_false (ne_at HX.out HY.out hne)
        by_cases e1 : k1 = k2
        · subst e1
          by_cases e2 : n1 = n2
          · subst e2
            by_cases e3 : N1 = N2
            · subst e3
              by_cases e4 : R1 = R2
              · subst e4
                have HS := Lib.hid (take_step HT.out HX.out HY.out)
                go_wp2
                go_quiet (fail)
                go_wp2
                go_roundg (n - (k + 1))
                case measure => omega
                case rel => exact ⟨k + 1, by omega, by go_num, by omega, HS, bel_drewN' HB.out⟩
              · have HF : Hid (R = false) := HNE.out (by simp [e4])
                have t4 : (R1 == R2) = false := by simpa using e4
                go_wp2
                go_quiet (fail)
                go_wp2
                go_ret
                exact ⟨by rw [HF.out]; rfl, bel_drewN' HB.out⟩
            · have HF : Hid (R = false) := HNE.out (by simp [e3])
              have t3 : (N1 == N2) = false := by simpa using e3
              go_wp2
              go_quiet (fail)
              go_wp2
              go_ret
              exact ⟨by rw [HF.out]; rfl, bel_drewN' HB.out⟩
          · have HF : Hid (R = false) := HNE.out (by simp [e2])
            have t2 := st_neb e2
            go_wp2
            go_quiet (fail)
            go_wp2
            go_ret
            exact ⟨by rw [HF.out]; rfl, bel_drewN' HB.out⟩
        · have HF : Hid (R = false) := HNE.out (by simp [e1])
          have t1 := st_neb e1
          go_wp2
          go_quiet (fail)
          go_wp2
          go_ret
          exact ⟨by rw [HF.out]; rfl, bel_drewN' HB.out⟩
      case neg =>
        have e : k = n := by omega
        have HRk : Hid (R = true) := by
          have h1 := HT.out
          rw [List.take_of_length_le (by rw [← HN.out, e]; exact Nat.le_refl _), List.take_of_length_le (by rw [← HM.out, e]; exact Nat.le_refl _)] at h1
          show _ = _
          rw [HE.out, decide_eq_true h1]
        have hkn : ¬ ((k : Int) < (n : Int)) := by omega
        go_wp2
        go_ret
        exact ⟨by rw [HRk.out]; rfl, HB.out⟩
  · have HRk : Hid (R = false) := by
      show _ = _
      rw [HE.out, decide_eq_false]
      intro h
      have := congrArg List.length h
      rw [← HN.out, ← HM.out] at this
      exact hnm this
    have hne : ¬ ((n : Int) = (m : Int)) := by omega
    go_enter Tryd.func10, Tryd.ntmps10
    go_wp2
    go_ret
    exact ⟨by rw [HRk.out]; rfl, Below.refl _ _⟩
end Go.Proofs.YtjegfoeempojiaaDoor
