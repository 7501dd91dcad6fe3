/-
  Contracts of Lots.Next, of the document's Next and Right.
-/
import Derived.Test.YtoiiaicjlefclaaLotP
namespace Go.Proofs.Ytoiiaicjlefclaa
open Go.RowKit Go.Deep

set_option maxHeartbeats 800000 in
theorem next_nil (w : World) : Calls Try.prog 16 #[.pointer none] w fun e w' => e = .returned (.int .i64 (-1)) ∧ w = w' := by
  go_enter Try.func16, Try.ntmps16
  go_wp2
  go_ret
  exact ⟨rfl, rfl⟩

theorem nx_less {n d : Int} {x : Lt} (hx : x.2.2.2 = d) (h : n < 0 ∨ d < n) : nxS n x = d := by unfold nxS; rw [hx]; exact if_pos h
theorem nx_same {n d : Int} {x : Lt} (hx : x.2.2.2 = d) (h1 : ¬ n < 0) (h2 : ¬ d < n) : nxS n x = n := by unfold nxS; rw [hx]; exact if_neg (fun h => h.elim h1 h2)

set_option maxHeartbeats 1600000 in
theorem next_any (B b : Nat) (l : List Lt) (v : Value) (w : World) (h : LotsP B w b l v) (hl : l.length ≤ 1000000) :
    Calls Try.prog 16 #[.pointer (some ⟨b, 0, none⟩)] w fun e w' => e = .returned (.int .i64 (nxL l)) ∧ Below w.heap.size w w' := by
  obtain ⟨a, cp, rfl, hrow⟩ := h.row
  have c0 := h.cell
  obtain ⟨n, hn⟩ : ∃ n, n = l.length := ⟨_, rfl⟩
  have HN := Lib.hid hn
  have HR := Lib.hid hrow
  rw [← hn] at hl c0
  clear hn hrow h
  go_enter Try.func16, Try.ntmps16
  go_wp2
  go_loopg [3, 5, 14] n (fun gk z _ i wr => ∃ (k : Nat) (s : Int), k ≤ n ∧ i = .int .i64 k ∧ z = .int .i64 s ∧ n - k ≤ gk ∧ Hid (s = nxL (l.take k)) ∧ Hid (Below w.heap.size w wr))
  case atStart => exact ⟨0, -1, Nat.zero_le _, rfl, rfl, by omega, rfl, Below.refl _ _⟩
  case round =>
    obtain ⟨k, s, hk, rfl, rfl, hgk, HS, HB⟩ := hrel
    by_cases hlt : k < n
    · obtain ⟨x, hx⟩ : ∃ x, l[k]? = some x := ⟨_, List.getElem?_eq_getElem (by rw [← HN.out]; exact hlt)⟩
      obtain ⟨p, c, m, d⟩ := x
      obtain ⟨b1, off, rfl⟩ := HR.out.form (by rw [← HN.out]; omega)
      obtain ⟨f0, f1, f2, f3⟩ := cells4 (HR.out.keep HB.out) hx
      have hkz : (0 : Int) ≤ (k : Int) := by omega
      have hkn : (k : Int) < (n : Int) := by omega
      have HX := Lib.hid (nx_step hx)
      have HBo : Hid (∀ o : Obj, Below w.heap.size w (wr.alloc o)) := fun o => HB.out.alloc HB.out.size o
      clear hx
      by_cases hs : s < 0
      · have HE : Hid (d = nxL (l.take (k + 1))) := by show _ = _; rw [HX.out, ← HS.out]; exact (nx_less (x := (p, c, m, d)) rfl (.inl hs)).symm
        go_wp2
        go_roundg (n - (k + 1))
        case measure => omega
        case rel => exact ⟨k + 1, d, by omega, by go_num, rfl, by omega, HE.out, HBo.out _⟩
      · by_cases hd : d < s
        · have HE : Hid (d = nxL (l.take (k + 1))) := by show _ = _; rw [HX.out, ← HS.out]; exact (nx_less (x := (p, c, m, d)) rfl (.inr hd)).symm
          go_wp2
          go_roundg (n - (k + 1))
          case measure => omega
          case rel => exact ⟨k + 1, d, by omega, by go_num, rfl, by omega, HE.out, HBo.out _⟩
        · have HE : Hid (s = nxL (l.take (k + 1))) := by show _ = _; rw [HX.out, ← HS.out]; exact (nx_same (x := (p, c, m, d)) rfl hs hd).symm
          go_wp2
          go_roundg (n - (k + 1))
          case measure => omega
          case rel => exact ⟨k + 1, s, by omega, by go_num, rfl, by omega, HE.out, HBo.out _⟩
    · have e : n = k := by omega
      have HE : Hid (s = nxL l) := by
        have h := HS.out
        rw [List.take_of_length_le (by rw [← HN.out]; omega)] at h
        exact h
      clear hlt hk
      subst e
      go_wp2
      go_ret
      exact ⟨by rw [HE.out]; first | done | rfl, HB.out⟩

set_option maxHeartbeats 1600000 in
theorem rnext_any (a : Option Addr) (cp : Nat) (l : List Lt) (w : World) (hrow : RowG 4 cLt w a l) (hl : l.length ≤ 1000000) :
    Calls Try.prog 17 #[.slice a l.length cp] w fun e w' => e = .returned (.int .i64 (nxL l)) ∧ w = w' := by
  obtain ⟨n, hn⟩ : ∃ n, n = l.length := ⟨_, rfl⟩
  have HN := Lib.hid hn
  have HR := Lib.hid hrow
  rw [← hn] at hl ⊢
  clear hn hrow
  go_enter Try.func17, Try.ntmps17
  go_wp2
  go_loop [3, 4] (fun z i => ∃ (k : Nat) (s : Int), k ≤ n ∧ i = .int .i64 k ∧ z = .int .i64 s ∧ Hid (s = nxL (l.take k))) (fun _ i => n - (intOf i).toNat)
  case atStart => exact ⟨0, -1, Nat.zero_le _, rfl, rfl, rfl⟩
  case round =>
    obtain ⟨k, s, hk, rfl, rfl, HS⟩ := hrel
    by_cases hlt : k < n
    · obtain ⟨x, hx⟩ : ∃ x, l[k]? = some x := ⟨_, List.getElem?_eq_getElem (by rw [← HN.out]; exact hlt)⟩
      obtain ⟨p, c, m, d⟩ := x
      obtain ⟨b1, off, rfl⟩ := HR.out.form (by rw [← HN.out]; omega)
      obtain ⟨f0, f1, f2, f3⟩ := cells4 HR.out hx
      have hkz : (0 : Int) ≤ (k : Int) := by omega
      have hkn : (k : Int) < (n : Int) := by omega
      have HX := Lib.hid (nx_step hx)
      clear hx
      by_cases hs : s < 0
      · have HE : Hid (d = nxL (l.take (k + 1))) := by show _ = _; rw [HX.out, ← HS.out]; exact (nx_less (x := (p, c, m, d)) rfl (.inl hs)).symm
        go_wp2
        go_round
        case measure => simp [intOf]; omega
        case rel => exact ⟨k + 1, d, by omega, by go_num, rfl, HE.out⟩
      · by_cases hd : d < s
        · have HE : Hid (d = nxL (l.take (k + 1))) := by show _ = _; rw [HX.out, ← HS.out]; exact (nx_less (x := (p, c, m, d)) rfl (.inr hd)).symm
          go_wp2
          go_round
          case measure => simp [intOf]; omega
          case rel => exact ⟨k + 1, d, by omega, by go_num, rfl, HE.out⟩
        · have HE : Hid (s = nxL (l.take (k + 1))) := by show _ = _; rw [HX.out, ← HS.out]; exact (nx_same (x := (p, c, m, d)) rfl hs hd).symm
          go_wp2
          go_round
          case measure => simp [intOf]; omega
          case rel => exact ⟨k + 1, s, by omega, by go_num, rfl, HE.out⟩
    · have e : n = k := by omega
      have HE : Hid (s = nxL l) := by
        have h := HS.out
        rw [List.take_of_length_le (by rw [← HN.out]; omega)] at h
        exact h
      clear hlt hk
      subst e
      go_wp2
      go_ret
      exact ⟨by rw [HE.out]; first | done | rfl, rfl⟩

theorem bad_yes {x : Lt} (h : x.1.length = 0 ∨ x.2.1.length = 0 ∨ x.2.2.1 < 0 ∨ x.2.2.2 < 0) : badLt x = true := decide_eq_true h
theorem bad_no {x : Lt} (h : ¬ (x.1.length = 0 ∨ x.2.1.length = 0 ∨ x.2.2.1 < 0 ∨ x.2.2.2 < 0)) : badLt x = false := decide_eq_false h

set_option maxHeartbeats 1600000 in
theorem right_any (p c : List UInt8) (m d : Int) (w : World) :
    Calls Try.prog 10 #[.agg #[.string (st p), .string (st c), .int .i64 m, .int .i64 d]] w fun e w' => e = .returned (.bool (!badLt (p, c, m, d))) ∧ Below w.heap.size w w' := by
  have HB : Hid (∀ o, Below w.heap.size w (w.alloc o)) := fun o => (Below.refl _ w).alloc (Nat.le_refl _) o
  obtain ⟨R, hR⟩ : ∃ R, R = badLt (p, c, m, d) := ⟨_, rfl⟩
  rw [← hR]
  by_cases h1 : p.length = 0
  · have e1 := st_empty h1
    have e := bad_yes (x := (p, c, m, d)) (.inl h1)
    rw [← hR] at e
    clear hR h1
    subst e
    go_enter Try.func10, Try.ntmps10
    go_wp2
    go_ret
    exact ⟨rfl, HB.out _⟩
  have e1 := st_full h1
  by_cases h2 : c.length = 0
  · have e2 := st_empty h2
    have e := bad_yes (x := (p, c, m, d)) (.inr (.inl h2))
    rw [← hR] at e
    clear hR h1 h2
    subst e
    go_enter Try.func10, Try.ntmps10
    go_wp2
    go_ret
    exact ⟨rfl, HB.out _⟩
  have e2 := st_full h2
  by_cases h3 : m < 0
  · have e := bad_yes (x := (p, c, m, d)) (.inr (.inr (.inl h3)))
    rw [← hR] at e
    clear hR h1 h2
    subst e
    go_enter Try.func10, Try.ntmps10
    go_wp2
    go_ret
    exact ⟨rfl, HB.out _⟩
  by_cases h4 : d < 0
  · have e := bad_yes (x := (p, c, m, d)) (.inr (.inr (.inr h4)))
    have t4 : decide (0 ≤ d) = false := decide_eq_false (by omega)
    rw [← hR] at e
    clear hR h1 h2
    subst e
    go_enter Try.func10, Try.ntmps10
    go_wp2
    go_ret
    exact ⟨rfl, HB.out _⟩
  have e := bad_no (x := (p, c, m, d)) (by simp only; omega)
  have t4 : decide (0 ≤ d) = true := decide_eq_true (by omega)
  rw [← hR] at e
  clear hR h1 h2
  subst e
  go_enter Try.func10, Try.ntmps10
  go_wp2
  go_ret
  exact ⟨rfl, HB.out _⟩
end Go.Proofs.Ytoiiaicjlefclaa
