/-
  Contract of part.Right.
-/
import Derived.Test.YtkflakeocdlinaaGreatDoorPtAMP
import Derived.Deep.RegionHeld3
namespace Go.Proofs.YtkflakeocdlinaaGreatDoor
open Go.RowKit Go.Deep

theorem rgF_bad {l : List Sh} (h : l.length = 0 ∨ 8 < l.length) : rgF l = 1 := if_pos h
theorem rgF_few {l : List Sh} (h : ¬ (l.length = 0 ∨ 8 < l.length)) : rgF l = rgTo l l.length := if_neg h

/-- two cells of a new block -/
theorem cells2 {w : World} {b : Nat} {t : TypeId} {u0 u1 : Value} (h : Blk w b t #[u0, u1]) : w.cell? ⟨b, 0, none⟩ = some u0 ∧ w.cell? ⟨b, 1, none⟩ = some u1 := ⟨h.cell 0, h.cell 1⟩

set_option maxHeartbeats 400000 in
theorem right_bad (a : Option Addr) (c n : Nat) (w : World) (h : n = 0 ∨ 8 < n) :
    Calls Tryz.prog 23 #[.slice a n c] w fun e w' => e = .returned (.int .i64 1) ∧ Below w.heap.size w w' := by
  rcases h with h | h
  · subst h
    go_enter Tryz.func23, Tryz.ntmps23
    go_wp2
    go_ret
    exact ⟨rfl, Below.refl _ w⟩
  · have t1 : ((n : Int) == 0) = false := by rw [beq_eq_false_iff_ne]; omega
    go_enter Tryz.func23, Tryz.ntmps23
    go_wp2
    go_ret
    exact ⟨rfl, Below.refl _ w⟩

set_option maxHeartbeats 4000000 in
set_option maxRecDepth 100000 in
theorem right_few (a : Option Addr) (c : Nat) (xs : List Sh) (w : World) (hr : RowG 2 cSh w a xs) (hc : xs.length ≤ c) (h0 : 0 < xs.length) (h8 : xs.length ≤ 8) :
    Calls Tryz.prog 23 #[.slice a xs.length c] w fun e w' => e = .returned (.int .i64 (rgTo xs xs.length)) ∧ Below w.heap.size w w' := by
  obtain ⟨n, hn⟩ : ∃ n, n = xs.length := ⟨_, rfl⟩
  obtain ⟨R, hR⟩ : ∃ R, R = rgTo xs xs.length := ⟨_, rfl⟩
  rw [← hR]
  have HN := Lib.hid hn
  have HRR := Lib.hid hR
  have HR := Lib.hid hr
  rw [← hn] at hc h0 h8 ⊢
  have t1 : ((n : Int) == 0) = false := by rw [beq_eq_false_iff_ne]; omega
  have t2 : ¬ (8 : Int) < (n : Int) := by omega
  have hc0 : 0 < c := by omega
  clear hn hR hr
  go_enter Tryz.func23, Tryz.ntmps23
  go_wp2
  go_loopg [3, 4, 5, 16] n (fun gk _ _ _ i wr => ∃ k : Nat, k ≤ n ∧ i = .int .i64 k ∧ n - k ≤ gk ∧ Hid (rgTo xs k = 0) ∧ Hid (Below w.heap.size w wr))
  case atStart => exact ⟨0, Nat.zero_le _, rfl, by omega, rfl, Below.refl _ _⟩
  case round =>
    obtain ⟨k, hk, rfl, hgk, HZ, HB⟩ := hrel
    by_cases hlt : k < n
    · obtain ⟨x, hx⟩ : ∃ x, xs[k]? = some x := ⟨_, List.getElem?_eq_getElem (by rw [← HN.out]; exact hlt)⟩
      obtain ⟨p, m⟩ := x
      obtain ⟨b1, off, rfl⟩ := HR.out.form (by rw [← HN.out]; omega)
      have hrow := HR.out.keep HB.out
      have hat := hrow.at hx
      have c0 : wr.cell? ⟨b1, off + k * 2, none⟩ = some (.string (st p)) := by simpa using hat 0 _ rfl
      have c1 : wr.cell? ⟨b1, off + k * 2 + 1, none⟩ = some (.int .i64 m) := hat 1 _ rfl
      obtain ⟨E, hE⟩ : ∃ E, E = rbF (p, m) (xs.take k) := ⟨_, rfl⟩
      have hlk : (xs.take k).length = k := by rw [List.length_take, ← HN.out]; omega
      have HF : ∀ W, Below wr.heap.size wr W → Calls Tryz.prog 50 #[.agg #[.string (st p), .int .i64 m], .slice (some ⟨b1, off, none⟩) k c] W fun e w' => e = .returned (.int .i64 E) ∧ Below W.heap.size W w' := fun W hW => by
        have := rb_any p m (some ⟨b1, off, none⟩) c (xs.take k) W ((hrow.keep hW).take k) (by rw [hlk]; omega)
        rw [hlk, ← hE] at this
        exact this
      have HF := Lib.hid HF
      have HNX : Hid (rgTo xs (k + 1) = E) := by show _ = _; rw [rgTo_next HZ.out hx, hE]
      have hkz : (0 : Int) ≤ (k : Int) := by omega
      have hkn : (k : Int) < (n : Int) := by omega
      have hkc : (k : Int) ≤ (c : Int) := by omega
      clear hx hat hrow hE hlk
      go_wp2_with fail
      have hbx := Blk.new wr 39 #[.string (st p), .int .i64 m]
      have hbd : Below wr.heap.size wr (wr.alloc (.cells #[.string (st p), .int .i64 m] 39)) := (Below.refl _ wr).alloc (Nat.le_refl _) _
      obtain ⟨X, hX⟩ : ∃ X, X = wr.heap.size := ⟨_, rfl⟩
      rw [← hX] at hbx ⊢
      generalize wr.alloc (.cells #[.string (st p), .int .i64 m] 39) = wc at hbx hbd ⊢
      have HBD : Hid (Below wr.heap.size wr wc.drew) := hbd.drew
      have k0 : wc.drew.cell? ⟨X, 0, none⟩ = some (.string (st p)) ∧ wc.drew.cell? ⟨X, 1, none⟩ = some (.int .i64 m) := cells2 (w := wc.drew) (t := 39) hbx
      have HF1 := Lib.hid (HF.out _ HBD.out)
      have HBX : Hid (Blk wc.drew X 39 #[.string (st p), .int .i64 m]) := hbx
      clear c0 c1 hbx hbd hX
      go_region_held3 (fun w' => w'.cell? ⟨X, 0, none⟩ = some (.string (st p)) ∧ w'.cell? ⟨X, 1, none⟩ = some (.int .i64 m))
        (first | with_reducible exact k0 | with_reducible exact k1 | go_keep)
        (first
          | (go_at_call 50; ((with_reducible refine HF1.out.mono ?_); rintro e w1 ⟨rfl, hb1⟩; have k1 := cells2 (HBX.out.since hb1))))
      have HB2 := Lib.hid (bel_onG HB.out HB.out.size (bel_onG HBD.out HBD.out.size hb1))
      clear hb1 k0 k1
      by_cases hE : E = 0
      · have HE0 : Hid (rgTo xs (k + 1) = 0) := by show _ = _; rw [HNX.out, hE]
        subst hE
        go_wp2
        go_roundg (n - (k + 1))
        case measure => omega
        case rel => exact ⟨k + 1, by omega, by go_num, by omega, HE0, HB2.out⟩
      · have t3 : (E != 0) = true := by rw [bne_iff_ne]; exact hE
        have HRE : Hid (R = E) := by
          show _ = _
          have h1 := HNX.out
          have h2 : rgTo xs xs.length = rgTo xs (k + 1) := rgTo_from (by rw [h1]; exact hE) (by rw [← HN.out]; omega)
          rw [HRR.out, h2, h1]
        clear hE
        go_wp2
        go_ret
        exact ⟨by rw [HRE.out]; first | done | rfl, HB2.out⟩
    · have hkn : ¬ ((k : Int) < (n : Int)) := by omega
      have HK : Hid (R = 0) := by show _ = _; rw [HRR.out, ← HN.out, ← show k = n by omega]; exact HZ.out
      go_wp2
      go_ret
      exact ⟨by rw [HK.out]; first | done | rfl, HB.out⟩

theorem right_any (a : Option Addr) (c : Nat) (xs : List Sh) (w : World) (hr : RowG 2 cSh w a xs) (hc : xs.length ≤ c) :
    Calls Tryz.prog 23 #[.slice a xs.length c] w fun e w' => e = .returned (.int .i64 (rgF xs)) ∧ Below w.heap.size w w' := by
  by_cases h : xs.length = 0 ∨ 8 < xs.length
  · rw [rgF_bad h]
    exact right_bad a c xs.length w h
  · rw [rgF_few h]
    exact right_few a c xs w hr hc (by omega) (by omega)
end Go.Proofs.YtkflakeocdlinaaGreatDoor
