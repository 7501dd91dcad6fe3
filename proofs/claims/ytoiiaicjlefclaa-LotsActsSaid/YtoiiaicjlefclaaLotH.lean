/-
  Contracts of Lots.Held, All, Clone.
-/
import Derived.Test.YtoiiaicjlefclaaLotA
namespace Go.Proofs.Ytoiiaicjlefclaa
open Go.RowKit Go.Deep

set_option maxHeartbeats 800000 in
theorem held_nil (x y : Value) (w : World) : Calls Try.prog 13 #[.pointer none, x, y] w fun e w' => e = .returned (.tuple #[.int .i64 0, .int .i64 0]) ∧ w = w' := by
  go_enter Try.func13, Try.ntmps13
  go_wp2
  go_ret2
  exact ⟨rfl, rfl⟩

set_option maxHeartbeats 800000 in
theorem all_nil (w : World) : Calls Try.prog 15 #[.pointer none] w fun e w' => e = .returned (.slice none 0 0) ∧ w = w' := by
  go_enter Try.func15, Try.ntmps15
  go_wp2
  go_ret
  exact ⟨rfl, rfl⟩

set_option maxHeartbeats 800000 in
theorem cloneL_nil (w : World) : Calls Try.prog 5 #[.pointer none] w fun e w' => e = .returned (.pointer none) ∧ w = w' := by
  go_enter Try.func5, Try.ntmps5
  go_wp2
  go_ret
  exact ⟨rfl, rfl⟩

set_option maxHeartbeats 800000 in
theorem all_any (B b : Nat) (l : List Lt) (v : Value) (w : World) (h : LotsP B w b l v) (hl : l.length ≤ 1000000) :
    Calls Try.prog 15 #[.pointer (some ⟨b, 0, none⟩)] w (ClnP 30 l w) := by
  obtain ⟨a, cp, rfl, hrow⟩ := h.row
  have c0 := h.cell
  have H := Lib.hid (cloneLot_any a cp l w hrow hl)
  unfold ClnP at H ⊢
  obtain ⟨n, hn⟩ : ∃ n, n = l.length := ⟨_, rfl⟩
  rw [← hn] at H c0 ⊢
  clear hn hrow h hl
  go_enter Try.func15, Try.ntmps15
  go_wp2_with fail
  refine H.out.mono ?_
  rintro e w1 ⟨A, c, rfl, hown, hb⟩
  have HX := Lib.hid (And.intro hown hb)
  clear hown hb H
  go_wp2
  go_ret
  exact ⟨A, c, rfl, HX.out.1, HX.out.2⟩

/-- lots of their own, in a new box -/
def CloneP (l : List Lt) (w : World) (e : Ending) (w' : World) : Prop :=
  ∃ g v, e = .returned (.pointer (some ⟨g, 0, none⟩)) ∧ LotsP w.heap.size w' g l v ∧ Below w.heap.size w w'

set_option maxHeartbeats 800000 in
theorem cloneL_any (B b : Nat) (l : List Lt) (v : Value) (w : World) (h : LotsP B w b l v) (hl : l.length ≤ 1000000) :
    Calls Try.prog 5 #[.pointer (some ⟨b, 0, none⟩)] w (CloneP l w) := by
  have H := all_any B b l v w h hl
  unfold ClnP at H
  have HK : Hid (∀ (w1 : World) (A : Option Addr) (c : Nat), w1.ownsRow w.heap.size 30 4 (.slice A l.length c) l.length (l.flatMap cLt) → Below w.heap.size w w1 → CloneP l w (.returned (.pointer (some ⟨w1.heap.size, 0, none⟩))) (w1.alloc (.cells #[.slice A l.length c] 27))) :=
    fun w1 A c h1 h2 => ⟨w1.heap.size, .slice A l.length c, rfl, ⟨h2.size, Blk.new w1 _ _, h1.alloc _⟩, h2.alloc h2.size _⟩
  obtain ⟨n, hn⟩ : ∃ n, n = l.length := ⟨_, rfl⟩
  rw [← hn] at H HK
  have HH := Lib.hid H
  clear hn h hl H
  go_enter Try.func5, Try.ntmps5
  go_wp2_with fail
  refine HH.out.mono ?_
  rintro e w1 ⟨A, c, rfl, hown, hb⟩
  have HX := Lib.hid (HK.out w1 A c hown hb)
  clear hown hb HH HK
  go_wp2
  go_ret
  exact HX.out

set_option maxHeartbeats 1600000 in
theorem held_any (B b : Nat) (l : List Lt) (v : Value) (p c : List UInt8) (w : World) (h : LotsP B w b l v) (hz : ∀ x ∈ l, AmtL x) (hl : l.length ≤ 1000000) :
    Calls Try.prog 13 #[.pointer (some ⟨b, 0, none⟩), .string (st p), .string (st c)] w fun e w' => e = .returned (.tuple #[.int .i64 ((sumTo 0 (mineL p c l)).getD 0), .int .i64 (overE (sumTo 0 (mineL p c l)).isSome)]) ∧ Below w.heap.size w w' := by
  obtain ⟨a, cp, rfl, hrow⟩ := h.row
  have c0 := h.cell
  have HML := Lib.hid (mine_length p c l)
  have HAdd : Hid (∀ (wr : World) (A : Option Addr) (cA : Nat), wr.ownsRow w.heap.size 2 1 (.slice A (mineL p c l).length cA) (mineL p c l).length (iv (mineL p c l)) → Calls Try.prog 18 #[.slice A (mineL p c l).length cA] wr fun e w' => e = .returned (.tuple #[.int .i64 ((sumTo 0 (mineL p c l)).getD 0), .int .i64 (overE (sumTo 0 (mineL p c l)).isSome)]) ∧ wr = w') :=
    fun wr A cA ho => Add_any A cA (mineL p c l) wr (RowI.of_own ho) (mine_amt hz) (by have := mine_length p c l; unfold maxLen; omega)
  obtain ⟨n, hn⟩ : ∃ n, n = l.length := ⟨_, rfl⟩
  have HN := Lib.hid hn
  have HR := Lib.hid hrow
  rw [← hn] at hl c0
  obtain ⟨S, hS⟩ : ∃ S, S = (sumTo 0 (mineL p c l)).getD 0 := ⟨_, rfl⟩
  obtain ⟨E, hE⟩ : ∃ E, E = overE (sumTo 0 (mineL p c l)).isSome := ⟨_, rfl⟩
  rw [← hS, ← hE] at HAdd ⊢
  clear hn hrow h hz hS hE
  go_enter Try.func13, Try.ntmps13
  go_wp2
  go_loopg [8, 10, 18] n (fun gk o _ i wr => ∃ (k m : Nat) (v : Value), k ≤ n ∧ i = .int .i64 k ∧ v = o ∧ n - k ≤ gk ∧ m ≤ k ∧ Hid (m = (mineL p c (l.take k)).length) ∧ Hid (wr.ownsRow w.heap.size 2 1 v m (iv (mineL p c (l.take k)))) ∧ Hid (Below w.heap.size w wr))
  case atStart => exact ⟨0, 0, _, Nat.zero_le _, rfl, rfl, by omega, Nat.le_refl _, rfl, World.ownsRow_nil _ _ _ _, Below.refl _ _⟩
  case round =>
    obtain ⟨k, m, v, hk, rfl, rfl, hgk, hmk, HM, HOW, HB⟩ := hrel
    by_cases hlt : k < n
    · obtain ⟨x, hx⟩ : ∃ x, l[k]? = some x := ⟨_, List.getElem?_eq_getElem (by rw [← HN.out]; exact hlt)⟩
      obtain ⟨p2, c2, y, d⟩ := x
      obtain ⟨b1, off, rfl⟩ := HR.out.form (by rw [← HN.out]; omega)
      obtain ⟨f0, f1, f2, f3⟩ := cells4 (HR.out.keep HB.out) hx
      have hkz : (0 : Int) ≤ (k : Int) := by omega
      have hkn : (k : Int) < (n : Int) := by omega
      have HBo : Hid (∀ o : Obj, Below w.heap.size w (wr.alloc o)) := fun o => HB.out.alloc HB.out.size o
      have HOo : Hid (∀ o : Obj, (wr.alloc o).ownsRow w.heap.size 2 1 v m (iv (mineL p c (l.take k)))) := fun o => HOW.out.alloc o
      by_cases h1 : p2 = p
      · by_cases h2 : c2 = c
        · have HY := Lib.hid (mine_yes (p := p) (c := c) hx h1 h2)
          subst h1
          subst h2
          clear hx
          go_wp2_with (first | (at_builtin; refine wpList_append_one rfl (.tmp 32) (.tmp 35) 44 rfl w.heap.size 2 (.int .i64 0) 8 Try.underlying44 infoI64 rfl _ (.int .i64 y) rfl v m _ rfl (new_at _ _) (HOo.out _) (HBo.out _).size (by unfold maxLen; omega) (by omega) ?_; intro v5 w5 h1 h2; have HO5 := Lib.hid h1; have HB5 : Hid (Below w.heap.size w w5) := (HBo.out _).trans h2; clear h1 h2) | fail)
          go_roundg (n - (k + 1))
          case measure => omega
          case rel => exact ⟨k + 1, m + 1, v5, by omega, by go_num, rfl, by omega, by omega, by show _ = _; rw [HY.out, List.length_append, ← HM.out]; rfl, by rw [HY.out]; have h := HO5.out; unfold iv at h ⊢; rw [List.map_append]; exact h, HB5.out⟩
        · have HY := Lib.hid (mine_no (p := p) (c := c) hx (.inr h2))
          subst h1
          have hne := st_neb h2
          clear hx h2
          go_wp2
          go_roundg (n - (k + 1))
          case measure => omega
          case rel => exact ⟨k + 1, m, v, by omega, by go_num, rfl, by omega, by omega, by show _ = _; rw [HY.out]; exact HM.out, by rw [HY.out]; exact HOo.out _, HBo.out _⟩
      · have HY := Lib.hid (mine_no (p := p) (c := c) hx (.inl h1))
        have hne := st_neb h1
        clear hx h1
        go_wp2
        go_roundg (n - (k + 1))
        case measure => omega
        case rel => exact ⟨k + 1, m, v, by omega, by go_num, rfl, by omega, by omega, by show _ = _; rw [HY.out]; exact HM.out, by rw [HY.out]; exact HOo.out _, HBo.out _⟩
    · have e : n = k := by omega
      have HTK : Hid (l.take k = l) := List.take_of_length_le (by rw [← HN.out]; omega)
      have hm := HM.out
      have ho := HOW.out
      rw [HTK.out] at hm ho
      obtain ⟨A, cA, rfl⟩ := own_sliceG ho
      have h1 := HAdd.out wr A cA (by rw [← hm]; exact ho)
      rw [← hm] at h1
      have H1 := Lib.hid h1
      clear hlt hk h1 hm ho HOW HM HAdd
      subst e
      go_wp2_with fail
      refine H1.out.mono ?_
      rintro e w1 ⟨rfl, rfl⟩
      go_wp2
      go_ret2
      exact ⟨rfl, HB.out⟩
end Go.Proofs.Ytoiiaicjlefclaa
