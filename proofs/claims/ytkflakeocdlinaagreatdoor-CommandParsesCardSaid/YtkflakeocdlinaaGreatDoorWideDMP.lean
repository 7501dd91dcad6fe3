/-
  Contract of soukref01's minus.
-/
import Derived.Test.YtkflakeocdlinaaGreatDoorWideCMP
namespace Go.Proofs.YtkflakeocdlinaaGreatDoor
open Go.RowKit

/-- as WPost; no bit at the end is idle, and the row is one, if it must be -/
def CPost (w : World) (N L : Nat) (nn : Prop) (e : Ending) (w' : World) : Prop :=
  ∃ A c bs, e = .returned (.slice A (List.length bs) c) ∧ WB w' (.slice A (List.length bs) c) bs ∧ val bs = N ∧ Canon bs ∧ bs.length ≤ L ∧ (nn → A ≠ none) ∧ Below w.heap.size w w'

/-- as CPost; the row is a new one -/
def MPost (w : World) (N L : Nat) (nn : Prop) (e : Ending) (w' : World) : Prop :=
  ∃ A c bs, e = .returned (.slice A (List.length bs) c) ∧ WB w' (.slice A (List.length bs) c) bs ∧ val bs = N ∧ Canon bs ∧ bs.length ≤ L ∧ (nn → A ≠ none) ∧ Below w.heap.size w w' ∧ ∀ ad, A = some ad → w.heap.size ≤ ad.block

structure MinusAt (w wr : World) (xs ys : List Bool) (v : Value) (k : Nat) (c : Bool) (bs : List Bool) : Prop where
  len : bs.length = k
  own : OwnB w wr v bs
  eq : val (xs.take k) + 2 ^ k * c.toNat = val bs + val (ys.take k)

theorem MinusAt.step {w wr w' : World} {xs ys : List Bool} {v v' : Value} {k : Nat} {c x y : Bool} {bs : List Bool} (h : MinusAt w wr xs ys v k c bs) (hx : xs.getD k false = x) (hy : ys.getD k false = y)
    (h1 : w'.ownsRow w.heap.size 4 1 v' (bs.length + 1) (bs.map Value.bool ++ [.bool (xorB x y c)])) (h2 : Below w.heap.size wr w') :
    MinusAt w w' xs ys v' (k + 1) (borB x y c) (bs ++ [xorB x y c]) := by
  refine ⟨by simp [h.len], h.own.snoc h1 h2, ?_⟩
  rw [val_snoc, h.len, val_take_step, val_take_step, hx, hy, Nat.pow_succ]
  have e := h.eq
  have s := sub_step x y c
  have s2 : 2 ^ k * x.toNat + 2 ^ k * 2 * (borB x y c).toNat = 2 ^ k * (xorB x y c).toNat + 2 ^ k * y.toNat + 2 ^ k * c.toNat := by
    rw [Nat.mul_assoc, ← Nat.mul_add, ← Nat.mul_add, ← Nat.mul_add]
    exact congrArg (2 ^ k * ·) s
  omega

theorem MinusAt.done {w wr : World} {xs ys : List Bool} {v : Value} {k : Nat} {c : Bool} {bs : List Bool} (h : MinusAt w wr xs ys v k c bs) (hk : k = xs.length) (hle : val ys ≤ val xs) : val bs = val xs - val ys := by
  have e := h.eq
  rw [val_take_past xs k (by omega)] at e
  have h1 := val_split ys k
  have h2 := val_lt xs
  have h3 := val_lt bs
  rw [h.len] at h3
  rw [← hk] at h2
  have h0 : val (ys.drop k) = 0 := by
    rcases Nat.eq_zero_or_pos (val (ys.drop k)) with h0 | h0
    · exact h0
    · have : 2 ^ k * 1 ≤ 2 ^ k * val (ys.drop k) := Nat.mul_le_mul_left _ h0
      omega
  rw [h0, Nat.mul_zero, Nat.add_zero] at h1
  have hc : c = false := by
    cases c
    · rfl
    · simp at e; omega
  rw [hc] at e
  simp at e
  omega

theorem own_form {w : World} {base : Nat} {e : TypeId} {v : Value} {n : Nat} {xs : List Value} (h : w.ownsRow base e 1 v n xs) : ∃ A c, v = .slice A n c ∧ n ≤ c ∧ c ≤ maxLen ∧ (A = none → n = 0 ∧ c = 0) := by
  rcases h.2 with ⟨rfl, rfl⟩ | ⟨g, cap, cur, rfl, _, _, h1, h2, _⟩
  · exact ⟨none, 0, rfl, Nat.le_refl _, by simp [maxLen], fun _ => ⟨rfl, rfl⟩⟩
  · exact ⟨_, cap, rfl, h1, h2, fun h => by cases h⟩

theorem own_block {w : World} {base : Nat} {e : TypeId} {ad : Addr} {n m c : Nat} {xs : List Value} (h : w.ownsRow base e 1 (.slice (some ad) m c) n xs) : base ≤ ad.block := by
  rcases h.2 with ⟨h1, _⟩ | ⟨g, cap, cur, h1, h2, _⟩
  · injection h1 with h1; cases h1
  · injection h1 with h1; injection h1 with h1; rw [h1]; exact h2

theorem Cells.take {w : World} {A : Option Addr} {bs : List Bool} (h : Cells w A (bs.map Value.bool)) (k : Nat) : Cells w A ((bs.take k).map Value.bool) := fun hp => by
  have hl : 0 < (bs.map Value.bool).length := by simp at hp ⊢; omega
  obtain ⟨b, off, e, hc⟩ := h hl
  refine ⟨b, off, e, fun i u hu => hc i u ?_⟩
  rw [List.map_take] at hu
  rw [← hu, List.getElem?_take]
  have : i < k := by
    rcases Nat.lt_or_ge i k with hlt | hge
    · exact hlt
    · rw [List.getElem?_take_eq_none hge] at hu; cases hu
  rw [if_pos this]

/-- trim at the end of a function whose row is its own -/
theorem trim_own {w wr : World} {v : Value} {bs : List Bool} {nn : Prop} (h : OwnB w wr v bs) (hn : bs.length ≤ 1000000) (hnn : nn → 0 < bs.length) :
    Calls Tryz.prog 83 #[v] wr (MPost w (val bs) bs.length nn) := by
  obtain ⟨A, c, rfl, h1, h2, h3⟩ := own_form h.own
  have hcells : Cells wr A (bs.map Value.bool) := Cells.of_own h.own
  refine (trim_any A c bs wr h1 h2 h3 hcells hn).mono ?_
  rintro e w' ⟨k, hk, rfl, hv, hc, rfl⟩
  have hl : (bs.take k).length = k := by rw [List.length_take]; omega
  refine ⟨A, c, bs.take k, by rw [hl], ⟨A, c, rfl, by rw [hl]; omega, h2, fun ha => by have := h3 ha; rw [hl]; omega, hcells.take k⟩, hv, hc, by rw [hl]; exact hk, fun hnn' ha => ?_, h.below, fun ad had => by subst had; exact own_block h.own⟩
  have := hnn hnn'
  have := (h3 ha).1
  omega

set_option maxHeartbeats 3200000 in
theorem minus_any (v v' : Value) (xs ys : List Bool) (w : World) (h : WB w v xs) (h' : WB w v' ys) (hn : xs.length ≤ 100000) (hn' : ys.length ≤ 100000) (hle : val ys ≤ val xs) :
    Calls Tryz.prog 94 #[v, v'] w (MPost w (val xs - val ys) xs.length (0 < xs.length)) := by
  have HA := Lib.hid (fun W (hb : Below w.heap.size w W) i (hi : i ≤ 1000000) => at_any v xs i W (h.keep hb) hi (by omega))
  have HB := Lib.hid (fun W (hb : Below w.heap.size w W) i (hi : i ≤ 1000000) => at_any v' ys i W (h'.keep hb) hi (by omega))
  obtain ⟨A, ca, rfl, _⟩ := h
  obtain ⟨A', cb, rfl, _⟩ := h'
  obtain ⟨n, hn1⟩ : ∃ n, n = xs.length := ⟨_, rfl⟩
  have HN := Lib.hid hn1
  have HLE := Lib.hid hle
  rw [← hn1] at hn HA
  rw [show Value.slice A xs.length ca = Value.slice A n ca by rw [hn1]]
  clear hn1 hle
  go_enter Tryz.func94, Tryz.ntmps94
  go_wp2
  go_loopg [5, 6, 7, 8, 9] n (fun gk v c i _ _ wr => ∃ (k : Nat) (c0 : Bool) (bs : List Bool), c = .bool c0 ∧ i = .int .i64 k ∧ k ≤ n ∧ n - k ≤ gk ∧ Hid (MinusAt w wr xs ys v k c0 bs))
  case atStart => exact ⟨0, false, [], rfl, rfl, by omega, by omega, ⟨rfl, OwnB.nil w, by simp [val]⟩⟩
  case round =>
    obtain ⟨k, c, bs, rfl, rfl, hk, hgk, HP⟩ := hrel
    have HL := Lib.hid HP.out.len
    have hlb : bs.length ≤ 100001 := by rw [HL.out]; omega
    by_cases hlt : k < n
    · have H1 := Lib.hid (HA.out wr HP.out.own.below k (by omega))
      have H2 := Lib.hid (HB.out wr HP.out.own.below k (by omega))
      obtain ⟨x, hx⟩ : ∃ x, xs.getD k false = x := ⟨_, rfl⟩
      obtain ⟨y, hy⟩ : ∃ y, ys.getD k false = y := ⟨_, rfl⟩
      rw [hx] at H1
      rw [hy] at H2
      have HX := Lib.hid hx
      have HY := Lib.hid hy
      clear hx hy
      have t1 : decide ((k : Int) < (n : Int)) = true := decide_eq_true (by omega)
      go_wp2_with fail
      refine H1.out.mono ?_
      rintro e w' ⟨rfl, rfl⟩
      go_wp2_with fail
      refine H2.out.mono ?_
      rintro e w' ⟨rfl, rfl⟩
      clear H1 H2
      cases x <;> cases y <;> cases c
      · go_wp2_with (at_builtin; refine wpList_append_one rfl (.tmp 22) (.tmp 28) 123 rfl w.heap.size 4 (.bool false) 1 Tryz.underlying123 infoBool rfl _ (.bool false) rfl _ bs.length (bs.map Value.bool) rfl rfl HP.out.own.own HP.out.own.below.size (by unfold maxLen; omega) (by omega) ?_; intro v1 w1 hown1 hbel1)
        have HP1 := Lib.hid (HP.out.step HX.out HY.out hown1 hbel1)
        clear hown1 hbel1 HP
        go_wp2
        go_roundg (gk - 1)
        case measure => omega
        case rel => exact ⟨k + 1, false, bs ++ [false], rfl, by go_num, by omega, by omega, HP1⟩
      · go_wp2_with (at_builtin; refine wpList_append_one rfl (.tmp 22) (.tmp 28) 123 rfl w.heap.size 4 (.bool false) 1 Tryz.underlying123 infoBool rfl _ (.bool true) rfl _ bs.length (bs.map Value.bool) rfl rfl HP.out.own.own HP.out.own.below.size (by unfold maxLen; omega) (by omega) ?_; intro v1 w1 hown1 hbel1)
        have HP1 := Lib.hid (HP.out.step HX.out HY.out hown1 hbel1)
        clear hown1 hbel1 HP
        go_wp2
        go_roundg (gk - 1)
        case measure => omega
        case rel => exact ⟨k + 1, true, bs ++ [true], rfl, by go_num, by omega, by omega, HP1⟩
      · go_wp2_with (at_builtin; refine wpList_append_one rfl (.tmp 22) (.tmp 28) 123 rfl w.heap.size 4 (.bool false) 1 Tryz.underlying123 infoBool rfl _ (.bool true) rfl _ bs.length (bs.map Value.bool) rfl rfl HP.out.own.own HP.out.own.below.size (by unfold maxLen; omega) (by omega) ?_; intro v1 w1 hown1 hbel1)
        have HP1 := Lib.hid (HP.out.step HX.out HY.out hown1 hbel1)
        clear hown1 hbel1 HP
        go_wp2
        go_roundg (gk - 1)
        case measure => omega
        case rel => exact ⟨k + 1, true, bs ++ [true], rfl, by go_num, by omega, by omega, HP1⟩
      · go_wp2_with (at_builtin; refine wpList_append_one rfl (.tmp 22) (.tmp 28) 123 rfl w.heap.size 4 (.bool false) 1 Tryz.underlying123 infoBool rfl _ (.bool false) rfl _ bs.length (bs.map Value.bool) rfl rfl HP.out.own.own HP.out.own.below.size (by unfold maxLen; omega) (by omega) ?_; intro v1 w1 hown1 hbel1)
        have HP1 := Lib.hid (HP.out.step HX.out HY.out hown1 hbel1)
        clear hown1 hbel1 HP
        go_wp2
        go_roundg (gk - 1)
        case measure => omega
        case rel => exact ⟨k + 1, true, bs ++ [false], rfl, by go_num, by omega, by omega, HP1⟩
      · go_wp2_with (at_builtin; refine wpList_append_one rfl (.tmp 22) (.tmp 28) 123 rfl w.heap.size 4 (.bool false) 1 Tryz.underlying123 infoBool rfl _ (.bool true) rfl _ bs.length (bs.map Value.bool) rfl rfl HP.out.own.own HP.out.own.below.size (by unfold maxLen; omega) (by omega) ?_; intro v1 w1 hown1 hbel1)
        have HP1 := Lib.hid (HP.out.step HX.out HY.out hown1 hbel1)
        clear hown1 hbel1 HP
        go_wp2
        go_roundg (gk - 1)
        case measure => omega
        case rel => exact ⟨k + 1, false, bs ++ [true], rfl, by go_num, by omega, by omega, HP1⟩
      · go_wp2_with (at_builtin; refine wpList_append_one rfl (.tmp 22) (.tmp 28) 123 rfl w.heap.size 4 (.bool false) 1 Tryz.underlying123 infoBool rfl _ (.bool false) rfl _ bs.length (bs.map Value.bool) rfl rfl HP.out.own.own HP.out.own.below.size (by unfold maxLen; omega) (by omega) ?_; intro v1 w1 hown1 hbel1)
        have HP1 := Lib.hid (HP.out.step HX.out HY.out hown1 hbel1)
        clear hown1 hbel1 HP
        go_wp2
        go_roundg (gk - 1)
        case measure => omega
        case rel => exact ⟨k + 1, false, bs ++ [false], rfl, by go_num, by omega, by omega, HP1⟩
      · go_wp2_with (at_builtin; refine wpList_append_one rfl (.tmp 22) (.tmp 28) 123 rfl w.heap.size 4 (.bool false) 1 Tryz.underlying123 infoBool rfl _ (.bool false) rfl _ bs.length (bs.map Value.bool) rfl rfl HP.out.own.own HP.out.own.below.size (by unfold maxLen; omega) (by omega) ?_; intro v1 w1 hown1 hbel1)
        have HP1 := Lib.hid (HP.out.step HX.out HY.out hown1 hbel1)
        clear hown1 hbel1 HP
        go_wp2
        go_roundg (gk - 1)
        case measure => omega
        case rel => exact ⟨k + 1, false, bs ++ [false], rfl, by go_num, by omega, by omega, HP1⟩
      · go_wp2_with (at_builtin; refine wpList_append_one rfl (.tmp 22) (.tmp 28) 123 rfl w.heap.size 4 (.bool false) 1 Tryz.underlying123 infoBool rfl _ (.bool true) rfl _ bs.length (bs.map Value.bool) rfl rfl HP.out.own.own HP.out.own.below.size (by unfold maxLen; omega) (by omega) ?_; intro v1 w1 hown1 hbel1)
        have HP1 := Lib.hid (HP.out.step HX.out HY.out hown1 hbel1)
        clear hown1 hbel1 HP
        go_wp2
        go_roundg (gk - 1)
        case measure => omega
        case rel => exact ⟨k + 1, true, bs ++ [true], rfl, by go_num, by omega, by omega, HP1⟩
    · have t1 : decide ((k : Int) < (n : Int)) = false := decide_eq_false (by omega)
      obtain rfl : k = n := by omega
      have HT := Lib.hid (trim_own (nn := 0 < xs.length) HP.out.own (by omega) (fun h => by rw [HL.out, HN.out]; exact h))
      have e := HP.out.done HN.out HLE.out
      rw [e, show bs.length = xs.length by rw [HL.out, HN.out]] at HT
      clear e
      go_wp2_with fail
      refine HT.out.mono ?_
      rintro e w' ⟨A2, c2, bs2, rfl, hr⟩
      have HR := Lib.hid hr
      clear hr HT HP
      go_wp2
      go_ret
      exact ⟨A2, c2, bs2, rfl, HR.out⟩
end Go.Proofs.YtkflakeocdlinaaGreatDoor
