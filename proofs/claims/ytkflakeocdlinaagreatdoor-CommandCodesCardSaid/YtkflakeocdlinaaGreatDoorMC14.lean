/-
  Contracts of soukref01's Plus and minus.
-/
import Derived.Test.YtkflakeocdlinaaGreatDoorMC13
import Derived.BigGuardPart
import Derived.Deep.DeepCutAuto
import Derived.Deep.CutBlock
import Derived.Deep.CutRange
namespace Go.Proofs.YtkflakeocdlinaaGreatDoor
open Go.RowKit

def xorB (x y c : Bool) : Bool := Bool.xor (Bool.xor x y) c
def carB (x y c : Bool) : Bool := x && y || x && c || y && c
def borB (x y c : Bool) : Bool := !x && (y || c) || y && c

structure PlusAt (w wr : World) (xs ys : List Bool) (v : Value) (k : Nat) (c : Bool) (bs : List Bool) : Prop where
  len : bs.length = k
  own : OwnB w wr v bs
  eq : val bs + 2 ^ k * c.toNat = val (xs.take k) + val (ys.take k)
  end_ : k ≤ max xs.length ys.length ∨ (k = max xs.length ys.length + 1 ∧ c = false)

theorem PlusAt.step {w wr w' : World} {xs ys : List Bool} {v v' : Value} {k : Nat} {c x y : Bool} {bs : List Bool} (h : PlusAt w wr xs ys v k c bs) (hx : xs.getD k false = x) (hy : ys.getD k false = y)
    (h1 : w'.ownsRow w.heap.size 4 1 v' (bs.length + 1) (bs.map Value.bool ++ [.bool (xorB x y c)])) (h2 : Below w.heap.size wr w') (hgo : k < xs.length ∨ k < ys.length ∨ c = true) :
    PlusAt w w' xs ys v' (k + 1) (carB x y c) (bs ++ [xorB x y c]) := by
  refine ⟨by simp [h.len], h.own.snoc h1 h2, ?_, ?_⟩
  · rw [val_snoc, h.len, val_take_step, val_take_step, hx, hy, Nat.pow_succ]
    have e := h.eq
    have s := add_step x y c
    have s2 : 2 ^ k * x.toNat + 2 ^ k * y.toNat + 2 ^ k * c.toNat = 2 ^ k * (xorB x y c).toNat + 2 ^ k * 2 * (carB x y c).toNat := by
      rw [← Nat.mul_add, ← Nat.mul_add, s, Nat.mul_add, Nat.mul_assoc]; rfl
    omega
  · by_cases hm : k < max xs.length ys.length
    · left; omega
    · have hk : k = max xs.length ys.length := by
        rcases h.end_ with he | ⟨he, hc⟩
        · omega
        · rcases hgo with hg | hg | hg
          · omega
          · omega
          · rw [hc] at hg; cases hg
      right
      refine ⟨by omega, ?_⟩
      rw [getD_past (by omega)] at hx hy
      rw [← hx, ← hy]
      rfl

theorem bool_of {p : Prop} [Decidable p] {b : Bool} (h : decide p = b) : (b = true → p) ∧ (b = false → ¬ p) := by
  constructor
  · intro e; rw [e] at h; exact of_decide_eq_true h
  · intro e; rw [e] at h; exact of_decide_eq_false h

set_option maxHeartbeats 3200000 in
theorem plus_any (v v' : Value) (xs ys : List Bool) (w : World) (h : WB w v xs) (h' : WB w v' ys) (hn : xs.length ≤ 100000) (hn' : ys.length ≤ 100000) :
    Calls Tryz.prog 82 #[v, v'] w (WPost w (val xs + val ys) (max xs.length ys.length + 1)) := by
  have HA := Lib.hid (fun W (hb : Below w.heap.size w W) i (hi : i ≤ 1000000) => at_any v xs i W (h.keep hb) hi (by omega))
  have HB := Lib.hid (fun W (hb : Below w.heap.size w W) i (hi : i ≤ 1000000) => at_any v' ys i W (h'.keep hb) hi (by omega))
  obtain ⟨A, ca, rfl, _⟩ := h
  obtain ⟨A', cb, rfl, _⟩ := h'
  obtain ⟨n, hn1⟩ : ∃ n, n = xs.length := ⟨_, rfl⟩
  obtain ⟨m, hn2⟩ : ∃ n, n = ys.length := ⟨_, rfl⟩
  have HN := Lib.hid hn1
  have HN' := Lib.hid hn2
  rw [← hn1] at hn HA
  rw [← hn2] at hn' HB
  rw [show Value.slice A xs.length ca = Value.slice A n ca by rw [hn1], show Value.slice A' ys.length cb = Value.slice A' m cb by rw [hn2]]
  clear hn1 hn2
  go_enter Tryz.func82, Tryz.ntmps82
  go_wp2
  go_loopg [5, 6, 7, 8, 9] (max n m + 2) (fun gk v c i _ _ wr => ∃ (k : Nat) (c0 : Bool) (bs : List Bool), c = .bool c0 ∧ i = .int .i64 k ∧ k ≤ 100001 ∧ max n m + 2 - k ≤ gk ∧ Hid (PlusAt w wr xs ys v k c0 bs))
  case atStart => exact ⟨0, false, [], rfl, rfl, by omega, by omega, ⟨rfl, OwnB.nil w, by simp [val], .inl (Nat.zero_le _)⟩⟩
  case round =>
    obtain ⟨k, c, bs, rfl, rfl, hk, hgk, HP⟩ := hrel
    have HL := Lib.hid HP.out.len
    by_cases hgo : k < n ∨ k < m ∨ c = true
    · have hkM : k ≤ max n m := by
        rcases HP.out.end_ with he | ⟨he, hc⟩
        · have := HN.out; have := HN'.out; omega
        · rcases hgo with hg | hg | hg
          · omega
          · omega
          · rw [hc] at hg; cases hg
      have HGO : Hid (k < xs.length ∨ k < ys.length ∨ c = true) := by show _ ∨ _; rw [← HN.out, ← HN'.out]; exact hgo
      have H1 := Lib.hid (HA.out wr HP.out.own.below k (by omega))
      have H2 := Lib.hid (HB.out wr HP.out.own.below k (by omega))
      obtain ⟨x, hx⟩ : ∃ x, xs.getD k false = x := ⟨_, rfl⟩
      obtain ⟨y, hy⟩ : ∃ y, ys.getD k false = y := ⟨_, rfl⟩
      rw [hx] at H1
      rw [hy] at H2
      have HX := Lib.hid hx
      have HY := Lib.hid hy
      clear hx hy
      have hlb : bs.length ≤ 100001 := by rw [HL.out]; exact hk
      go_upto_region 4 with fail
      go_cut [22] from 10 to 54 (fun t wx => t = .bool true ∧ wx = wr)
      case first =>
        clear H1 H2
        by_cases g1 : k < n
        · have t1 : decide ((k : Int) < (n : Int)) = true := decide_eq_true (by omega)
          go_wp2
          go_meet
          exact ⟨rfl, rfl⟩
        · have t1 : decide ((k : Int) < (n : Int)) = false := decide_eq_false (by omega)
          by_cases g2 : k < m
          · have t2 : decide ((k : Int) < (m : Int)) = true := decide_eq_true (by omega)
            go_wp2
            go_meet
            exact ⟨rfl, rfl⟩
          · have t2 : decide ((k : Int) < (m : Int)) = false := decide_eq_false (by omega)
            obtain rfl : c = true := by rcases hgo with hg | hg | hg; omega; omega; exact hg
            go_wp2
            go_meet
            exact ⟨rfl, rfl⟩
      case rest =>
        obtain ⟨rfl, hwe⟩ := hcut
        subst hwe
        go_wp2_with fail
        refine H1.out.mono ?_
        rintro e w' ⟨rfl, rfl⟩
        go_wp2_with fail
        refine H2.out.mono ?_
        rintro e w' ⟨rfl, rfl⟩
        clear H1 H2 hgo
        cases x <;> cases y <;> cases c
        · go_wp2_with (at_builtin; refine wpList_append_one rfl (.tmp 31) (.tmp 37) 123 rfl w.heap.size 4 (.bool false) 1 Tryz.underlying123 infoBool rfl _ (.bool false) rfl _ bs.length (bs.map Value.bool) rfl rfl HP.out.own.own HP.out.own.below.size (by unfold maxLen; omega) (by omega) ?_; intro v1 w1 hown1 hbel1)
          have HP1 := Lib.hid (HP.out.step HX.out HY.out hown1 hbel1 (by first | exact HGO.out | exact .inr (.inr rfl)))
          clear hown1 hbel1 HP
          go_wp2
          go_roundg (gk - 1)
          case measure => omega
          case rel => exact ⟨k + 1, false, bs ++ [false], rfl, by go_num, by omega, by omega, HP1⟩
        · go_wp2_with (at_builtin; refine wpList_append_one rfl (.tmp 31) (.tmp 37) 123 rfl w.heap.size 4 (.bool false) 1 Tryz.underlying123 infoBool rfl _ (.bool true) rfl _ bs.length (bs.map Value.bool) rfl rfl HP.out.own.own HP.out.own.below.size (by unfold maxLen; omega) (by omega) ?_; intro v1 w1 hown1 hbel1)
          have HP1 := Lib.hid (HP.out.step HX.out HY.out hown1 hbel1 (by first | exact HGO.out | exact .inr (.inr rfl)))
          clear hown1 hbel1 HP
          go_wp2
          go_roundg (gk - 1)
          case measure => omega
          case rel => exact ⟨k + 1, false, bs ++ [true], rfl, by go_num, by omega, by omega, HP1⟩
        · go_wp2_with (at_builtin; refine wpList_append_one rfl (.tmp 31) (.tmp 37) 123 rfl w.heap.size 4 (.bool false) 1 Tryz.underlying123 infoBool rfl _ (.bool true) rfl _ bs.length (bs.map Value.bool) rfl rfl HP.out.own.own HP.out.own.below.size (by unfold maxLen; omega) (by omega) ?_; intro v1 w1 hown1 hbel1)
          have HP1 := Lib.hid (HP.out.step HX.out HY.out hown1 hbel1 (by first | exact HGO.out | exact .inr (.inr rfl)))
          clear hown1 hbel1 HP
          go_wp2
          go_roundg (gk - 1)
          case measure => omega
          case rel => exact ⟨k + 1, false, bs ++ [true], rfl, by go_num, by omega, by omega, HP1⟩
        · go_wp2_with (at_builtin; refine wpList_append_one rfl (.tmp 31) (.tmp 37) 123 rfl w.heap.size 4 (.bool false) 1 Tryz.underlying123 infoBool rfl _ (.bool false) rfl _ bs.length (bs.map Value.bool) rfl rfl HP.out.own.own HP.out.own.below.size (by unfold maxLen; omega) (by omega) ?_; intro v1 w1 hown1 hbel1)
          have HP1 := Lib.hid (HP.out.step HX.out HY.out hown1 hbel1 (by first | exact HGO.out | exact .inr (.inr rfl)))
          clear hown1 hbel1 HP
          go_wp2
          go_roundg (gk - 1)
          case measure => omega
          case rel => exact ⟨k + 1, true, bs ++ [false], rfl, by go_num, by omega, by omega, HP1⟩
        · go_wp2_with (at_builtin; refine wpList_append_one rfl (.tmp 31) (.tmp 37) 123 rfl w.heap.size 4 (.bool false) 1 Tryz.underlying123 infoBool rfl _ (.bool true) rfl _ bs.length (bs.map Value.bool) rfl rfl HP.out.own.own HP.out.own.below.size (by unfold maxLen; omega) (by omega) ?_; intro v1 w1 hown1 hbel1)
          have HP1 := Lib.hid (HP.out.step HX.out HY.out hown1 hbel1 (by first | exact HGO.out | exact .inr (.inr rfl)))
          clear hown1 hbel1 HP
          go_wp2
          go_roundg (gk - 1)
          case measure => omega
          case rel => exact ⟨k + 1, false, bs ++ [true], rfl, by go_num, by omega, by omega, HP1⟩
        · go_wp2_with (at_builtin; refine wpList_append_one rfl (.tmp 31) (.tmp 37) 123 rfl w.heap.size 4 (.bool false) 1 Tryz.underlying123 infoBool rfl _ (.bool false) rfl _ bs.length (bs.map Value.bool) rfl rfl HP.out.own.own HP.out.own.below.size (by unfold maxLen; omega) (by omega) ?_; intro v1 w1 hown1 hbel1)
          have HP1 := Lib.hid (HP.out.step HX.out HY.out hown1 hbel1 (by first | exact HGO.out | exact .inr (.inr rfl)))
          clear hown1 hbel1 HP
          go_wp2
          go_roundg (gk - 1)
          case measure => omega
          case rel => exact ⟨k + 1, true, bs ++ [false], rfl, by go_num, by omega, by omega, HP1⟩
        · go_wp2_with (at_builtin; refine wpList_append_one rfl (.tmp 31) (.tmp 37) 123 rfl w.heap.size 4 (.bool false) 1 Tryz.underlying123 infoBool rfl _ (.bool false) rfl _ bs.length (bs.map Value.bool) rfl rfl HP.out.own.own HP.out.own.below.size (by unfold maxLen; omega) (by omega) ?_; intro v1 w1 hown1 hbel1)
          have HP1 := Lib.hid (HP.out.step HX.out HY.out hown1 hbel1 (by first | exact HGO.out | exact .inr (.inr rfl)))
          clear hown1 hbel1 HP
          go_wp2
          go_roundg (gk - 1)
          case measure => omega
          case rel => exact ⟨k + 1, true, bs ++ [false], rfl, by go_num, by omega, by omega, HP1⟩
        · go_wp2_with (at_builtin; refine wpList_append_one rfl (.tmp 31) (.tmp 37) 123 rfl w.heap.size 4 (.bool false) 1 Tryz.underlying123 infoBool rfl _ (.bool true) rfl _ bs.length (bs.map Value.bool) rfl rfl HP.out.own.own HP.out.own.below.size (by unfold maxLen; omega) (by omega) ?_; intro v1 w1 hown1 hbel1)
          have HP1 := Lib.hid (HP.out.step HX.out HY.out hown1 hbel1 (by first | exact HGO.out | exact .inr (.inr rfl)))
          clear hown1 hbel1 HP
          go_wp2
          go_roundg (gk - 1)
          case measure => omega
          case rel => exact ⟨k + 1, true, bs ++ [true], rfl, by go_num, by omega, by omega, HP1⟩
    · obtain rfl : c = false := by
        cases c
        · rfl
        · exact absurd (.inr (.inr rfl)) hgo
      have t1 : decide ((k : Int) < (n : Int)) = false := decide_eq_false (fun h => hgo (.inl (by omega)))
      have t2 : decide ((k : Int) < (m : Int)) = false := decide_eq_false (fun h => hgo (.inr (.inl (by omega))))
      have g1 := of_decide_eq_false t1
      have g2 := of_decide_eq_false t2
      clear hgo
      go_wp2
      go_ret
      refine ⟨_, bs, rfl, WB.of_own HP.out.own.own, ?_, ?_, HP.out.own.below⟩
      · have e := HP.out.eq
        rw [val_take_past xs k (by have := HN.out; omega), val_take_past ys k (by have := HN'.out; omega)] at e
        simpa using e
      · rw [HP.out.len]
        rcases HP.out.end_ with he | ⟨he, _⟩
        · omega
        · omega
end Go.Proofs.YtkflakeocdlinaaGreatDoor
/-
  Contract of soukref01's minus.
-/
namespace Go.Proofs.YtkflakeocdlinaaGreatDoor
open Go.RowKit

/-- as WPost; no bit at the end is idle, and the row is one, if it must be -/
def CPost (w : World) (N L : Nat) (nn : Prop) (e : Ending) (w' : World) : Prop :=
  ∃ A c bs, e = .returned (.slice A (List.length bs) c) ∧ WB w' (.slice A (List.length bs) c) bs ∧ val bs = N ∧ Canon bs ∧ bs.length ≤ L ∧ (nn → A ≠ none) ∧ Below w.heap.size w w'

/-- as CPost; the row is a new one -/
def MPost (w : World) (N L : Nat) (nn : Prop) (e : Ending) (w' : World) : Prop :=
  ∃ A c bs, e = .returned (.slice A (List.length bs) c) ∧ WB w' (.slice A (List.length bs) c) bs ∧ val bs = N ∧ Canon bs ∧ bs.length ≤ L ∧ (nn → A ≠ none) ∧ Below w.heap.size w w' ∧ ∀ ad, A = some ad → w.heap.size ≤ ad.block

structure MinusAt (w wr : World) (xs ys : List Bool) (v : Value) (k : Nat) (c : Bool) (bs : List Bool) : Prop where
  len : bs.length = k
  own : OwnB w wr v bs
  eq : val (xs.take k) + 2 ^ k * c.toNat = val bs + val (ys.take k)

theorem MinusAt.step {w wr w' : World} {xs ys : List Bool} {v v' : Value} {k : Nat} {c x y : Bool} {bs : List Bool} (h : MinusAt w wr xs ys v k c bs) (hx : xs.getD k false = x) (hy : ys.getD k false = y)
    (h1 : w'.ownsRow w.heap.size 4 1 v' (bs.length + 1) (bs.map Value.bool ++ [.bool (xorB x y c)])) (h2 : Below w.heap.size wr w') :
    MinusAt w w' xs ys v' (k + 1) (borB x y c) (bs ++ [xorB x y c]) := by
  refine ⟨by simp [h.len], h.own.snoc h1 h2, ?_⟩
  rw [val_snoc, h.len, val_take_step, val_take_step, hx, hy, Nat.pow_succ]
  have e := h.eq
  have s := sub_step x y c
  have s2 : 2 ^ k * x.toNat + 2 ^ k * 2 * (borB x y c).toNat = 2 ^ k * (xorB x y c).toNat + 2 ^ k * y.toNat + 2 ^ k * c.toNat := by
    rw [Nat.mul_assoc, ← Nat.mul_add, ← Nat.mul_add, ← Nat.mul_add]
    exact congrArg (2 ^ k * ·) s
  omega

theorem MinusAt.done {w wr : World} {xs ys : List Bool} {v : Value} {k : Nat} {c : Bool} {bs : List Bool} (h : MinusAt w wr xs ys v k c bs) (hk : k = xs.length) (hle : val ys ≤ val xs) : val bs = val xs - val ys := by
  have e := h.eq
  rw [val_take_past xs k (by omega)] at e
  have h1 := val_split ys k
  have h2 := val_lt xs
  have h3 := val_lt bs
  rw [h.len] at h3
  rw [← hk] at h2
  have h0 : val (ys.drop k) = 0 := by
    rcases Nat.eq_zero_or_pos (val (ys.drop k)) with h0 | h0
    · exact h0
    · have : 2 ^ k * 1 ≤ 2 ^ k * val (ys.drop k) := Nat.mul_le_mul_left _ h0
      omega
  rw [h0, Nat.mul_zero, Nat.add_zero] at h1
  have hc : c = false := by
    cases c
    · rfl
    · simp at e; omega
  rw [hc] at e
  simp at e
  omega

theorem own_form {w : World} {base : Nat} {e : TypeId} {v : Value} {n : Nat} {xs : List Value} (h : w.ownsRow base e 1 v n xs) : ∃ A c, v = .slice A n c ∧ n ≤ c ∧ c ≤ maxLen ∧ (A = none → n = 0 ∧ c = 0) := by
  rcases h.2 with ⟨rfl, rfl⟩ | ⟨g, cap, cur, rfl, _, _, h1, h2, _⟩
  · exact ⟨none, 0, rfl, Nat.le_refl _, by simp [maxLen], fun _ => ⟨rfl, rfl⟩⟩
  · exact ⟨_, cap, rfl, h1, h2, fun h => by cases h⟩

theorem own_block {w : World} {base : Nat} {e : TypeId} {ad : Addr} {n m c : Nat} {xs : List Value} (h : w.ownsRow base e 1 (.slice (some ad) m c) n xs) : base ≤ ad.block := by
  rcases h.2 with ⟨h1, _⟩ | ⟨g, cap, cur, h1, h2, _⟩
  · injection h1 with h1; cases h1
  · injection h1 with h1; injection h1 with h1; rw [h1]; exact h2

theorem Cells.take {w : World} {A : Option Addr} {bs : List Bool} (h : Cells w A (bs.map Value.bool)) (k : Nat) : Cells w A ((bs.take k).map Value.bool) := fun hp => by
  have hl : 0 < (bs.map Value.bool).length := by simp at hp ⊢; omega
  obtain ⟨b, off, e, hc⟩ := h hl
  refine ⟨b, off, e, fun i u hu => hc i u ?_⟩
  rw [List.map_take] at hu
  rw [← hu, List.getElem?_take]
  have : i < k := by
    rcases Nat.lt_or_ge i k with hlt | hge
    · exact hlt
    · rw [List.getElem?_take_eq_none hge] at hu; cases hu
  rw [if_pos this]

/-- trim at the end of a function whose row is its own -/
theorem trim_own {w wr : World} {v : Value} {bs : List Bool} {nn : Prop} (h : OwnB w wr v bs) (hn : bs.length ≤ 1000000) (hnn : nn → 0 < bs.length) :
    Calls Tryz.prog 83 #[v] wr (MPost w (val bs) bs.length nn) := by
  obtain ⟨A, c, rfl, h1, h2, h3⟩ := own_form h.own
  have hcells : Cells wr A (bs.map Value.bool) := Cells.of_own h.own
  refine (trim_any A c bs wr h1 h2 h3 hcells hn).mono ?_
  rintro e w' ⟨k, hk, rfl, hv, hc, rfl⟩
  have hl : (bs.take k).length = k := by rw [List.length_take]; omega
  refine ⟨A, c, bs.take k, by rw [hl], ⟨A, c, rfl, by rw [hl]; omega, h2, fun ha => by have := h3 ha; rw [hl]; omega, hcells.take k⟩, hv, hc, by rw [hl]; exact hk, fun hnn' ha => ?_, h.below, fun ad had => by subst had; exact own_block h.own⟩
  have := hnn hnn'
  have := (h3 ha).1
  omega

set_option maxHeartbeats 3200000 in
theorem minus_any (v v' : Value) (xs ys : List Bool) (w : World) (h : WB w v xs) (h' : WB w v' ys) (hn : xs.length ≤ 100000) (hn' : ys.length ≤ 100000) (hle : val ys ≤ val xs) :
    Calls Tryz.prog 94 #[v, v'] w (MPost w (val xs - val ys) xs.length (0 < xs.length)) := by
  have HA := Lib.hid (fun W (hb : Below w.heap.size w W) i (hi : i ≤ 1000000) => at_any v xs i W (h.keep hb) hi (by omega))
  have HB := Lib.hid (fun W (hb : Below w.heap.size w W) i (hi : i ≤ 1000000) => at_any v' ys i W (h'.keep hb) hi (by omega))
  obtain ⟨A, ca, rfl, _⟩ := h
  obtain ⟨A', cb, rfl, _⟩ := h'
  obtain ⟨n, hn1⟩ : ∃ n, n = xs.length := ⟨_, rfl⟩
  have HN := Lib.hid hn1
  have HLE := Lib.hid hle
  rw [← hn1] at hn HA
  rw [show Value.slice A xs.length ca = Value.slice A n ca by rw [hn1]]
  clear hn1 hle
  go_enter Tryz.func94, Tryz.ntmps94
  go_wp2
  go_loopg [5, 6, 7, 8, 9] n (fun gk v c i _ _ wr => ∃ (k : Nat) (c0 : Bool) (bs : List Bool), c = .bool c0 ∧ i = .int .i64 k ∧ k ≤ n ∧ n - k ≤ gk ∧ Hid (MinusAt w wr xs ys v k c0 bs))
  case atStart => exact ⟨0, false, [], rfl, rfl, by omega, by omega, ⟨rfl, OwnB.nil w, by simp [val]⟩⟩
  case round =>
    obtain ⟨k, c, bs, rfl, rfl, hk, hgk, HP⟩ := hrel
    have HL := Lib.hid HP.out.len
    have hlb : bs.length ≤ 100001 := by rw [HL.out]; omega
    by_cases hlt : k < n
    · have H1 := Lib.hid (HA.out wr HP.out.own.below k (by omega))
      have H2 := Lib.hid (HB.out wr HP.out.own.below k (by omega))
      obtain ⟨x, hx⟩ : ∃ x, xs.getD k false = x := ⟨_, rfl⟩
      obtain ⟨y, hy⟩ : ∃ y, ys.getD k false = y := ⟨_, rfl⟩
      rw [hx] at H1
      rw [hy] at H2
      have HX := Lib.hid hx
      have HY := Lib.hid hy
      clear hx hy
      have t1 : decide ((k : Int) < (n : Int)) = true := decide_eq_true (by omega)
      go_wp2_with fail
      refine H1.out.mono ?_
      rintro e w' ⟨rfl, rfl⟩
      go_wp2_with fail
      refine H2.out.mono ?_
      rintro e w' ⟨rfl, rfl⟩
      clear H1 H2
      cases x <;> cases y <;> cases c
      · go_wp2_with (at_builtin; refine wpList_append_one rfl (.tmp 22) (.tmp 28) 123 rfl w.heap.size 4 (.bool false) 1 Tryz.underlying123 infoBool rfl _ (.bool false) rfl _ bs.length (bs.map Value.bool) rfl rfl HP.out.own.own HP.out.own.below.size (by unfold maxLen; omega) (by omega) ?_; intro v1 w1 hown1 hbel1)
        have HP1 := Lib.hid (HP.out.step HX.out HY.out hown1 hbel1)
        clear hown1 hbel1 HP
        go_wp2
        go_roundg (gk - 1)
        case measure => omega
        case rel => exact ⟨k + 1, false, bs ++ [false], rfl, by go_num, by omega, by omega, HP1⟩
      · go_wp2_with (at_builtin; refine wpList_append_one rfl (.tmp 22) (.tmp 28) 123 rfl w.heap.size 4 (.bool false) 1 Tryz.underlying123 infoBool rfl _ (.bool true) rfl _ bs.length (bs.map Value.bool) rfl rfl HP.out.own.own HP.out.own.below.size (by unfold maxLen; omega) (by omega) ?_; intro v1 w1 hown1 hbel1)
        have HP1 := Lib.hid (HP.out.step HX.out HY.out hown1 hbel1)
        clear hown1 hbel1 HP
        go_wp2
        go_roundg (gk - 1)
        case measure => omega
        case rel => exact ⟨k + 1, true, bs ++ [true], rfl, by go_num, by omega, by omega, HP1⟩
      · go_wp2_with (at_builtin; refine wpList_append_one rfl (.tmp 22) (.tmp 28) 123 rfl w.heap.size 4 (.bool false) 1 Tryz.underlying123 infoBool rfl _ (.bool true) rfl _ bs.length (bs.map Value.bool) rfl rfl HP.out.own.own HP.out.own.below.size (by unfold maxLen; omega) (by omega) ?_; intro v1 w1 hown1 hbel1)
        have HP1 := Lib.hid (HP.out.step HX.out HY.out hown1 hbel1)
        clear hown1 hbel1 HP
        go_wp2
        go_roundg (gk - 1)
        case measure => omega
        case rel => exact ⟨k + 1, true, bs ++ [true], rfl, by go_num, by omega, by omega, HP1⟩
      · go_wp2_with (at_builtin; refine wpList_append_one rfl (.tmp 22) (.tmp 28) 123 rfl w.heap.size 4 (.bool false) 1 Tryz.underlying123 infoBool rfl _ (.bool false) rfl _ bs.length (bs.map Value.bool) rfl rfl HP.out.own.own HP.out.own.below.size (by unfold maxLen; omega) (by omega) ?_; intro v1 w1 hown1 hbel1)
        have HP1 := Lib.hid (HP.out.step HX.out HY.out hown1 hbel1)
        clear hown1 hbel1 HP
        go_wp2
        go_roundg (gk - 1)
        case measure => omega
        case rel => exact ⟨k + 1, true, bs ++ [false], rfl, by go_num, by omega, by omega, HP1⟩
      · go_wp2_with (at_builtin; refine wpList_append_one rfl (.tmp 22) (.tmp 28) 123 rfl w.heap.size 4 (.bool false) 1 Tryz.underlying123 infoBool rfl _ (.bool true) rfl _ bs.length (bs.map Value.bool) rfl rfl HP.out.own.own HP.out.own.below.size (by unfold maxLen; omega) (by omega) ?_; intro v1 w1 hown1 hbel1)
        have HP1 := Lib.hid (HP.out.step HX.out HY.out hown1 hbel1)
        clear hown1 hbel1 HP
        go_wp2
        go_roundg (gk - 1)
        case measure => omega
        case rel => exact ⟨k + 1, false, bs ++ [true], rfl, by go_num, by omega, by omega, HP1⟩
      · go_wp2_with (at_builtin; refine wpList_append_one rfl (.tmp 22) (.tmp 28) 123 rfl w.heap.size 4 (.bool false) 1 Tryz.underlying123 infoBool rfl _ (.bool false) rfl _ bs.length (bs.map Value.bool) rfl rfl HP.out.own.own HP.out.own.below.size (by unfold maxLen; omega) (by omega) ?_; intro v1 w1 hown1 hbel1)
        have HP1 := Lib.hid (HP.out.step HX.out HY.out hown1 hbel1)
        clear hown1 hbel1 HP
        go_wp2
        go_roundg (gk - 1)
        case measure => omega
        case rel => exact ⟨k + 1, false, bs ++ [false], rfl, by go_num, by omega, by omega, HP1⟩
      · go_wp2_with (at_builtin; refine wpList_append_one rfl (.tmp 22) (.tmp 28) 123 rfl w.heap.size 4 (.bool false) 1 Tryz.underlying123 infoBool rfl _ (.bool false) rfl _ bs.length (bs.map Value.bool) rfl rfl HP.out.own.own HP.out.own.below.size (by unfold maxLen; omega) (by omega) ?_; intro v1 w1 hown1 hbel1)
        have HP1 := Lib.hid (HP.out.step HX.out HY.out hown1 hbel1)
        clear hown1 hbel1 HP
        go_wp2
        go_roundg (gk - 1)
        case measure => omega
        case rel => exact ⟨k + 1, false, bs ++ [false], rfl, by go_num, by omega, by omega, HP1⟩
      · go_wp2_with (at_builtin; refine wpList_append_one rfl (.tmp 22) (.tmp 28) 123 rfl w.heap.size 4 (.bool false) 1 Tryz.underlying123 infoBool rfl _ (.bool true) rfl _ bs.length (bs.map Value.bool) rfl rfl HP.out.own.own HP.out.own.below.size (by unfold maxLen; omega) (by omega) ?_; intro v1 w1 hown1 hbel1)
        have HP1 := Lib.hid (HP.out.step HX.out HY.out hown1 hbel1)
        clear hown1 hbel1 HP
        go_wp2
        go_roundg (gk - 1)
        case measure => omega
        case rel => exact ⟨k + 1, true, bs ++ [true], rfl, by go_num, by omega, by omega, HP1⟩
    · have t1 : decide ((k : Int) < (n : Int)) = false := decide_eq_false (by omega)
      obtain rfl : k = n := by omega
      have HT := Lib.hid (trim_own (nn := 0 < xs.length) HP.out.own (by omega) (fun h => by rw [HL.out, HN.out]; exact h))
      have e := HP.out.done HN.out HLE.out
      rw [e, show bs.length = xs.length by rw [HL.out, HN.out]] at HT
      clear e
      go_wp2_with fail
      refine HT.out.mono ?_
      rintro e w' ⟨A2, c2, bs2, rfl, hr⟩
      have HR := Lib.hid hr
      clear hr HT HP
      go_wp2
      go_ret
      exact ⟨A2, c2, bs2, rfl, HR.out⟩
end Go.Proofs.YtkflakeocdlinaaGreatDoor
/-
  Contracts of soukref01's Times and Div.
-/
namespace Go.Proofs.YtkflakeocdlinaaGreatDoor
open Go.RowKit

theorem trim_wb {w wr : World} {v : Value} {bs : List Bool} {nn : Prop} (h : WB wr v bs) (hb : Below w.heap.size w wr) (hn : bs.length ≤ 1000000) (hnn : nn → 0 < bs.length) :
    Calls Tryz.prog 83 #[v] wr (CPost w (val bs) bs.length nn) := by
  obtain ⟨A, c, rfl, h1, h2, h3, hcells⟩ := h
  refine (trim_any A c bs wr h1 h2 h3 hcells hn).mono ?_
  rintro e w' ⟨k, hk, rfl, hv, hc, rfl⟩
  have hl : (bs.take k).length = k := by rw [List.length_take]; omega
  refine ⟨A, c, bs.take k, by rw [hl], ⟨A, c, rfl, by rw [hl]; omega, h2, fun ha => by have := h3 ha; rw [hl]; omega, hcells.take k⟩, hv, hc, by rw [hl]; exact hk, fun hnn' ha => ?_, hb⟩
  have := hnn hnn'
  have := (h3 ha).1
  omega

theorem bools_one (bs : List Bool) : ∀ u ∈ bs.map Value.bool, u.oneCell' = true := by
  intro u hu
  rw [List.mem_map] at hu
  obtain ⟨b, _, rfl⟩ := hu
  rfl

/-- what a new row with a bit ahead reads as -/
theorem WB.cons {w : World} {base : Nat} {v : Value} {x : Bool} {bs : List Bool} (h : w.ownsRow base 4 1 v (1 + bs.length) (.bool x :: bs.map Value.bool)) : WB w v (x :: bs) := by
  refine WB.of_own (base := base) ?_
  rw [List.length_cons, List.map_cons, Nat.add_comm]
  exact h

/-- a slice of bits, taken apart -/
theorem WB.parts {w : World} {v : Value} {bs : List Bool} (h : WB w v bs) : ∃ A c, v = .slice A bs.length c ∧ (A = none → bs.length = 0 ∧ c = 0) ∧ Cells w A (bs.map Value.bool) := by
  obtain ⟨A, c, e, _, _, h3, h4⟩ := h
  exact ⟨A, c, e, h3, h4⟩

structure TimesAt (w wr : World) (xs ys : List Bool) (v : Value) (k : Nat) (bs : List Bool) : Prop where
  wb : WB wr v bs
  below : Below w.heap.size w wr
  len : bs.length ≤ xs.length + 2 * (ys.length - k)
  eq : val bs = val xs * val (ys.drop k)

theorem times_end {w : World} {xs ys : List Bool} {A : Option Addr} {c : Nat} {bs : List Bool} {e : Ending} {w' : World} (he : e = .returned (.slice A bs.length c)) (h1 : WB w' (.slice A bs.length c) bs) (h2 : val bs = val xs * val ys) (h3 : Canon bs) (h6 : Below w.heap.size w w') :
    CPost w (val xs * val ys) (xs.length + ys.length) False e w' := by
  refine ⟨A, c, bs, he, h1, h2, h3, ?_, fun h => h.elim, h6⟩
  refine canon_len h3 ?_
  rw [h2, Nat.pow_add]
  exact Nat.mul_lt_mul'' (val_lt xs) (val_lt ys)

set_option maxHeartbeats 3200000 in
theorem times_any (v v' : Value) (xs ys : List Bool) (w : World) (h : WB w v xs) (h' : WB w v' ys) (hn : xs.length ≤ 1000) (hn' : ys.length ≤ 1000) :
    Calls Tryz.prog 78 #[v, v'] w (CPost w (val xs * val ys) (xs.length + ys.length) False) := by
  have HX := Lib.hid h
  clear h
  obtain ⟨A', cb, rfl, hq1, hq2, hq3, hq4⟩ := h'
  by_cases h0 : ys = []
  · subst h0
    have HTR := Lib.hid (trim_wb (nn := False) (WB.nil w) (Below.refl _ w) (by simp) (fun h => h.elim))
    simp only [List.length_nil]
    clear hq1 hq2 hq3 hq4
    have t1 : decide ((0 : Int) ≤ ((0 : Nat) : Int) - 1) = false := by decide
    go_enter Tryz.func78, Tryz.ntmps78
    go_wp2
    refine wp_loop_rounds 1 ?_
    rw [rounds_succ]
    go_wp2_with fail
    refine HTR.out.mono ?_
    rintro e w' ⟨A2, c2, bs2, rfl, h1, h2, h3, h4, h5, h6⟩
    have HE := Lib.hid (times_end (xs := xs) (ys := []) (w := w) rfl h1 (by rw [h2]; rfl) h3 h6)
    clear h1 h2 h3 h4 h5 h6 HTR
    go_wp2
    go_ret
    exact HE.out
  have hp : 0 < ys.length := List.length_pos_iff.mpr h0
  obtain ⟨b, off, rfl, hc⟩ := hq4.bool hp
  have HC := Lib.hid hc
  obtain ⟨m, hn2⟩ : ∃ n, n = ys.length := ⟨_, rfl⟩
  have HM := Lib.hid hn2
  rw [show Value.slice (some ⟨b, off, none⟩) ys.length cb = Value.slice (some ⟨b, off, none⟩) m cb by rw [hn2]]
  rw [← hn2] at hn' hp
  clear hn2 hq1 hq2 hq3 hq4 hc h0
  go_enter Tryz.func78, Tryz.ntmps78
  go_wp2
  go_loopg [5, 6] m (fun gk v i wr => ∃ (k : Nat) (bs : List Bool), i = .int .i64 ((k : Int) - 1) ∧ k ≤ m ∧ k ≤ gk ∧ Hid (TimesAt w wr xs ys v k bs))
  case atStart => exact ⟨m, [], rfl, Nat.le_refl _, Nat.le_refl _, ⟨WB.nil w, Below.refl _ _, by simp, by rw [HM.out, List.drop_length]; simp [val]⟩⟩
  case round =>
    obtain ⟨k, bs, rfl, hk, hgk, HT⟩ := hrel
    by_cases hk0 : k = 0
    · subst hk0
      have t1 : decide ((0 : Int) ≤ ((0 : Nat) : Int) - 1) = false := by decide
      have hlb : bs.length ≤ 1000000 := by have := HT.out.len; have := HM.out; omega
      have HTR := Lib.hid (trim_wb (nn := False) HT.out.wb HT.out.below hlb (fun h => h.elim))
      rw [HT.out.eq, List.drop_zero] at HTR
      go_wp2_with fail
      refine HTR.out.mono ?_
      rintro e w' ⟨A2, c2, bs2, rfl, h1, h2, h3, h4, h5, h6⟩
      have HE := Lib.hid (times_end (xs := xs) (ys := ys) (w := w) rfl h1 h2 h3 h6)
      clear h1 h2 h3 h4 h5 h6 HTR HT
      go_wp2
      go_ret
      exact HE.out
    · obtain ⟨p, rfl⟩ : ∃ p, k = p + 1 := ⟨k - 1, by omega⟩
      have e1 : ((p + 1 : Nat) : Int) - 1 = (p : Int) := by omega
      rw [e1]
      clear e1 hk0
      have t1 : decide ((0 : Int) ≤ (p : Int)) = true := decide_eq_true (by omega)
      have hcell : w.cell? ⟨b, off + p, none⟩ = some (.bool (ys.getD p false)) := HC.out p (by have := HM.out; omega)
      have HDR : Hid (val (ys.drop p) = (ys.getD p false).toNat + 2 * val (ys.drop (p + 1))) := val_drop_step ys p (by have := HM.out; omega)
      obtain ⟨y, hy⟩ : ∃ y, y = ys.getD p false := ⟨_, rfl⟩
      rw [← hy] at hcell HDR
      clear hy
      obtain ⟨Ao, co, hv, ha, hcc⟩ := HT.out.wb.parts
      have hv' := hv
      subst hv'
      have hlb : bs.length ≤ 3000 := by have := HT.out.len; have := HM.out; omega
      have HHA := Lib.hid ha
      have HCC := Lib.hid hcc
      have hcell2 : ∀ w', Below w.heap.size w w' → w'.cell? ⟨b, off + p, none⟩ = some (.bool y) := fun w' hb => by
        rw [hb.cell (p := ⟨b, off + p, none⟩) (World.block_lt_of_cell? w _ hcell)]; exact hcell
      have HC2 := Lib.hid hcell2
      clear ha hcc hv hcell hcell2
      cases y
      · go_wp2_with (at_builtin; refine wpList_append_behind rfl (.tmp 14) (.tmp 15) 123 rfl w.heap.size 4 (.bool false) 1 Tryz.underlying123 infoBool rfl _ (.bool false) Ao co bs.length (bs.map Value.bool) (by simp) rfl rfl HHA.out HCC.out (bools_one bs) HT.out.below.size (by unfold maxLen; omega) (by omega) ?_; intro v1 w1 hown1 hbel1; have hcl := HC2.out w1 (HT.out.below.trans hbel1); have HO := Lib.hid hown1; have HB := Lib.hid hbel1; clear hown1 hbel1)
        go_roundg p
        case measure => omega
        case rel =>
          refine ⟨p, false :: bs, by go_num, by omega, Nat.le_refl _, ⟨WB.cons HO.out, HT.out.below.trans HB.out, ?_, ?_⟩⟩
          · have := HT.out.len; have := HM.out; rw [List.length_cons]; omega
          · rw [HDR.out, val, HT.out.eq]; simp [Nat.mul_left_comm]
      · go_wp2_with (at_builtin; refine wpList_append_behind rfl (.tmp 14) (.tmp 15) 123 rfl w.heap.size 4 (.bool false) 1 Tryz.underlying123 infoBool rfl _ (.bool false) Ao co bs.length (bs.map Value.bool) (by simp) rfl rfl HHA.out HCC.out (bools_one bs) HT.out.below.size (by unfold maxLen; omega) (by omega) ?_; intro v1 w1 hown1 hbel1; have hcl := HC2.out w1 (HT.out.below.trans hbel1); have HO := Lib.hid hown1; have HB := Lib.hid hbel1; clear hown1 hbel1)
        have HPL := Lib.hid (plus_any v1 v (false :: bs) xs w1 (WB.cons HO.out) (HX.out.keep (HT.out.below.trans HB.out)) (by rw [List.length_cons]; omega) (by omega))
        refine HPL.out.mono ?_
        rintro e w2 ⟨v2, bs2, rfl, h1, h2, h3, h4⟩
        have HB2 : Hid (Below w.heap.size w w2) := (HT.out.below.trans HB.out).trans (h4.mono (HT.out.below.trans HB.out).size)
        have H1 := Lib.hid h1
        have H2 := Lib.hid h2
        have H3 := Lib.hid h3
        clear h1 h2 h3 h4 HPL
        go_wp2
        go_roundg p
        case measure => omega
        case rel =>
          refine ⟨p, bs2, by go_num, by omega, Nat.le_refl _, ⟨H1.out, HB2.out, ?_, ?_⟩⟩
          · have := HT.out.len; have := HM.out; have h3 := H3.out; rw [List.length_cons] at h3; omega
          · rw [HDR.out, H2.out, val, HT.out.eq, Nat.mul_add]; simp [Nat.mul_left_comm]; omega
end Go.Proofs.YtkflakeocdlinaaGreatDoor
