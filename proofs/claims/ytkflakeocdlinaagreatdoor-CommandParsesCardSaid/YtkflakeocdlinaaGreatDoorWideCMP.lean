/-
  Contracts of soukref01's Plus and minus.
-/
import Derived.Test.YtkflakeocdlinaaGreatDoorWideBMP
import Derived.BigGuardPart
import Derived.Deep.DeepCutAuto
import Derived.Deep.CutBlock
import Derived.Deep.CutRange
namespace Go.Proofs.YtkflakeocdlinaaGreatDoor
open Go.RowKit

def xorB (x y c : Bool) : Bool := Bool.xor (Bool.xor x y) c
def carB (x y c : Bool) : Bool := x && y || x && c || y && c
def borB (x y c : Bool) : Bool := !x && (y || c) || y && c

structure PlusAt (w wr : World) (xs ys : List Bool) (v : Value) (k : Nat) (c : Bool) (bs : List Bool) : Prop where
  len : bs.length = k
  own : OwnB w wr v bs
  eq : val bs + 2 ^ k * c.toNat = val (xs.take k) + val (ys.take k)
  end_ : k ≤ max xs.length ys.length ∨ (k = max xs.length ys.length + 1 ∧ c = false)

theorem PlusAt.step {w wr w' : World} {xs ys : List Bool} {v v' : Value} {k : Nat} {c x y : Bool} {bs : List Bool} (h : PlusAt w wr xs ys v k c bs) (hx : xs.getD k false = x) (hy : ys.getD k false = y)
    (h1 : w'.ownsRow w.heap.size 4 1 v' (bs.length + 1) (bs.map Value.bool ++ [.bool (xorB x y c)])) (h2 : Below w.heap.size wr w') (hgo : k < xs.length ∨ k < ys.length ∨ c = true) :
    PlusAt w w' xs ys v' (k + 1) (carB x y c) (bs ++ [xorB x y c]) := by
  refine ⟨by simp [h.len], h.own.snoc h1 h2, ?_, ?_⟩
  · rw [val_snoc, h.len, val_take_step, val_take_step, hx, hy, Nat.pow_succ]
    have e := h.eq
    have s := add_step x y c
    have s2 : 2 ^ k * x.toNat + 2 ^ k * y.toNat + 2 ^ k * c.toNat = 2 ^ k * (xorB x y c).toNat + 2 ^ k * 2 * (carB x y c).toNat := by
      rw [← Nat.mul_add, ← Nat.mul_add, s, Nat.mul_add, Nat.mul_assoc]; rfl
    omega
  · by_cases hm : k < max xs.length ys.length
    · left; omega
    · have hk : k = max xs.length ys.length := by
        rcases h.end_ with he | ⟨he, hc⟩
        · omega
        · rcases hgo with hg | hg | hg
          · omega
          · omega
          · rw [hc] at hg; cases hg
      right
      refine ⟨by omega, ?_⟩
      rw [getD_past (by omega)] at hx hy
      rw [← hx, ← hy]
      rfl

theorem bool_of {p : Prop} [Decidable p] {b : Bool} (h : decide p = b) : (b = true → p) ∧ (b = false → ¬ p) := by
  constructor
  · intro e; rw [e] at h; exact of_decide_eq_true h
  · intro e; rw [e] at h; exact of_decide_eq_false h

set_option maxHeartbeats 3200000 in
theorem plus_any (v v' : Value) (xs ys : List Bool) (w : World) (h : WB w v xs) (h' : WB w v' ys) (hn : xs.length ≤ 100000) (hn' : ys.length ≤ 100000) :
    Calls Tryz.prog 82 #[v, v'] w (WPost w (val xs + val ys) (max xs.length ys.length + 1)) := by
  have HA := Lib.hid (fun W (hb : Below w.heap.size w W) i (hi : i ≤ 1000000) => at_any v xs i W (h.keep hb) hi (by omega))
  have HB := Lib.hid (fun W (hb : Below w.heap.size w W) i (hi : i ≤ 1000000) => at_any v' ys i W (h'.keep hb) hi (by omega))
  obtain ⟨A, ca, rfl, _⟩ := h
  obtain ⟨A', cb, rfl, _⟩ := h'
  obtain ⟨n, hn1⟩ : ∃ n, n = xs.length := ⟨_, rfl⟩
  obtain ⟨m, hn2⟩ : ∃ n, n = ys.length := ⟨_, rfl⟩
  have HN := Lib.hid hn1
  have HN' := Lib.hid hn2
  rw [← hn1] at hn HA
  rw [← hn2] at hn' HB
  rw [show Value.slice A xs.length ca = Value.slice A n ca by rw [hn1], show Value.slice A' ys.length cb = Value.slice A' m cb by rw [hn2]]
  clear hn1 hn2
  go_enter Tryz.func82, Tryz.ntmps82
  go_wp2
  go_loopg [5, 6, 7, 8, 9] (max n m + 2) (fun gk v c i _ _ wr => ∃ (k : Nat) (c0 : Bool) (bs : List Bool), c = .bool c0 ∧ i = .int .i64 k ∧ k ≤ 100001 ∧ max n m + 2 - k ≤ gk ∧ Hid (PlusAt w wr xs ys v k c0 bs))
  case atStart => exact ⟨0, false, [], rfl, rfl, by omega, by omega, ⟨rfl, OwnB.nil w, by simp [val], .inl (Nat.zero_le _)⟩⟩
  case round =>
    obtain ⟨k, c, bs, rfl, rfl, hk, hgk, HP⟩ := hrel
    have HL := Lib.hid HP.out.len
    by_cases hgo : k < n ∨ k < m ∨ c = true
    · have hkM : k ≤ max n m := by
        rcases HP.out.end_ with he | ⟨he, hc⟩
        · have := HN.out; have := HN'.out; omega
        · rcases hgo with hg | hg | hg
          · omega
          · omega
          · rw [hc] at hg; cases hg
      have HGO : Hid (k < xs.length ∨ k < ys.length ∨ c = true) := by show _ ∨ _; rw [← HN.out, ← HN'.out]; exact hgo
      have H1 := Lib.hid (HA.out wr HP.out.own.below k (by omega))
      have H2 := Lib.hid (HB.out wr HP.out.own.below k (by omega))
      obtain ⟨x, hx⟩ : ∃ x, xs.getD k false = x := ⟨_, rfl⟩
      obtain ⟨y, hy⟩ : ∃ y, ys.getD k false = y := ⟨_, rfl⟩
      rw [hx] at H1
      rw [hy] at H2
      have HX := Lib.hid hx
      have HY := Lib.hid hy
      clear hx hy
      have hlb : bs.length ≤ 100001 := by rw [HL.out]; exact hk
      go_upto_region 4 with fail
      go_cut [22] from 10 to 54 (fun t wx => t = .bool true ∧ wx = wr)
      case first =>
        clear H1 H2
        by_cases g1 : k < n
        · have t1 : decide ((k : Int) < (n : Int)) = true := decide_eq_true (by omega)
          go_wp2
          go_meet
          exact ⟨rfl, rfl⟩
        · have t1 : decide ((k : Int) < (n : Int)) = false := decide_eq_false (by omega)
          by_cases g2 : k < m
          · have t2 : decide ((k : Int) < (m : Int)) = true := decide_eq_true (by omega)
            go_wp2
            go_meet
            exact ⟨rfl, rfl⟩
          · have t2 : decide ((k : Int) < (m : Int)) = false := decide_eq_false (by omega)
            obtain rfl : c = true := by rcases hgo with hg | hg | hg; omega; omega; exact hg
            go_wp2
            go_meet
            exact ⟨rfl, rfl⟩
      case rest =>
        obtain ⟨rfl, hwe⟩ := hcut
        subst hwe
        go_wp2_with fail
        refine H1.out.mono ?_
        rintro e w' ⟨rfl, rfl⟩
        go_wp2_with fail
        refine H2.out.mono ?_
        rintro e w' ⟨rfl, rfl⟩
        clear H1 H2 hgo
        cases x <;> cases y <;> cases c
        · go_wp2_with (at_builtin; refine wpList_append_one rfl (.tmp 31) (.tmp 37) 123 rfl w.heap.size 4 (.bool false) 1 Tryz.underlying123 infoBool rfl _ (.bool false) rfl _ bs.length (bs.map Value.bool) rfl rfl HP.out.own.own HP.out.own.below.size (by unfold maxLen; omega) (by omega) ?_; intro v1 w1 hown1 hbel1)
          have HP1 := Lib.hid (HP.out.step HX.out HY.out hown1 hbel1 (by first | exact HGO.out | exact .inr (.inr rfl)))
          clear hown1 hbel1 HP
          go_wp2
          go_roundg (gk - 1)
          case measure => omega
          case rel => exact ⟨k + 1, false, bs ++ [false], rfl, by go_num, by omega, by omega, HP1⟩
        · go_wp2_with (at_builtin; refine wpList_append_one rfl (.tmp 31) (.tmp 37) 123 rfl w.heap.size 4 (.bool false) 1 Tryz.underlying123 infoBool rfl _ (.bool true) rfl _ bs.length (bs.map Value.bool) rfl rfl HP.out.own.own HP.out.own.below.size (by unfold maxLen; omega) (by omega) ?_; intro v1 w1 hown1 hbel1)
          have HP1 := Lib.hid (HP.out.step HX.out HY.out hown1 hbel1 (by first | exact HGO.out | exact .inr (.inr rfl)))
          clear hown1 hbel1 HP
          go_wp2
          go_roundg (gk - 1)
          case measure => omega
          case rel => exact ⟨k + 1, false, bs ++ [true], rfl, by go_num, by omega, by omega, HP1⟩
        · go_wp2_with (at_builtin; refine wpList_append_one rfl (.tmp 31) (.tmp 37) 123 rfl w.heap.size 4 (.bool false) 1 Tryz.underlying123 infoBool rfl _ (.bool true) rfl _ bs.length (bs.map Value.bool) rfl rfl HP.out.own.own HP.out.own.below.size (by unfold maxLen; omega) (by omega) ?_; intro v1 w1 hown1 hbel1)
          have HP1 := Lib.hid (HP.out.step HX.out HY.out hown1 hbel1 (by first | exact HGO.out | exact .inr (.inr rfl)))
          clear hown1 hbel1 HP
          go_wp2
          go_roundg (gk - 1)
          case measure => omega
          case rel => exact ⟨k + 1, false, bs ++ [true], rfl, by go_num, by omega, by omega, HP1⟩
        · go_wp2_with (at_builtin; refine wpList_append_one rfl (.tmp 31) (.tmp 37) 123 rfl w.heap.size 4 (.bool false) 1 Tryz.underlying123 infoBool rfl _ (.bool false) rfl _ bs.length (bs.map Value.bool) rfl rfl HP.out.own.own HP.out.own.below.size (by unfold maxLen; omega) (by omega) ?_; intro v1 w1 hown1 hbel1)
          have HP1 := Lib.hid (HP.out.step HX.out HY.out hown1 hbel1 (by first | exact HGO.out | exact .inr (.inr rfl)))
          clear hown1 hbel1 HP
          go_wp2
          go_roundg (gk - 1)
          case measure => omega
          case rel => exact ⟨k + 1, true, bs ++ [false], rfl, by go_num, by omega, by omega, HP1⟩
        · go_wp2_with (at_builtin; refine wpList_append_one rfl (.tmp 31) (.tmp 37) 123 rfl w.heap.size 4 (.bool false) 1 Tryz.underlying123 infoBool rfl _ (.bool true) rfl _ bs.length (bs.map Value.bool) rfl rfl HP.out.own.own HP.out.own.below.size (by unfold maxLen; omega) (by omega) ?_; intro v1 w1 hown1 hbel1)
          have HP1 := Lib.hid (HP.out.step HX.out HY.out hown1 hbel1 (by first | exact HGO.out | exact .inr (.inr rfl)))
          clear hown1 hbel1 HP
          go_wp2
          go_roundg (gk - 1)
          case measure => omega
          case rel => exact ⟨k + 1, false, bs ++ [true], rfl, by go_num, by omega, by omega, HP1⟩
        · go_wp2_with (at_builtin; refine wpList_append_one rfl (.tmp 31) (.tmp 37) 123 rfl w.heap.size 4 (.bool false) 1 Tryz.underlying123 infoBool rfl _ (.bool false) rfl _ bs.length (bs.map Value.bool) rfl rfl HP.out.own.own HP.out.own.below.size (by unfold maxLen; omega) (by omega) ?_; intro v1 w1 hown1 hbel1)
          have HP1 := Lib.hid (HP.out.step HX.out HY.out hown1 hbel1 (by first | exact HGO.out | exact .inr (.inr rfl)))
          clear hown1 hbel1 HP
          go_wp2
          go_roundg (gk - 1)
          case measure => omega
          case rel => exact ⟨k + 1, true, bs ++ [false], rfl, by go_num, by omega, by omega, HP1⟩
        · go_wp2_with (at_builtin; refine wpList_append_one rfl (.tmp 31) (.tmp 37) 123 rfl w.heap.size 4 (.bool false) 1 Tryz.underlying123 infoBool rfl _ (.bool false) rfl _ bs.length (bs.map Value.bool) rfl rfl HP.out.own.own HP.out.own.below.size (by unfold maxLen; omega) (by omega) ?_; intro v1 w1 hown1 hbel1)
          have HP1 := Lib.hid (HP.out.step HX.out HY.out hown1 hbel1 (by first | exact HGO.out | exact .inr (.inr rfl)))
          clear hown1 hbel1 HP
          go_wp2
          go_roundg (gk - 1)
          case measure => omega
          case rel => exact ⟨k + 1, true, bs ++ [false], rfl, by go_num, by omega, by omega, HP1⟩
        · go_wp2_with (at_builtin; refine wpList_append_one rfl (.tmp 31) (.tmp 37) 123 rfl w.heap.size 4 (.bool false) 1 Tryz.underlying123 infoBool rfl _ (.bool true) rfl _ bs.length (bs.map Value.bool) rfl rfl HP.out.own.own HP.out.own.below.size (by unfold maxLen; omega) (by omega) ?_; intro v1 w1 hown1 hbel1)
          have HP1 := Lib.hid (HP.out.step HX.out HY.out hown1 hbel1 (by first | exact HGO.out | exact .inr (.inr rfl)))
          clear hown1 hbel1 HP
          go_wp2
          go_roundg (gk - 1)
          case measure => omega
          case rel => exact ⟨k + 1, true, bs ++ [true], rfl, by go_num, by omega, by omega, HP1⟩
    · obtain rfl : c = false := by
        cases c
        · rfl
        · exact absurd (.inr (.inr rfl)) hgo
      have t1 : decide ((k : Int) < (n : Int)) = false := decide_eq_false (fun h => hgo (.inl (by omega)))
      have t2 : decide ((k : Int) < (m : Int)) = false := decide_eq_false (fun h => hgo (.inr (.inl (by omega))))
      have g1 := of_decide_eq_false t1
      have g2 := of_decide_eq_false t2
      clear hgo
      go_wp2
      go_ret
      refine ⟨_, bs, rfl, WB.of_own HP.out.own.own, ?_, ?_, HP.out.own.below⟩
      · have e := HP.out.eq
        rw [val_take_past xs k (by have := HN.out; omega), val_take_past ys k (by have := HN'.out; omega)] at e
        simpa using e
      · rw [HP.out.len]
        rcases HP.out.end_ with he | ⟨he, _⟩
        · omega
        · omega
end Go.Proofs.YtkflakeocdlinaaGreatDoor
