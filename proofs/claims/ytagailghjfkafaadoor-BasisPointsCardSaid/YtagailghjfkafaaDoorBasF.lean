/-
  Contracts of the texts' figures.
-/
import Derived.Test.YtagailghjfkafaaDoorBasE
import Derived.Test.YtagailghjfkafaaDoorShelf
import Derived.BigQuiet
import Derived.Deep.QuietTactic
import Derived.Below
import Derived.IntWalk
namespace Go.Proofs.YtagailghjfkafaaDoor
open Go.RowKit Ieee

/-- a figure -/
def dgt (a : Nat) : UInt8 := (48 + a).toUInt8

theorem dec1 (m : Nat) (h : m < 10) : (Lib.decDigits m).toArray = #[dgt m] := by
  have key : ∀ m : Fin 10, (Lib.decDigits m.val).toArray = #[dgt m.val] := by decide +kernel
  exact key ⟨m, h⟩
theorem dec2 (m : Nat) (h0 : ¬ m < 10) (h : m < 100) : (Lib.decDigits m).toArray = #[dgt (m / 10), dgt (m % 10)] := by
  have key : ∀ m : Fin 100, ¬ m.val < 10 → (Lib.decDigits m.val).toArray = #[dgt (m.val / 10), dgt (m.val % 10)] := by decide +kernel
  exact key ⟨m, h⟩ h0
theorem cutd (a : Nat) (h : a < 10) : (ByteArray.mk #[48, 49, 50, 51, 52, 53, 54, 55, 56, 57]).extract a (a + 1) = ⟨#[dgt a]⟩ := by
  have key : ∀ a : Fin 10, (ByteArray.mk #[48, 49, 50, 51, 52, 53, 54, 55, 56, 57]).extract a.val (a.val + 1) = ⟨#[dgt a.val]⟩ := by decide +kernel
  exact key ⟨a, h⟩

theorem slice_run (a : Nat) (h : a < 10) (w : World) :
    (Instr.slice 9 (.string ⟨#[48, 49, 50, 51, 52, 53, 54, 55, 56, 57]⟩) (some (.int .i64 (a : Int))) (some (.int .i64 ((a : Int) + 1))) none).run Tryd.prog w = .ok (.string ⟨#[dgt a]⟩) w := by
  rw [run_slice_string w 9 _ .i64 .i64 (a : Int) ((a : Int) + 1) Tryd.underlying9 (by omega) (by omega) (by rw [show (ByteArray.mk #[48, 49, 50, 51, 52, 53, 54, 55, 56, 57]).size = 10 from rfl]; omega)]
  rw [show ((a : Int) + 1).toNat = a + 1 from by omega, Int.toNat_natCast, cutd a h]

theorem two_any (m : Nat) (w : World) (h : m < 100) :
    Calls Tryd.prog 24 #[.int .i64 (m : Int)] w fun e w' => e = .returned (.string (⟨#[dgt (m / 10), dgt (m % 10)]⟩)) ∧ ∃ n, w' = w.drewN n := by
  have b0 : (0 : Int) ≤ (m : Int) := by omega
  have b1 : (m : Int) ≤ 99 := by omega
  obtain ⟨a, ha⟩ : ∃ a, a = m / 10 := ⟨_, rfl⟩
  obtain ⟨b, hb⟩ : ∃ b, b = m % 10 := ⟨_, rfl⟩
  rw [← ha, ← hb]
  have s1 := slice_run a (by omega)
  have s2 := slice_run b (by omega)
  have f1 : IntKind.i64.wrap ((m : Int) / 10) = (a : Int) := by rw [IntWalk.i64_in _ (by omega)]; omega
  have f2 : IntKind.i64.wrap ((a : Int) + 1) = (a : Int) + 1 := IntWalk.i64_in _ (by omega)
  have f3 : (m : Int) % 10 = (b : Int) := by omega
  have f4 : IntKind.i64.wrap ((b : Int) + 1) = (b : Int) + 1 := IntWalk.i64_in _ (by omega)
  clear h ha hb b1
  go_enter Tryd.func24, Tryd.ntmps24
  go_wp2
  go_quiet (fail)
  go_wp2
  go_ret
  exact ⟨rfl, _, rfl⟩

theorem twoF_any (m : Nat) (w : World) (h : m < 100) :
    Calls Tryd.prog 23 #[.int .i64 (m : Int)] w fun e w' => e = .returned (.string ⟨#[dgt (m / 10), dgt (m % 10)]⟩) ∧ w = w' := by
  have H1 := Tryd.strconv_FormatInt_10_small m h w
  by_cases hm : m < 10
  · have t1 : decide ((m : Int) < 10) = true := decide_eq_true (by omega)
    rw [dec1 m hm] at H1
    have H2 := Lib.hid H1
    have e0 : m / 10 = 0 := by omega
    have e1 : m % 10 = m := by omega
    rw [e0, e1]
    clear h hm H1 e0 e1
    go_enter Tryd.func23, Tryd.ntmps23
    go_wp2_with fail
    refine H2.out.mono ?_
    rintro e w' ⟨rfl, rfl⟩
    go_wp2
    go_ret
    exact ⟨rfl, rfl⟩
  · have t1 : decide ((m : Int) < 10) = false := decide_eq_false (by omega)
    rw [dec2 m hm h] at H1
    have H2 := Lib.hid H1
    clear h hm H1
    go_enter Tryd.func23, Tryd.ntmps23
    go_wp2_with fail
    refine H2.out.mono ?_
    rintro e w' ⟨rfl, rfl⟩
    go_wp2
    go_ret
    exact ⟨rfl, rfl⟩

/-- a number below 100, without a 0 ahead -/
def S1 (q : Nat) : ByteArray := if q < 10 then ⟨#[dgt q]⟩ else ⟨#[dgt (q / 10), dgt (q % 10)]⟩
/-- a rate's text -/
def numTxt (n : Nat) : ByteArray := if n = 10000 then ⟨#[49, 48, 48, 46, 48, 48, 37]⟩ else S1 (n / 100) ++ ⟨#[46]⟩ ++ ⟨#[dgt (n % 100 / 10), dgt (n % 100 % 10)]⟩ ++ ⟨#[37]⟩
def txt (s : Bool) (r : Nat) : ByteArray :=
  if infR < r then ⟨#[45]⟩ else if ptsE s r = 2 then ⟨#[62]⟩ else if ptsE s r = 1 then ⟨#[60]⟩ else numTxt (ptsN s r).toNat

theorem fmt_small (q : Nat) (h : q < 100) (w : World) : Calls Tryd.prog 22 #[.int .i64 (q : Int), .int .i64 10] w fun e w' => e = .returned (.string (S1 q)) ∧ w = w' := by
  refine (Tryd.strconv_FormatInt_10_small q h w).mono ?_
  rintro e w' ⟨rfl, rfl⟩
  unfold S1
  by_cases hq : q < 10
  · rw [if_pos hq, dec1 q hq]; exact ⟨rfl, rfl⟩
  · rw [if_neg hq, dec2 q hq h]; exact ⟨rfl, rfl⟩

theorem ptsE_cases (s : Bool) (r : Nat) : ptsE s r = 0 ∨ ptsE s r = 1 ∨ ptsE s r = 2 := by
  unfold ptsE; (repeat' split) <;> omega
theorem ptsN_le (s : Bool) (r : Nat) : 0 ≤ ptsN s r ∧ ptsN s r ≤ 10000 := by
  unfold ptsN; (repeat' split) <;> omega

end Go.Proofs.YtagailghjfkafaaDoor
