/-
  Contracts of basis.Ratio and of souklaw02.lives.
-/
import Derived.Test.YtagailghjfkafaaDoorBasH
import Derived.Test.YtagailghjfkafaaDoorFltC
namespace Go.Proofs.YtagailghjfkafaaDoor
open Go.RowKit Ieee

theorem floatOfInt_any (n : Int) : floatOfInt .f64 n = wd (decide (n < 0)) (ofNat n.natAbs) := by
  unfold floatOfInt FloatKind.nearest
  have e : FloatKind.f64.encode (.number (decide (n < 0)) n.natAbs 0) = double.write (.number (decide (n < 0)) n.natAbs 0) := rfl
  rw [e, write_int]

theorem ratio_some (p q : Int) (b : Nat) (w : World) (h : double.div (floatOfInt .f64 p) (floatOfInt .f64 q) = some b) :
    Calls Tryd.prog 16 #[.int .i64 p, .int .i64 q] w fun e w' => e = .returned (.float .f64 b) ∧ w = w' := by
  have hq : ∀ t w, (binOp .quo t (.float .f64 (floatOfInt .f64 p)) (.float .f64 (floatOfInt .f64 q))).run Tryd.prog w = .ok (.float .f64 b) w := fun t w => run_float_arith w .quo t .f64 _ _ _ h
  clear h
  go_enter Tryd.func16, Tryd.ntmps16
  go_wp2
  go_ret
  exact ⟨rfl, rfl⟩

theorem nan_draw (t : TypeId) (w : World) : ∃ s r, infR < r ∧ r < 9223372036854775808 ∧ (binOp .quo t (.float .f64 0) (.float .f64 0)).run Tryd.prog w = .ok (.float .f64 (wd s r)) w.drew := by
  have h0 : FloatKind.f64.format.div 0 0 = none := by decide +kernel
  obtain ⟨k, hk⟩ : ∃ k, k = w.tape w.drawn (.nanBits .f64 0 0) := ⟨_, rfl⟩
  refine ⟨k % 2 == 1, infR + 1 + (k / 2) % (2 ^ 52 - 1), by omega, ?_, ?_⟩
  · have : k / 2 % (2 ^ 52 - 1) < 2 ^ 52 - 1 := Nat.mod_lt _ (by decide)
    unfold infR
    omega
  · have e : (binOp .quo t (.float .f64 0) (.float .f64 0)).run Tryd.prog w = .ok (.float .f64 ((Question.nanBits .f64 0 0).cut k)) w.drew := by
      simp [binOp, Op.floatArith, h0, hk, Question.forced]
    rw [e]
    congr 2
    unfold Question.cut wd infR
    by_cases hp : k % 2 = 1
    · simp [hp]; omega
    · have : k % 2 = 0 := by omega
      simp [this]

def NanPost (w : World) (e : Ending) (w' : World) : Prop := ∃ s r, infR < r ∧ r < 9223372036854775808 ∧ e = .returned (.float .f64 (wd s r)) ∧ w' = w.drew

theorem ratio_nan (w : World) : Calls Tryd.prog 16 #[.int .i64 0, .int .i64 0] w (NanPost w) := by
  obtain ⟨s, r, h1, h2, hq⟩ := nan_draw 24 w
  have hf : floatOfInt .f64 0 = 0 := by decide +kernel
  have H1 := Lib.hid h1
  have H2 := Lib.hid h2
  clear h1 h2
  go_enter Tryd.func16, Tryd.ntmps16
  go_wp2
  go_ret
  exact ⟨s, r, H1.out, H2.out, rfl, rfl⟩

/-- a third -/
def thirdR : Nat := 4599676419421066581
theorem third_div : double.div (floatOfInt .f64 1) (floatOfInt .f64 3) = some (wd false thirdR) := by decide +kernel
theorem third_txt : txt false thirdR = ⟨#[51, 51, 46, 51, 51, 37]⟩ := by decide +kernel
theorem third_pts : ptsN false thirdR ≠ 10000 := by decide +kernel

def LivesPost (w : World) (e : Ending) (w' : World) : Prop := e = .returned (.bool true) ∧ ∃ n, w' = w.drewN n

theorem lives_any (w : World) : Calls Tryd.prog 6 #[] w (LivesPost w) := by
  have H1 := Lib.hid (ratio_some 1 3 _ w third_div)
  have h2 := text_most false thirdR w (by decide) third_pts
  rw [third_txt] at h2
  have H2 := Lib.hid h2
  have H3 := Lib.hid (ratio_nan w)
  clear h2
  go_enter Tryd.func6, Tryd.ntmps6
  go_wp2_with fail
  refine H1.out.mono ?_
  rintro e w' ⟨rfl, rfl⟩
  go_wp2_with fail
  refine H2.out.mono ?_
  rintro e w' ⟨rfl, rfl⟩
  go_wp2_with fail
  refine H3.out.mono ?_
  rintro e w1 ⟨s, r, h1, h2, rfl, rfl⟩
  have H4 := Lib.hid (text_nan s r w.drew h1 h2)
  clear h1 h2
  go_wp2_with fail
  refine H4.out.mono ?_
  rintro e w2 ⟨rfl, rfl⟩
  go_wp2
  go_ret
  exact ⟨rfl, 1, rfl⟩
end Go.Proofs.YtagailghjfkafaaDoor
