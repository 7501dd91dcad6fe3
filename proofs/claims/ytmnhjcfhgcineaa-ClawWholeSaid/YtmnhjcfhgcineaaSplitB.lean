/-
  Contract of money.Split: what is wrong, or the parts.
-/
import Derived.Test.YtmnhjcfhgcineaaSplitP
import Derived.Test.YtmnhjcfhgcineaaDivA
namespace Go.Proofs.Ytmnhjcfhgcineaa
open Go.RowKit

def splitErr (T : Int) (ws : List Int) : Int :=
  if T < 0 ∨ anyNeg ws = true then 1 else match sumTo 0 ws with
    | none => 2
    | some s => if s = 0 then 1 else 0

/-- the order of the places: p comes at t p, at p stands s p -/
structure Ordr (n : Nat) (key : Nat → Int) (s t : Nat → Nat) : Prop where
  st : ∀ p, s (t p) = p
  ts : ∀ p, t (s p) = p
  lt : ∀ p, p < n → s p < n
  out : ∀ p, ¬ p < n → s p = p
  ordd : Ordd key 0 n s

theorem Ordr.of_shuf {n : Nat} {key : Nat → Int} {d : Nat → Nat} (h1 : Ordd key 0 n d) (h2 : Shuf 0 n id d) : ∃ t, Ordr n key d t := by
  obtain ⟨s, t, k1, k2, k3, k4, k5⟩ := h2
  have e : d = s := by funext p; exact k1 p
  subst e
  exact ⟨t, k2, k3, fun p hp => (k5 p (by omega) hp).2, fun p hp => k4 p (by omega), h1⟩

/-- a part, when k of those that most was cut of have got one more -/
def partK (T S : Nat) (W t : Nat → Nat) (k i : Nat) : Nat := qf T S W i + if t i < k then 1 else 0

def SplitErr (T : Int) (ws : List Int) (w : World) (e : Ending) (w' : World) : Prop := e = .returned (.tuple #[.slice none 0 0, .int .i64 (splitErr T ws)]) ∧ splitErr T ws ≠ 0 ∧ w = w'

/-- the parts stand in a new row -/
def SplitYes (T S : Nat) (W : Nat → Nat) (n : Nat) (w : World) (e : Ending) (w' : World) : Prop :=
  ∃ g s t, e = .returned (.tuple #[.slice (some ⟨g, 0, none⟩) n n, .int .i64 0]) ∧ w.heap.size ≤ g ∧ Ordr n (fun i => (rf T S W i : Int)) s t ∧
    w'.rowIs g 2 n (fun i => .int .i64 (partK T S W t (leftN T S W n) i : Nat)) ∧ Below w.heap.size w w'

set_option maxHeartbeats 800000 in
theorem split_err (T : Int) (a : Option Addr) (c : Nat) (ws : List Int) (w : World) (hr : RowI .i64 w a ws) (hz : ∀ z ∈ ws, Amt z) (hl : ws.length ≤ maxLen) (he : splitErr T ws ≠ 0) :
    Calls Try.prog 17 #[.int .i64 T, .slice a ws.length c] w (SplitErr T ws w) := by
  have HE := Lib.hid he
  clear he
  by_cases hT : T < 0
  · have e1 : splitErr T ws = 1 := if_pos (.inl hT)
    have HE1 := Lib.hid e1
    clear e1 hr hz hl
    go_enter Try.func17, Try.ntmps17
    go_wp2
    go_ret2
    exact ⟨by rw [HE1.out]; rfl, HE.out, rfl⟩
  have HC := Lib.hid (containsFunc_any a c ws w hr hl)
  by_cases hA : anyNeg ws = true
  · have e1 : splitErr T ws = 1 := if_pos (.inr hA)
    have HE1 := Lib.hid e1
    rw [hA] at HC
    clear e1 hr hz hl hA
    go_enter Try.func17, Try.ntmps17
    go_wp2_with fail
    refine HC.out.mono ?_
    rintro e w' ⟨rfl, rfl⟩
    go_wp2
    go_ret2
    exact ⟨by rw [HE1.out]; rfl, HE.out, rfl⟩
  have hA' : anyNeg ws = false := by simpa using hA
  rw [hA'] at HC
  have HA := Lib.hid (Add_any a c ws w hr hz hl)
  have e0 : splitErr T ws = match sumTo 0 ws with | none => 2 | some s => if s = 0 then 1 else 0 := if_neg (by simp [hT, hA])
  cases hs : sumTo 0 ws with
  | none =>
    rw [hs] at e0 HA
    have HE1 := Lib.hid e0
    clear e0 hr hz hl hA hA' hs
    go_enter Try.func17, Try.ntmps17
    go_wp2_with fail
    refine HC.out.mono ?_
    rintro e w' ⟨rfl, rfl⟩
    go_wp2_with fail
    refine HA.out.mono ?_
    rintro e w' ⟨rfl, rfl⟩
    go_wp2
    go_ret2
    exact ⟨by rw [HE1.out]; rfl, HE.out, rfl⟩
  | some s =>
    rw [hs] at e0 HA
    have hs0 : s = 0 := by
      by_cases h : s = 0
      · exact h
      · exact absurd (by rw [e0]; exact if_neg h) HE.out
    subst hs0
    have HE1 := Lib.hid e0
    clear e0 hr hz hl hA hA' hs
    go_enter Try.func17, Try.ntmps17
    go_wp2_with fail
    refine HC.out.mono ?_
    rintro e w' ⟨rfl, rfl⟩
    go_wp2_with fail
    refine HA.out.mono ?_
    rintro e w' ⟨rfl, rfl⟩
    go_wp2
    go_ret2
    exact ⟨by rw [HE1.out]; rfl, HE.out, rfl⟩
end Go.Proofs.Ytmnhjcfhgcineaa
