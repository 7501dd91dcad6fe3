/-
  Contract of claw.Take.
-/
import Derived.Test.YtmnhjcfhgcineaaClA
import Derived.Test.YtmnhjcfhgcineaaSortH
import Derived.Test.YtmnhjcfhgcineaaDivB
import Derived.Test.YtmnhjcfhgcineaaLivP
namespace Go.Proofs.Ytmnhjcfhgcineaa
open Go.RowKit

/-- something is wrong with the take -/
def TkBad (ws : List Int) (T : Int) (w : World) (e : Ending) (w' : World) : Prop := e = .returned (.tuple #[.slice none 0 0, .int .i64 (tkE ws T)]) ∧ w = w'
/-- what is taken stands in a new row -/
def TkYes (ws : List Int) (T : Int) (w : World) (e : Ending) (w' : World) : Prop :=
  ∃ g ps, e = .returned (.tuple #[.slice (some ⟨g, 0, none⟩) ws.length ws.length, .int .i64 0]) ∧ w.heap.size ≤ g ∧ Taken ws T ps ∧ RowI .i64 w' (some ⟨g, 0, none⟩) ps ∧ Below w.heap.size w w'

set_option maxHeartbeats 800000 in
theorem take_bad (T : Int) (a : Option Addr) (c : Nat) (ws : List Int) (w : World) (hr : RowI .i64 w a ws) (hz : ∀ z ∈ ws, Amt z) (hl : ws.length ≤ maxLen) (he : tkE ws T ≠ 0) :
    Calls Try.prog 8 #[.slice a ws.length c, .int .i64 T] w (TkBad ws T w) := by
  by_cases hT : T < 1
  · have HE1 := Lib.hid (tkE_arg (ws := ws) (.inl hT))
    clear hr hz hl he
    go_enter Try.func8, Try.ntmps8
    go_wp2
    go_ret2
    exact ⟨by rw [HE1.out]; rfl, rfl⟩
  have HB := Lib.hid (below_any a c ws w hr hl)
  by_cases hA : anyNeg ws = true
  · have HE1 := Lib.hid (tkE_arg (T := T) (.inr hA))
    rw [hA] at HB
    clear hr hz hl hA he
    go_enter Try.func8, Try.ntmps8
    go_wp2_with (first | (go_at_call 15; (with_reducible refine HB.out.mono ?_); rintro e w' ⟨rfl, rfl⟩) | fail)
    go_ret2
    exact ⟨by rw [HE1.out]; rfl, rfl⟩
  have hA' : anyNeg ws = false := by simpa using hA
  rw [hA'] at HB
  have HA := Lib.hid (Add_any a c ws w hr hz hl)
  have e0 := tkE_sum hT hA'
  cases hs : sumTo 0 ws with
  | none =>
    rw [hs] at e0 HA
    have HE1 := Lib.hid e0
    clear e0 hr hz hl hA hA' hs he
    go_enter Try.func8, Try.ntmps8
    go_wp2_with (first | (go_at_call 15; (with_reducible refine HB.out.mono ?_); rintro e w' ⟨rfl, rfl⟩) | (go_at_call 16; (with_reducible refine HA.out.mono ?_); rintro e w' ⟨rfl, rfl⟩) | fail)
    go_ret2
    exact ⟨by rw [HE1.out]; rfl, rfl⟩
  | some s =>
    rw [hs] at e0 HA
    have hlt : s < T := by
      by_cases h : s < T
      · exact h
      · exact absurd (by rw [e0]; exact if_neg h) he
    have HE1 : Hid (tkE ws T = 10) := by show _ = _; rw [e0]; exact if_pos hlt
    rw [show (some s).getD 0 = s from rfl, show overE (some s).isSome = 0 from rfl] at HA
    clear e0 hr hz hl hA hA' hs he
    go_enter Try.func8, Try.ntmps8
    go_wp2_with (first | (go_at_call 15; (with_reducible refine HB.out.mono ?_); rintro e w' ⟨rfl, rfl⟩) | (go_at_call 16; (with_reducible refine HA.out.mono ?_); rintro e w' ⟨rfl, rfl⟩) | fail)
    go_ret2
    exact ⟨by rw [HE1.out]; rfl, rfl⟩

/-- money.Split of what may be taken -/
theorem split_taken {T : Int} {b off c : Nat} {ws : List Int} {w : World} (hr : RowI .i64 w (some ⟨b, off, none⟩) ws) (hz : ∀ z ∈ ws, Amt z) (hn : ws.length ≤ 40) (G : GoodT ws T) :
    Calls Try.prog 17 #[.int .i64 T, .slice (some ⟨b, off, none⟩) ws.length c] w (TkYes ws T w) := by
  obtain ⟨b', off', e1, hc⟩ := hr G.pos
  injection e1 with e1
  injection e1 with e1 e2
  subst e1
  subst e2
  have h1 := G.one
  have h2 := G.le
  have h3 := G.S2
  have hcw : ∀ i, i < ws.length → w.cell? ⟨b, off + i, none⟩ = some (.int .i64 (wN ws i : Nat)) := fun i hi => by rw [hc i hi, G.each i hi]
  have hT : ((T.toNat : Nat) : Int) = T := by omega
  have h := split_yes T.toNat (wsS ws) b off c ws w G.pos (by omega) (by omega) G.S0 G.sum hcw (World.block_lt_of_cell? w _ (hcw 0 G.pos)) G.neg h3 rfl hr hz (sortOK_40 hn)
    (fun i hi h => div64_all _ _ _ h (Nat.mod_lt _ (by omega)) (by omega))
  rw [hT] at h
  refine Calls.mono h ?_
  rintro e w' ⟨g, s, t, rfl, hg, ho, hrow, hb⟩
  refine ⟨g, _, rfl, hg, ⟨s, t, ho, rfl⟩, RowI.of_rowIs (t := 2) ?_, hb⟩
  rw [partsI_length]
  exact hrow.congr fun i hi => by rw [partsI_get hi]

set_option maxHeartbeats 800000 in
theorem take_yes (T : Int) (a : Option Addr) (c : Nat) (ws : List Int) (w : World) (hr : RowI .i64 w a ws) (hz : ∀ z ∈ ws, Amt z) (hn : ws.length ≤ 40) (he : tkE ws T = 0) :
    Calls Try.prog 8 #[.slice a ws.length c, .int .i64 T] w (TkYes ws T w) := by
  have G := GoodT.of he
  have hl : ws.length ≤ maxLen := by unfold maxLen; omega
  have HB := Lib.hid (below_any a c ws w hr hl)
  rw [G.neg] at HB
  have HA := Lib.hid (Add_any a c ws w hr hz hl)
  rw [G.sum, show (some ((wsS ws : Nat) : Int)).getD 0 = ((wsS ws : Nat) : Int) from rfl, show overE (some ((wsS ws : Nat) : Int)).isSome = 0 from rfl] at HA
  obtain ⟨b, off, rfl, _⟩ := hr G.pos
  have HS := Lib.hid (split_taken (c := c) hr hz hn G)
  obtain ⟨n, hn'⟩ : ∃ n, n = ws.length := ⟨_, rfl⟩
  obtain ⟨S, hS⟩ : ∃ S, S = wsS ws := ⟨_, rfl⟩
  have h1 : ¬ T < 1 := by have := G.one; omega
  have h2 : ¬ (S : Int) < T := by have := G.le; omega
  rw [← hS] at HA
  have HN := Lib.hid hn'
  rw [← hn'] at HB HA HS ⊢
  clear hr hz hl hn he G hn' hS
  go_enter Try.func8, Try.ntmps8
  go_wp2_with (first | (go_at_call 15; (with_reducible refine HB.out.mono ?_); rintro e w' ⟨rfl, rfl⟩) | (go_at_call 16; (with_reducible refine HA.out.mono ?_); rintro e w' ⟨rfl, rfl⟩) | fail)
  refine HS.out.mono ?_
  rintro e w' ⟨g, ps, rfl, hg, ht, hrow, hb⟩
  rw [← HN.out]
  have HP : Hid (TkYes ws T w (.returned (.tuple #[.slice (some ⟨g, 0, none⟩) ws.length ws.length, .int .i64 0])) w') := ⟨g, ps, rfl, hg, ht, hrow, hb⟩
  clear hg ht hrow hb
  go_wp2
  go_ret2
  rw [HN.out]
  exact HP.out
end Go.Proofs.Ytmnhjcfhgcineaa
