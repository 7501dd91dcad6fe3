/-
  Contract of soukref11.Take.
-/
import Derived.Test.YtmnhjcfhgcineaaClB
import Derived.Test.YtmnhjcfhgcineaaRSplitD
namespace Go.Proofs.Ytmnhjcfhgcineaa
open Go.RowKit

/-- the document's answer: what is taken -/
def RTkYes (ws ps : List Int) (w : World) (e : Ending) (w' : World) : Prop :=
  ∃ g c, e = .returned (.tuple #[.slice (some ⟨g, 0, none⟩) ws.length c, .int .i64 0]) ∧ w.heap.size ≤ g ∧ RowI .i64 w' (some ⟨g, 0, none⟩) ps ∧ Below w.heap.size w w'

set_option maxHeartbeats 800000 in
theorem rtake_neg (T : Int) (a : Option Addr) (c : Nat) (ws : List Int) (w : World) (hr : RowI .i64 w a ws) (hl : ws.length ≤ maxLen) (hA : anyNeg ws = true) :
    Calls Try.prog 9 #[.slice a ws.length c, .int .i64 T] w (TkBad ws T w) := by
  have e1 : tkE ws T = 1 := tkE_arg (.inr hA)
  have hp : 0 < ws.length := by
    rcases Nat.eq_zero_or_pos ws.length with h0 | h0
    · rw [List.eq_nil_of_length_eq_zero h0] at hA; cases hA
    · exact h0
  obtain ⟨b, off, rfl, hc⟩ := hr hp
  have HE := Lib.hid e1
  have HC := Lib.hid hc
  have HA := Lib.hid hA
  obtain ⟨n, hn⟩ : ∃ n, n = ws.length := ⟨_, rfl⟩
  have HN := Lib.hid hn
  unfold maxLen at hl
  rw [← hn] at hl hp ⊢
  clear e1 hc hA hr hn
  go_enter Try.func9, Try.ntmps9
  go_wp2
  go_loop [6] (fun i => ∃ k : Nat, k ≤ n ∧ i = .int .i64 k ∧ Hid (∀ j, j < k → 0 ≤ ws.getD j 0)) (fun i => n - (intOf i).toNat)
  case atStart => exact ⟨0, Nat.zero_le _, rfl, fun j h => by omega⟩
  case round =>
    obtain ⟨k, hk, rfl, HK⟩ := hrel
    by_cases hlt : k < n
    · have hcell := HC.out k (by have := HN.out; omega)
      obtain ⟨z, hz⟩ : ∃ z, z = ws.getD k 0 := ⟨_, rfl⟩
      rw [← hz] at hcell
      have HZ := Lib.hid hz
      clear hz
      by_cases h0 : z < 0
      · go_wp2
        go_ret2
        exact ⟨by rw [HE.out]; rfl, rfl⟩
      · go_wp2
        go_round
        case rel => exact ⟨k + 1, by omega, by go_num, fun j hj => by
          by_cases e : j = k
          · rw [e, ← HZ.out]; omega
          · exact HK.out j (by omega)⟩
        case measure => simp [intOf]; omega
    · exfalso
      have := anyNeg_none (zs := ws) (fun j hj => HK.out j (by have := HN.out; omega))
      rw [HA.out] at this
      cases this

set_option maxHeartbeats 1600000 in
theorem rtake_wrong (T : Int) (a : Option Addr) (c : Nat) (ws : List Int) (w : World) (hr : RowI .i64 w a ws) (hz : ∀ z ∈ ws, Amt z) (hl : ws.length ≤ maxLen) (hA : anyNeg ws = false) (he : tkE ws T ≠ 0) :
    Calls Try.prog 9 #[.slice a ws.length c, .int .i64 T] w (TkBad ws T w) := by
  have HS := Lib.hid (rSum_any a c ws w hr hz hl)
  have hcases : (T < 1 ∧ tkE ws T = 1) ∨ (¬ T < 1 ∧ sumTo 0 ws = none ∧ tkE ws T = 2) ∨ (¬ T < 1 ∧ ∃ s, sumTo 0 ws = some s ∧ s < T ∧ tkE ws T = 10) := by
    by_cases hT : T < 1
    · exact .inl ⟨hT, tkE_arg (.inl hT)⟩
    · have e := tkE_sum hT hA
      cases hs : sumTo 0 ws with
      | none => rw [hs] at e; exact .inr (.inl ⟨hT, rfl, e⟩)
      | some s =>
        rw [hs] at e
        simp only at e
        by_cases h0 : s < T
        · rw [if_pos h0] at e; exact .inr (.inr ⟨hT, s, rfl, h0, e⟩)
        · rw [if_neg h0] at e; exact absurd e he
  have HNN := Lib.hid (neg_each hA)
  have HCS := Lib.hid hcases
  have HR := Lib.hid hr
  clear hr hz he hA hcases
  unfold maxLen at hl
  obtain ⟨n, hn⟩ : ∃ n, n = ws.length := ⟨_, rfl⟩
  have HN := Lib.hid hn
  rw [← hn] at hl HS ⊢
  clear hn
  go_enter Try.func9, Try.ntmps9
  go_wp2
  go_loop [6] (fun i => ∃ k : Nat, k ≤ n ∧ i = .int .i64 k) (fun i => n - (intOf i).toNat)
  case atStart => exact ⟨0, Nat.zero_le _, rfl⟩
  case round =>
    obtain ⟨k, hk, rfl⟩ := hrel
    by_cases hlt : k < n
    · obtain ⟨b, off, rfl, hc⟩ := HR.out (by have := HN.out; omega)
      have hcell := hc k (by have := HN.out; omega)
      have hnz := HNN.out k (by have := HN.out; omega)
      obtain ⟨z, hz⟩ : ∃ z, z = ws.getD k 0 := ⟨_, rfl⟩
      rw [← hz] at hcell hnz
      have h0 : ¬ z < 0 := by omega
      clear hz hc hnz
      go_wp2
      go_round
      case rel => exact ⟨k + 1, by omega, by go_num⟩
      case measure => simp [intOf]; omega
    · have hcases := HCS.out
      rcases hcases with ⟨hT, he⟩ | ⟨hT, hs, he⟩ | ⟨hT, s, hs, h0, he⟩
      · have HE := Lib.hid he
        have hT0 : T ≤ 0 := by omega
        clear he hT HCS
        go_wp2
        go_ret2
        exact ⟨by rw [HE.out]; rfl, rfl⟩
      · have HE := Lib.hid he
        have hT0 : ¬ T ≤ 0 := by omega
        rw [hs] at HS
        clear he hT HCS hs
        go_wp2_with fail
        refine HS.out.mono ?_
        rintro e w' ⟨rfl, rfl⟩
        go_wp2
        go_ret2
        exact ⟨by rw [HE.out]; rfl, rfl⟩
      · have HE := Lib.hid he
        have hT0 : ¬ T ≤ 0 := by omega
        rw [hs, show (some s).getD 0 = s from rfl] at HS
        clear he hT HCS hs
        go_wp2_with fail
        refine HS.out.mono ?_
        rintro e w' ⟨rfl, rfl⟩
        go_wp2
        go_ret2
        exact ⟨by rw [HE.out]; rfl, rfl⟩

theorem rtake_bad (T : Int) (a : Option Addr) (c : Nat) (ws : List Int) (w : World) (hr : RowI .i64 w a ws) (hz : ∀ z ∈ ws, Amt z) (hl : ws.length ≤ maxLen) (he : tkE ws T ≠ 0) :
    Calls Try.prog 9 #[.slice a ws.length c, .int .i64 T] w (TkBad ws T w) := by
  cases hA : anyNeg ws with
  | true => exact rtake_neg T a c ws w hr hl hA
  | false => exact rtake_wrong T a c ws w hr hz hl hA he

/-- the document's Split of what may be taken -/
theorem rsplit_taken {T : Int} {b off c : Nat} {ws ps : List Int} {w : World} (hr : RowI .i64 w (some ⟨b, off, none⟩) ws) (hz : ∀ z ∈ ws, Amt z) (hn : ws.length ≤ 40) (G : GoodT ws T) (ht : Taken ws T ps) :
    Calls Try.prog 19 #[.int .i64 T, .slice (some ⟨b, off, none⟩) ws.length c] w (RTkYes ws ps w) := by
  obtain ⟨b', off', e1, hc⟩ := hr G.pos
  injection e1 with e1
  injection e1 with e1 e2
  subst e1
  subst e2
  obtain ⟨s, t, ho, rfl⟩ := ht
  have h1 := G.one
  have h2 := G.le
  have h3 := G.S2
  have hcw : ∀ i, i < ws.length → w.cell? ⟨b, off + i, none⟩ = some (.int .i64 (wN ws i : Nat)) := fun i hi => by rw [hc i hi, G.each i hi]
  have hT : ((T.toNat : Nat) : Int) = T := by omega
  have hWS : ∀ i, i < ws.length → wN ws i ≤ wsS ws := fun i hi => le_sumN hi
  have hs := rSum_any (some ⟨b, off, none⟩) c ws w hr hz (by unfold maxLen; omega)
  rw [G.sum] at hs
  have h := rsplit_yes T.toNat (wsS ws) b off c ws.length (wN ws) w G.pos (by omega) (by omega) G.S0 h3 hs hcw hWS rfl s t ho
  rw [hT] at h
  refine Calls.mono h ?_
  rintro e w' ⟨g, c', rfl, hown, hb⟩
  have hlt := hown.lt g rfl
  refine ⟨g, c', rfl, hlt.1, fun _ => ⟨g, 0, rfl, fun i hi => ?_⟩, hb⟩
  rw [partsI_length] at hi
  rw [Nat.zero_add, partsI_get hi]
  exact cell_of_own hown (outK_get hi)

set_option maxHeartbeats 1600000 in
theorem rtake_yes (T : Int) (a : Option Addr) (c : Nat) (ws ps : List Int) (w : World) (hr : RowI .i64 w a ws) (hz : ∀ z ∈ ws, Amt z) (hn : ws.length ≤ 40) (he : tkE ws T = 0) (ht : Taken ws T ps) :
    Calls Try.prog 9 #[.slice a ws.length c, .int .i64 T] w (RTkYes ws ps w) := by
  have G := GoodT.of he
  have hl : ws.length ≤ maxLen := by unfold maxLen; omega
  have HS := Lib.hid (rSum_any a c ws w hr hz hl)
  rw [G.sum, show (some ((wsS ws : Nat) : Int)).getD 0 = ((wsS ws : Nat) : Int) from rfl, show (some ((wsS ws : Nat) : Int)).isSome = true from rfl] at HS
  obtain ⟨b, off, rfl, hc⟩ := hr G.pos
  have HSP := Lib.hid (rsplit_taken (c := c) hr hz hn G ht)
  have HC := Lib.hid hc
  have HNN := Lib.hid (neg_each G.neg)
  obtain ⟨S, hS⟩ : ∃ S, S = wsS ws := ⟨_, rfl⟩
  have h1 : ¬ T ≤ 0 := by have := G.one; omega
  have h2 : ¬ (S : Int) < T := by have := G.le; omega
  rw [← hS] at HS
  unfold RTkYes at HSP ⊢
  clear hr hz he G hS hc hl ht
  obtain ⟨n, hn'⟩ : ∃ n, n = ws.length := ⟨_, rfl⟩
  have HN := Lib.hid hn'
  rw [← hn'] at hn HS HSP ⊢
  clear hn'
  go_enter Try.func9, Try.ntmps9
  go_wp2
  go_loop [6] (fun i => ∃ k : Nat, k ≤ n ∧ i = .int .i64 k) (fun i => n - (intOf i).toNat)
  case atStart => exact ⟨0, Nat.zero_le _, rfl⟩
  case round =>
    obtain ⟨k, hk, rfl⟩ := hrel
    by_cases hlt : k < n
    · have hcell := HC.out k (by have := HN.out; omega)
      have hnz := HNN.out k (by have := HN.out; omega)
      obtain ⟨z, hz⟩ : ∃ z, z = ws.getD k 0 := ⟨_, rfl⟩
      rw [← hz] at hcell hnz
      have h0 : ¬ z < 0 := by omega
      clear hz hnz
      go_wp2
      go_round
      case rel => exact ⟨k + 1, by omega, by go_num⟩
      case measure => simp [intOf]; omega
    · go_wp2_with fail
      refine HS.out.mono ?_
      rintro e w' ⟨rfl, rfl⟩
      go_wp2_with fail
      refine HSP.out.mono ?_
      rintro e w' ⟨g, c', rfl, hg, hrow, hb⟩
      have HG := Lib.hid hg
      have HRW := Lib.hid hrow
      have HB := Lib.hid hb
      clear hg hrow hb
      go_wp2
      go_ret2
      exact ⟨g, c', rfl, HG.out, HRW.out, HB.out⟩
end Go.Proofs.Ytmnhjcfhgcineaa
