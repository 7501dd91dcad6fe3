/-
  Plain: what is taken of what is left; what is wrong with a take; lists less and more by others.
-/
import Derived.Test.YtmnhjcfhgcineaaRSplitP
import Derived.Test.YtmnhjcfhgcineaaEqI
namespace Go.Proofs.Ytmnhjcfhgcineaa

/-- what is wrong with a take -/
def tkE (ws : List Int) (T : Int) : Int := if T < 1 ∨ anyNeg ws = true then 1 else match sumTo 0 ws with | none => 2 | some s => if s < T then 10 else 0

/-- all that is left -/
def wsS (ws : List Int) : Nat := sumN (wN ws) ws.length

structure GoodT (ws : List Int) (T : Int) : Prop where
  pos : 0 < ws.length
  one : 1 ≤ T
  le : T ≤ (wsS ws : Int)
  S0 : 0 < wsS ws
  S2 : wsS ws ≤ 9223372036854775807
  sum : sumTo 0 ws = some (wsS ws : Int)
  neg : anyNeg ws = false
  each : ∀ i, i < ws.length → ws.getD i 0 = (wN ws i : Int)

theorem tkE_arg {ws : List Int} {T : Int} (h : T < 1 ∨ anyNeg ws = true) : tkE ws T = 1 := if_pos h
theorem tkE_sum {ws : List Int} {T : Int} (h : ¬ T < 1) (h2 : anyNeg ws = false) : tkE ws T = match sumTo 0 ws with | none => 2 | some s => if s < T then 10 else 0 := if_neg (by simp [h, h2])

theorem neg_each {ws : List Int} (h : anyNeg ws = false) : ∀ j, j < ws.length → 0 ≤ ws.getD j 0 := fun j hj => by
  rcases Int.lt_or_le (ws.getD j 0) 0 with h0 | h0
  · have := anyNeg_of hj h0; rw [h] at this; cases this
  · exact h0

theorem GoodT.of {ws : List Int} {T : Int} (h : tkE ws T = 0) : GoodT ws T := by
  unfold tkE at h
  by_cases hb : T < 1 ∨ anyNeg ws = true
  · rw [if_pos hb] at h; cases h
  rw [if_neg hb] at h
  have hT : ¬ T < 1 := fun e => hb (.inl e)
  have hA : anyNeg ws = false := by
    cases e : anyNeg ws with
    | true => exact absurd (.inr e) hb
    | false => rfl
  have hnn := neg_each hA
  cases hs : sumTo 0 ws with
  | none => rw [hs] at h; cases h
  | some s =>
    rw [hs] at h
    simp only at h
    by_cases hlt : s < T
    · rw [if_pos hlt] at h; cases h
    have e1 := sumTo_sum ws 0 s hs
    have e2 := sum_wN ws hnn
    have e3 := sumTo_amt ws 0 s (by unfold Amt; omega) hs
    unfold Amt at e3
    have hS : s = (wsS ws : Int) := by rw [e1, e2]; unfold wsS; omega
    have hp : 0 < ws.length := by
      rcases Nat.eq_zero_or_pos ws.length with h0 | h0
      · have : wsS ws = 0 := by unfold wsS; rw [h0]; rfl
        omega
      · exact h0
    exact ⟨hp, by omega, by omega, by omega, by omega, by rw [hs, hS], hA, fun i hi => by unfold wN; have := hnn i hi; omega⟩

/-- what is taken -/
def Taken (ws : List Int) (T : Int) (ps : List Int) : Prop :=
  ∃ s t, Ordr ws.length (fun i => (rf T.toNat (wsS ws) (wN ws) i : Int)) s t ∧ ps = partsI T.toNat (wsS ws) (wN ws) t ws.length

theorem part_le_w {T S n : Nat} {W s t : Nat → Nat} (hS : 0 < S) (hs : sumN W n = S) (ho : Ordr n (fun i => (rf T S W i : Int)) s t) (hTS : T ≤ S) (i : Nat) : partK T S W t (leftN T S W n) i ≤ W i := by
  have h0 := (part_between hS hs ho (i := i)).2
  have h1 : T * W i ≤ S * W i := Nat.mul_le_mul_right _ hTS
  have h2 : S * qf T S W i + rf T S W i = T * W i := Nat.div_add_mod _ _
  by_cases e : rf T S W i = 0
  · rw [if_pos e] at h0
    have h3 : S * qf T S W i ≤ S * W i := by omega
    have := Nat.le_of_mul_le_mul_left h3 hS
    omega
  · rw [if_neg e] at h0
    have h3 : S * qf T S W i < S * W i := by omega
    have := Nat.lt_of_mul_lt_mul_left h3
    omega

theorem Taken.length {ws ps : List Int} {T : Int} (h : Taken ws T ps) : ps.length = ws.length := by
  obtain ⟨s, t, _, rfl⟩ := h
  exact partsI_length _ _ _ _ _
theorem Taken.part {ws ps : List Int} {T : Int} (G : GoodT ws T) (h : Taken ws T ps) (i : Nat) (hi : i < ws.length) : 0 ≤ ps.getD i 0 ∧ ps.getD i 0 ≤ ws.getD i 0 := by
  obtain ⟨s, t, ho, rfl⟩ := h
  rw [partsI_get hi, G.each i hi]
  have h1 := G.one
  have h2 := G.le
  have := part_le_w G.S0 rfl ho (by omega) i
  omega
theorem Taken.sum {ws ps : List Int} {T : Int} (G : GoodT ws T) (h : Taken ws T ps) : ps.sum = T := by
  obtain ⟨s, t, ho, rfl⟩ := h
  have h1 := G.one
  rw [partsI_sum G.S0 rfl ho]
  omega
theorem Taken.amt {ws ps : List Int} {T : Int} (G : GoodT ws T) (h : Taken ws T ps) : ∀ z ∈ ps, Amt z := by
  obtain ⟨s, t, ho, rfl⟩ := h
  have h1 := G.le
  have h2 := G.S2
  exact partsI_amt G.S0 rfl (by omega)
theorem Taken.nonneg {ws ps : List Int} {T : Int} (h : Taken ws T ps) : ∀ z ∈ ps, 0 ≤ z := by
  obtain ⟨s, t, ho, rfl⟩ := h
  exact partsI_nonneg

/-- less by -/
def subL (ws ps : List Int) : List Int := (List.range ws.length).map fun i => ws.getD i 0 - ps.getD i 0
/-- more by -/
def addL (ws ps : List Int) : List Int := (List.range ws.length).map fun i => ws.getD i 0 + ps.getD i 0
theorem subL_length (ws ps : List Int) : (subL ws ps).length = ws.length := by simp [subL]
theorem addL_length (ws ps : List Int) : (addL ws ps).length = ws.length := by simp [addL]
theorem subL_get {ws ps : List Int} {i : Nat} (h : i < ws.length) : (subL ws ps).getD i 0 = ws.getD i 0 - ps.getD i 0 := by
  unfold subL; rw [List.getD_eq_getElem?_getD, List.getElem?_map, List.getElem?_range h]; rfl
theorem addL_get {ws ps : List Int} {i : Nat} (h : i < ws.length) : (addL ws ps).getD i 0 = ws.getD i 0 + ps.getD i 0 := by
  unfold addL; rw [List.getD_eq_getElem?_getD, List.getElem?_map, List.getElem?_range h]; rfl
theorem add_sub (ws ps : List Int) : addL (subL ws ps) ps = ws :=
  eq_of_getD (by rw [addL_length, subL_length]) fun j hj => by
    rw [addL_length] at hj
    rw [addL_get hj]
    rw [subL_length] at hj
    rw [subL_get hj]; omega

theorem mem_get {zs : List Int} {z : Int} (h : z ∈ zs) : ∃ i, i < zs.length ∧ zs.getD i 0 = z := by
  obtain ⟨i, hi, rfl⟩ := List.getElem_of_mem h
  exact ⟨i, hi, by rw [List.getD_eq_getElem?_getD, List.getElem?_eq_getElem hi]; rfl⟩

theorem sub_between {ws ps : List Int} {T : Int} (G : GoodT ws T) (h : Taken ws T ps) (i : Nat) (hi : i < ws.length) : 0 ≤ (subL ws ps).getD i 0 ∧ (subL ws ps).getD i 0 ≤ ws.getD i 0 := by
  have := h.part G i hi
  rw [subL_get hi]; omega
theorem sub_amt {ws ps : List Int} {T : Int} (G : GoodT ws T) (h : Taken ws T ps) (hz : ∀ z ∈ ws, Amt z) : ∀ z ∈ subL ws ps, Amt z := fun z hm => by
  obtain ⟨i, hi, rfl⟩ := mem_get hm
  rw [subL_length] at hi
  have h1 := sub_between G h i hi
  have h2 := hz _ (getD_mem hi)
  unfold Amt at h2 ⊢; omega

theorem sub_sum {ws ps : List Int} {T : Int} (G : GoodT ws T) (h : Taken ws T ps) : (subL ws ps).sum = ws.sum - T := by
  have hl := h.length
  have n1 : ∀ i, i < ws.length → 0 ≤ ws.getD i 0 := fun i hi => by rw [G.each i hi]; omega
  have n2 : ∀ i, i < ps.length → 0 ≤ ps.getD i 0 := fun i hi => (h.part G i (by omega)).1
  have n3 : ∀ i, i < (subL ws ps).length → 0 ≤ (subL ws ps).getD i 0 := fun i hi => (sub_between G h i (by rw [subL_length] at hi; exact hi)).1
  have s1 := sum_wN ws n1
  have s2 := sum_wN ps n2
  have s3 := sum_wN (subL ws ps) n3
  rw [subL_length] at s3
  rw [hl] at s2
  have h1 : sumN (wN ws) ws.length = sumN (fun i => wN (subL ws ps) i + wN ps i) ws.length := sumN_congr fun i hi => by
    have a1 := n1 i hi
    have a2 := h.part G i hi
    unfold wN
    rw [subL_get hi]; omega
  rw [sumN_add] at h1
  have h2 := h.sum G
  rw [s3, s1, h1]
  rw [s2] at h2
  omega

/-- is none left -/
theorem none_left {ws : List Int} (h : ∀ i, i < ws.length → 0 ≤ ws.getD i 0) (hs : ws.sum = 0) (i : Nat) (hi : i < ws.length) : ws.getD i 0 = 0 := by
  have s1 := sum_wN ws h
  have h1 := le_sumN (f := wN ws) hi
  have h2 := h i hi
  unfold wN at h1 s1
  omega

end Go.Proofs.Ytmnhjcfhgcineaa
