/-
  Plain: a number in figures, and the rates that are written of it.
-/
import Derived.Test.YtiigpkbgapegoaaDoorLexQ
namespace Go.Proofs.YtiigpkbgapegoaaDoor

/-- one figure -/
def figL (d : Nat) : UInt8 := UInt8.ofNat (48 + d)

/-- a number in figures -/
def digL (n : Nat) : List UInt8 := if n < 10 then [figL n] else digL (n / 10) ++ [figL (n % 10)]
termination_by n
decreasing_by omega

theorem figL_nat {d : Nat} (h : d < 10) : (figL d).toNat = 48 + d := by
  unfold figL
  rw [UInt8.toNat_ofNat']
  omega
theorem figL_fig {d : Nat} (h : d < 10) : isFig (figL d) = true := by
  unfold isFig
  rw [figL_nat h]
  simp
  omega
theorem digL_lo {n : Nat} (h : n < 10) : digL n = [figL n] := by rw [digL, if_pos h]
theorem digL_hi {n : Nat} (h : ¬ n < 10) : digL n = digL (n / 10) ++ [figL (n % 10)] := by rw [digL, if_neg h]

theorem digL_fig : ∀ (k n : Nat), n ≤ k → ∀ c ∈ digL n, isFig c = true := by
  intro k
  induction k with
  | zero => intro n hn c hc; rw [digL_lo (by omega)] at hc; rw [List.mem_singleton.1 hc]; exact figL_fig (by omega)
  | succ k ih =>
    intro n hn c hc
    by_cases h : n < 10
    · rw [digL_lo h] at hc; rw [List.mem_singleton.1 hc]; exact figL_fig h
    · rw [digL_hi h] at hc
      rcases List.mem_append.1 hc with hc | hc
      · exact ih (n / 10) (by omega) c hc
      · rw [List.mem_singleton.1 hc]; exact figL_fig (by omega)

theorem digL_wo : ∀ (k n : Nat), n ≤ k → woL (digL n) = n := by
  intro k
  have h1 : ∀ n, n < 10 → woL (digL n) = n := by
    intro n h
    rw [digL_lo h]
    show 0 * 10 + ((figL n).toNat - 48) = n
    rw [figL_nat h]
    omega
  induction k with
  | zero => intro n hn; exact h1 n (by omega)
  | succ k ih =>
    intro n hn
    by_cases h : n < 10
    · exact h1 n h
    · rw [digL_hi h, foldl_wo_snoc, ih (n / 10) (by omega), figL_nat (by omega)]
      omega

theorem digL_len : ∀ (k n : Nat), n < 10 ^ (k + 1) → 1 ≤ (digL n).length ∧ (digL n).length ≤ k + 1 := by
  intro k
  induction k with
  | zero => intro n hn; rw [digL_lo (by simpa using hn)]; simp
  | succ k ih =>
    intro n hn
    by_cases h : n < 10
    · rw [digL_lo h]; simp
    · rw [digL_hi h, List.length_append]
      have := ih (n / 10) (by rw [Nat.pow_succ] at hn; omega)
      simp
      omega

theorem takeWhile_fig (f e : List UInt8) (hf : ∀ c ∈ f, isFig c = true) : (f ++ 46 :: e).takeWhile isFig = f := by
  rw [List.takeWhile_append_of_pos hf]
  rw [show (46 :: e).takeWhile isFig = [] from by rw [List.takeWhile_cons]; rfl]
  simp

/-- the end of a rate is taken whole -/
theorem rEnd_whole (g : List UInt8) (hg : ∀ c ∈ g, isFig c = true) (h1 : 1 ≤ g.length) (h2 : g.length ≤ 2) : rEnd (46 :: (g ++ [37])) = 46 :: (g ++ [37]) := by
  have e1 : (g ++ [37]).takeWhile isFig = g := by
    rw [List.takeWhile_append_of_pos hg]
    rw [show ([37] : List UInt8).takeWhile isFig = [] from rfl]
    simp
  have e0 : rEnd (46 :: (g ++ [37])) = if ((g ++ [37]).takeWhile isFig).length < 1 ∨ 2 < ((g ++ [37]).takeWhile isFig).length ∨ ((g ++ [37]).drop ((g ++ [37]).takeWhile isFig).length).head? ≠ some 37 then [] else (46 :: (g ++ [37])).take (((g ++ [37]).takeWhile isFig).length + 2) := rfl
  rw [e0, e1, if_neg]
  · exact List.take_of_length_le (by simp)
  · rintro (h | h | h)
    · omega
    · omega
    · rw [List.drop_left] at h
      exact h rfl

/-- figures, and the end of a rate -/
theorem nrL_rate (f g : List UInt8) (hf : ∀ c ∈ f, isFig c = true) (hg : ∀ c ∈ g, isFig c = true) (hf2 : f.length ≤ 16) (h1 : 1 ≤ g.length) (h2 : g.length ≤ 2) :
    nrL (f ++ 46 :: (g ++ [37])) = if 1000000 < woL f then none else some (2, f ++ 46 :: (g ++ [37]), woL f * 100 + woL ((g ++ [48, 48]).take 2)) := by
  have e0 : nrL (f ++ 46 :: (g ++ [37])) = (fun f' => if 16 < f'.length then none else if rEnd ((f ++ 46 :: (g ++ [37])).drop f'.length) = [] then some (1, f', woL f') else if 1000000 < woL f' then none else some (2, (f ++ 46 :: (g ++ [37])).take (f'.length + (rEnd ((f ++ 46 :: (g ++ [37])).drop f'.length)).length), woL f' * 100 + huL (rEnd ((f ++ 46 :: (g ++ [37])).drop f'.length)))) ((f ++ 46 :: (g ++ [37])).takeWhile isFig) := rfl
  rw [e0, takeWhile_fig f _ hf]
  show (if 16 < f.length then _ else _) = _
  rw [if_neg (by omega), List.drop_left, rEnd_whole g hg h1 h2, if_neg (by simp)]
  have e2 : huL (46 :: (g ++ [37])) = woL ((g ++ [48, 48]).take 2) := by
    unfold huL
    rw [trimS_fig g hg h1]
  rw [e2, List.take_of_length_le (by simp)]

/-- a text that is one rate -/
theorem tokL_rate (f g : List UInt8) (hf : ∀ c ∈ f, isFig c = true) (hg : ∀ c ∈ g, isFig c = true) (hf1 : 1 ≤ f.length) (hf2 : f.length ≤ 16) (h1 : 1 ≤ g.length) (h2 : g.length ≤ 2) :
    tokL (f ++ 46 :: (g ++ [37])) = if 1000000 < woL f then .error (0, 2) else .ok [((2, f ++ 46 :: (g ++ [37]), woL f * 100 + woL ((g ++ [48, 48]).take 2)), 0)] := by
  cases f with
  | nil => simp at hf1
  | cons c r =>
    have hc := hf c List.mem_cons_self
    have hcn : 48 ≤ c.toNat ∧ c.toNat ≤ 57 := by simpa [isFig] using hc
    have hb : isBlk c = false := by simp [isBlk]; omega
    have hl : isLet c = false := by simp [isLet]; omega
    have h59 : ¬ c = 59 := by intro e; rw [e] at hcn; exact absurd hcn.2 (by decide)
    have hn := nrL_rate (c :: r) g hf hg hf2 h1 h2
    obtain ⟨s, hs⟩ : ∃ s, s = c :: r ++ 46 :: (g ++ [37]) := ⟨_, rfl⟩
    have hs2 : s = c :: (r ++ 46 :: (g ++ [37])) := hs
    rw [← hs] at hn ⊢
    have ho : oneL c s = match nrL s with | some t => .ok t | none => .error 2 := by
      unfold oneL
      rw [if_neg h59, if_neg (by rw [hl]; simp), if_pos hc]
      cases nrL s <;> rfl
    show tk s 0 = _
    rw [hs2, tk_cons, hb, ← hs2, ho, hn]
    by_cases hw : 1000000 < woL (c :: r)
    · rw [if_pos hw, if_pos hw]; rfl
    · rw [if_neg hw, if_neg hw]
      show prep _ (tk (s.drop s.length) _) = _
      rw [List.drop_length]
      rfl
end Go.Proofs.YtiigpkbgapegoaaDoor
