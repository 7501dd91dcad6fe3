/-
  Plain: the tokens of a text, one behind the other.
-/
import Derived.Test.YtjegfoeempojiaaDoorLexC
namespace Go.Proofs.YtjegfoeempojiaaDoor

abbrev Toks := Except (Nat × Nat) (List (Tk × Nat))

def prep (ts : List (Tk × Nat)) : Toks → Toks
  | .ok us => .ok (ts ++ us)
  | .error e => .error e

theorem prep_prep (a b : List (Tk × Nat)) (x : Toks) : prep a (prep b x) = prep (a ++ b) x := by cases x <;> simp [prep]
theorem prep_nil (x : Toks) : prep [] x = x := by cases x <;> simp [prep]

theorem takeWhile_len {p : UInt8 → Bool} (c : UInt8) (r : List UInt8) (h : p c = true) : 1 ≤ ((c :: r).takeWhile p).length := by
  rw [List.takeWhile_cons, h]; simp

theorem takeWhile_le {p : UInt8 → Bool} (l : List UInt8) : (l.takeWhile p).length ≤ l.length := (List.takeWhile_sublist _).length_le

/-- a token's text is where it begins -/
theorem oneL_len (c : UInt8) (r : List UInt8) (t : Tk) (h : oneL c (c :: r) = .ok t) : 1 ≤ t.2.1.length ∧ t.2.1.length ≤ (c :: r).length := by
  unfold oneL at h
  split at h
  · injection h with h; subst h; simp
  · split at h
    · rename_i h2
      unfold nmL at h
      split at h
      · rename_i e
        split at e
        · cases e
        · injection e with e; injection h with h; subst h; subst e
          exact ⟨takeWhile_len c r h2, takeWhile_le _⟩
      · cases h
    · split at h
      · rename_i h3
        have hf := takeWhile_len c r h3
        have hle := takeWhile_le (p := isFig) (c :: r)
        have e0 : nrL (c :: r) = some t := by
          cases hn : nrL (c :: r) with
          | none => rw [hn] at h; cases h
          | some t' => rw [hn] at h; injection h with h; rw [h]
        obtain ⟨f, hfe⟩ : ∃ f, f = (c :: r).takeWhile isFig := ⟨_, rfl⟩
        rw [← hfe] at hf hle
        have e1 : nrL (c :: r) = if 16 < f.length then none else if rEnd ((c :: r).drop f.length) = [] then some (1, f, woL f) else if 1000000 < woL f then none else some (2, (c :: r).take (f.length + (rEnd ((c :: r).drop f.length)).length), woL f * 100 + huL (rEnd ((c :: r).drop f.length))) := by rw [hfe]; rfl
        rw [e0] at e1
        by_cases g1 : 16 < f.length
        · rw [if_pos g1] at e1; cases e1
        rw [if_neg g1] at e1
        by_cases g2 : rEnd ((c :: r).drop f.length) = []
        · rw [if_pos g2] at e1; injection e1 with e1; subst e1; exact ⟨hf, hle⟩
        rw [if_neg g2] at e1
        by_cases g3 : 1000000 < woL f
        · rw [if_pos g3] at e1; cases e1
        rw [if_neg g3] at e1
        injection e1 with e1
        subst e1
        show 1 ≤ (List.take _ _).length ∧ (List.take _ _).length ≤ _
        rw [List.length_take]
        have : 1 ≤ (c :: r).length := by simp
        omega
      · cases h

theorem tksL_fuel : ∀ (n f : Nat) (l : List UInt8) (a : Nat), l.length ≤ n → n ≤ f → tksL f l a = tksL n l a := by
  intro n
  induction n with
  | zero =>
    intro f l a hl _
    obtain rfl := List.length_eq_zero_iff.1 (Nat.le_zero.1 hl)
    cases f <;> rfl
  | succ n ih =>
    intro f l a hl hf
    obtain ⟨f, rfl⟩ : ∃ g, f = g + 1 := ⟨f - 1, by omega⟩
    cases l with
    | nil => rfl
    | cons c r =>
      simp only [List.length_cons] at hl
      simp only [tksL]
      rw [ih f r (a + 1) (by omega) (by omega)]
      cases ho : oneL c (c :: r) with
      | error e => rfl
      | ok t =>
        have h1 := (oneL_len c r t ho).1
        simp only
        rw [ih f ((c :: r).drop t.2.1.length) _ (by rw [List.length_drop, List.length_cons]; omega) (by omega)]

/-- the tokens of what is left of a text -/
def tk (l : List UInt8) (a : Nat) : Toks := tksL l.length l a

theorem tk_nil (a : Nat) : tk [] a = .ok [] := rfl
theorem tk_cons (c : UInt8) (r : List UInt8) (a : Nat) : tk (c :: r) a = if isBlk c then tk r (a + 1) else match oneL c (c :: r) with
    | .error e => .error (a, e)
    | .ok t => prep [(t, a)] (tk ((c :: r).drop t.2.1.length) (a + t.2.1.length)) := by
  unfold tk
  show tksL (r.length + 1) (c :: r) a = _
  simp only [tksL]
  cases ho : oneL c (c :: r) with
  | error e => rfl
  | ok t =>
    have h1 := (oneL_len c r t ho).1
    have hl : ((c :: r).drop t.2.1.length).length ≤ r.length := by rw [List.length_drop, List.length_cons]; omega
    simp only
    rw [tksL_fuel _ r.length ((c :: r).drop t.2.1.length) _ (Nat.le_refl _) hl]
    by_cases hb : isBlk c
    · rw [if_pos hb, if_pos hb]
    · rw [if_neg hb, if_neg hb]
      cases tksL ((c :: r).drop t.2.1.length).length ((c :: r).drop t.2.1.length) (a + t.2.1.length) <;> rfl

theorem drop_cons (l : List UInt8) (p : Nat) (h : p < l.length) : l.drop p = l.getD p 0 :: l.drop (p + 1) := by
  rw [List.drop_eq_getElem_cons h]
  congr 1
  rw [List.getD_eq_getElem?_getD, List.getElem?_eq_getElem h]; rfl

theorem tok_start (l : List UInt8) : tokL l = prep [] (tk (l.drop 0) 0) := by rw [prep_nil]; rfl
theorem tok_end {l : List UInt8} {ts : List (Tk × Nat)} (h : tokL l = prep ts (tk (l.drop l.length) l.length)) : tokL l = .ok ts := by
  rw [h, List.drop_length, tk_nil]; simp [prep]
theorem tok_blank {l : List UInt8} {p : Nat} {ts : List (Tk × Nat)} (h : tokL l = prep ts (tk (l.drop p) p)) (hp : p < l.length) (hb : isBlk (l.getD p 0) = true) : tokL l = prep ts (tk (l.drop (p + 1)) (p + 1)) := by
  rw [h, drop_cons l p hp, tk_cons, if_pos hb]
theorem tok_err {l : List UInt8} {p e : Nat} {ts : List (Tk × Nat)} (h : tokL l = prep ts (tk (l.drop p) p)) (hp : p < l.length) (hb : isBlk (l.getD p 0) = false) (ho : oneL (l.getD p 0) (l.drop p) = .error e) : tokL l = .error (p, e) := by
  rw [drop_cons l p hp] at ho
  rw [h, drop_cons l p hp, tk_cons, hb, ho]
  rfl
theorem tok_ok {l : List UInt8} {p : Nat} {t : Tk} {ts : List (Tk × Nat)} (h : tokL l = prep ts (tk (l.drop p) p)) (hp : p < l.length) (hb : isBlk (l.getD p 0) = false) (ho : oneL (l.getD p 0) (l.drop p) = .ok t) :
    tokL l = prep (ts ++ [(t, p)]) (tk (l.drop (p + t.2.1.length)) (p + t.2.1.length)) ∧ 1 ≤ t.2.1.length ∧ p + t.2.1.length ≤ l.length := by
  have ho2 := ho
  rw [drop_cons l p hp] at ho2
  have hl := oneL_len _ _ _ ho2
  rw [← drop_cons l p hp, List.length_drop] at hl
  refine ⟨?_, hl.1, by omega⟩
  rw [h, drop_cons l p hp, tk_cons, hb, ho2, if_neg (by simp), ← drop_cons l p hp]
  show prep ts (prep [(t, p)] _) = _
  rw [prep_prep, List.drop_drop]
end Go.Proofs.YtjegfoeempojiaaDoor
