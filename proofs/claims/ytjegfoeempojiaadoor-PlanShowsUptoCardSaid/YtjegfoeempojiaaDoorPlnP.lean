/-
  Plain: a plan's rules, of its tokens; a rule's text.
-/
import Derived.Test.YtjegfoeempojiaaDoorLexQ
import Derived.Lib.ItoaNum
import Derived.Lib.ItoaLen
import Derived.Lib.ItoaMem
namespace Go.Proofs.YtjegfoeempojiaaDoor

/-- a rule: its kind, its name, its number, its rate -/
abbrev Rl := List UInt8 × List UInt8 × Int × Int

def kTier : List UInt8 := [116, 105, 101, 114]
def kCat : List UInt8 := [99, 97, 116, 101, 103, 111, 114, 121]
def kCap : List UInt8 := [99, 97, 112]
def kMin : List UInt8 := [109, 105, 110, 105, 109, 117, 109]
def kTax : List UInt8 := [116, 97, 120]
def kRes : List UInt8 := [114, 101, 115, 101, 114, 118, 101]

/-- which parts stand behind a kind: a name (0), a number (1), a rate (2) -/
def formL (k : List UInt8) : Option (List Nat) :=
  if k = kTier then some [1, 2]
  else if k = kCat then some [0, 2]
  else if k = kCap then some [1]
  else if k = kMin then some [1]
  else if k = kTax then some [2]
  else if k = kRes then some [2, 1]
  else none

/-- the kinds, one by one -/
theorem formL_six (k : List UInt8) : (k = kTier ∧ formL k = some [1, 2]) ∨ (k = kCat ∧ formL k = some [0, 2]) ∨ (k = kCap ∧ formL k = some [1]) ∨ (k = kMin ∧ formL k = some [1]) ∨ (k = kTax ∧ formL k = some [2]) ∨ (k = kRes ∧ formL k = some [2, 1]) ∨
    (formL k = none ∧ k ≠ kTier ∧ k ≠ kCat ∧ k ≠ kCap ∧ k ≠ kMin ∧ k ≠ kTax ∧ k ≠ kRes) := by
  by_cases h1 : k = kTier
  · exact .inl ⟨h1, by rw [h1]; rfl⟩
  by_cases h2 : k = kCat
  · exact .inr (.inl ⟨h2, by rw [h2]; rfl⟩)
  by_cases h3 : k = kCap
  · exact .inr (.inr (.inl ⟨h3, by rw [h3]; rfl⟩))
  by_cases h4 : k = kMin
  · exact .inr (.inr (.inr (.inl ⟨h4, by rw [h4]; rfl⟩)))
  by_cases h5 : k = kTax
  · exact .inr (.inr (.inr (.inr (.inl ⟨h5, by rw [h5]; rfl⟩))))
  by_cases h6 : k = kRes
  · exact .inr (.inr (.inr (.inr (.inr (.inl ⟨h6, by rw [h6]; rfl⟩)))))
  · refine .inr (.inr (.inr (.inr (.inr (.inr ⟨?_, h1, h2, h3, h4, h5, h6⟩)))))
    unfold formL
    rw [if_neg h1, if_neg h2, if_neg h3, if_neg h4, if_neg h5, if_neg h6]

theorem formL_len {k : List UInt8} {f : List Nat} (h : formL k = some f) : 1 ≤ f.length ∧ f.length ≤ 2 ∧ (∀ x ∈ f, x ≤ 2) ∧ k.length ≤ 8 := by
  rcases formL_six k with ⟨e, h2⟩ | ⟨e, h2⟩ | ⟨e, h2⟩ | ⟨e, h2⟩ | ⟨e, h2⟩ | ⟨e, h2⟩ | ⟨h2, _⟩ <;> rw [h2] at h <;> first | cases h; done | (injection h with h; subst h; subst e; decide)

/-- a part, taken into a rule -/
def fill (r : Rl) (t : Tk) : Rl :=
  if t.1 = 0 then (r.1, t.2.1, r.2.2.1, r.2.2.2)
  else if t.1 = 1 then (r.1, r.2.1, (t.2.2 : Int), r.2.2.2)
  else if t.1 = 2 then (r.1, r.2.1, r.2.2.1, (t.2.2 : Int))
  else r

/-- the rule of a first token, and of its parts -/
def ruleL (first : Tk) (parts : List Tk) : Option Rl :=
  match formL first.2.1 with
  | none => none
  | some f => if parts.map (·.1) = f then some (parts.foldl fill (first.2.1, [], 0, 0)) else none

abbrev Tks := List (Tk × Nat)
abbrev Rls := Except (Nat × Nat) (List Rl)

/-- how many tokens stand ahead of the first End -/
def endI (ts : Tks) : Nat := ts.findIdx fun t => t.1.1 == 3

def prepR (rs : List Rl) : Rls → Rls
  | .ok us => .ok (rs ++ us)
  | .error e => .error e
theorem prepR_prepR (a b : List Rl) (x : Rls) : prepR a (prepR b x) = prepR (a ++ b) x := by cases x <;> simp [prepR]
theorem prepR_nil (x : Rls) : prepR [] x = x := by cases x <;> simp [prepR]

/-- the rules of tokens, so many others ahead of them -/
def prsF : Nat → Tks → Nat → Rls
  | 0, _, _ => .ok []
  | _ + 1, [], _ => .ok []
  | f + 1, t :: r, k =>
    if endI (t :: r) = 0 ∨ (t :: r).length ≤ endI (t :: r) then .error (t.2, 3)
    else match ruleL t.1 ((r.take (endI (t :: r) - 1)).map (·.1)) with
      | none => .error (t.2, 3)
      | some x => if k = 40 then .error (t.2, 2) else prepR [x] (prsF f ((t :: r).drop (endI (t :: r) + 1)) (k + 1))

def prs (ts : Tks) (k : Nat) : Rls := prsF ts.length ts k

theorem prsF_fuel : ∀ (n f : Nat) (l : Tks) (k : Nat), l.length ≤ n → n ≤ f → prsF f l k = prsF n l k := by
  intro n
  induction n with
  | zero =>
    intro f l k hl _
    obtain rfl := List.length_eq_zero_iff.1 (Nat.le_zero.1 hl)
    cases f <;> rfl
  | succ n ih =>
    intro f l k hl hf
    obtain ⟨f, rfl⟩ : ∃ g, f = g + 1 := ⟨f - 1, by omega⟩
    cases l with
    | nil => rfl
    | cons c r =>
      simp only [List.length_cons] at hl
      simp only [prsF]
      rw [ih f ((c :: r).drop (endI (c :: r) + 1)) (k + 1) (by rw [List.length_drop, List.length_cons]; omega) (by omega)]

theorem prs_nil (k : Nat) : prs [] k = .ok [] := rfl
theorem prs_cons (t : Tk × Nat) (r : Tks) (k : Nat) : prs (t :: r) k = if endI (t :: r) = 0 ∨ (t :: r).length ≤ endI (t :: r) then .error (t.2, 3)
    else match ruleL t.1 ((r.take (endI (t :: r) - 1)).map (·.1)) with
      | none => .error (t.2, 3)
      | some x => if k = 40 then .error (t.2, 2) else prepR [x] (prs ((t :: r).drop (endI (t :: r) + 1)) (k + 1)) := by
  show prsF (r.length + 1) (t :: r) k = _
  simp only [prsF]
  have h := prsF_fuel ((t :: r).drop (endI (t :: r) + 1)).length r.length ((t :: r).drop (endI (t :: r) + 1)) (k + 1) (Nat.le_refl _) (by rw [List.length_drop, List.length_cons]; omega)
  rw [h]
  rfl

/-- a text's rules; or where it is wrong, and how -/
def prL (s : List UInt8) : Rls :=
  match tokL s with
  | .error e => .error e
  | .ok ts => prs ts 0

/-! the walk of Parse, step by step -/

theorem drop_consT {ts : Tks} {p : Nat} {t : Tk × Nat} (h : ts[p]? = some t) : ts.drop p = t :: ts.drop (p + 1) := by
  obtain ⟨h1, h2⟩ := List.getElem?_eq_some_iff.1 h
  rw [List.drop_eq_getElem_cons h1, h2]

theorem prs_end {ts : Tks} {l : List Rl} {k : Nat} (h : prs ts 0 = prepR l (prs (ts.drop ts.length) k)) : prs ts 0 = .ok l := by
  rw [h, List.drop_length, prs_nil]; simp [prepR]
/-- no End, or an End alone -/
theorem prs_noEnd {ts : Tks} {l : List Rl} {p k : Nat} {t : Tk × Nat} (h : prs ts 0 = prepR l (prs (ts.drop p) k)) (ht : ts[p]? = some t) (he : endI (ts.drop p) = 0 ∨ ts.length ≤ p + endI (ts.drop p)) : prs ts 0 = .error (t.2, 3) := by
  have hlt : p < ts.length := (List.getElem?_eq_some_iff.1 ht).1
  have hl : (ts.drop p).length = ts.length - p := List.length_drop
  rw [h, drop_consT ht, prs_cons, ← drop_consT ht, if_pos (by rw [hl]; omega)]
  rfl
theorem prs_some {ts : Tks} {p k : Nat} {t : Tk × Nat} (ht : ts[p]? = some t) (he : 1 ≤ endI (ts.drop p)) (he2 : p + endI (ts.drop p) < ts.length) :
    prs (ts.drop p) k = match ruleL t.1 (((ts.drop (p + 1)).take (endI (ts.drop p) - 1)).map (·.1)) with
      | none => .error (t.2, 3)
      | some x => if k = 40 then .error (t.2, 2) else prepR [x] (prs (ts.drop (p + (endI (ts.drop p) + 1))) (k + 1)) := by
  have hl : (ts.drop p).length = ts.length - p := List.length_drop
  rw [drop_consT ht, prs_cons, ← drop_consT ht, if_neg (by rw [hl]; omega), List.drop_drop]
theorem prs_none {ts : Tks} {l : List Rl} {p k : Nat} {t : Tk × Nat} (h : prs ts 0 = prepR l (prs (ts.drop p) k)) (ht : ts[p]? = some t) (he : 1 ≤ endI (ts.drop p)) (he2 : p + endI (ts.drop p) < ts.length)
    (hr : ruleL t.1 (((ts.drop (p + 1)).take (endI (ts.drop p) - 1)).map (·.1)) = none) : prs ts 0 = .error (t.2, 3) := by
  rw [h, prs_some ht he he2, hr]; rfl
theorem prs_over {ts : Tks} {l : List Rl} {p : Nat} {t : Tk × Nat} {x : Rl} (h : prs ts 0 = prepR l (prs (ts.drop p) 40)) (ht : ts[p]? = some t) (he : 1 ≤ endI (ts.drop p)) (he2 : p + endI (ts.drop p) < ts.length)
    (hr : ruleL t.1 (((ts.drop (p + 1)).take (endI (ts.drop p) - 1)).map (·.1)) = some x) : prs ts 0 = .error (t.2, 2) := by
  rw [h, prs_some ht he he2, hr]; rfl
theorem prs_one {ts : Tks} {l : List Rl} {p k : Nat} {t : Tk × Nat} {x : Rl} (h : prs ts 0 = prepR l (prs (ts.drop p) k)) (hk : k ≠ 40) (ht : ts[p]? = some t) (he : 1 ≤ endI (ts.drop p)) (he2 : p + endI (ts.drop p) < ts.length)
    (hr : ruleL t.1 (((ts.drop (p + 1)).take (endI (ts.drop p) - 1)).map (·.1)) = some x) : prs ts 0 = prepR (l ++ [x]) (prs (ts.drop (p + (endI (ts.drop p) + 1))) (k + 1)) := by
  rw [h, prs_some ht he he2, hr]
  simp only [if_neg hk]
  rw [prepR_prepR]

/-! what a plan's rules are -/

def NonNeg (r : Rl) : Prop := 0 ≤ r.2.2.1 ∧ 0 ≤ r.2.2.2

theorem fill_nonneg {r : Rl} (h : NonNeg r) (t : Tk) : NonNeg (fill r t) := by
  unfold NonNeg at *
  unfold fill
  split
  · exact h
  · split
    · exact ⟨by simp, h.2⟩
    · split
      · exact ⟨h.1, by simp⟩
      · exact h
theorem foldl_nonneg : ∀ (ps : List Tk) {r : Rl}, NonNeg r → NonNeg (ps.foldl fill r)
  | [], _, h => h
  | t :: ps, _, h => foldl_nonneg ps (fill_nonneg h t)
theorem ruleL_nonneg {t : Tk} {ps : List Tk} {x : Rl} (h : ruleL t ps = some x) : NonNeg x := by
  unfold ruleL at h
  split at h
  · cases h
  · split at h
    · injection h with h; rw [← h]; exact foldl_nonneg ps ⟨Int.le_refl _, Int.le_refl _⟩
    · cases h

theorem prepR_ok {a : List Rl} {x : Rls} {l : List Rl} (h : prepR a x = .ok l) : ∃ u, x = .ok u ∧ l = a ++ u := by
  cases x with
  | error e => cases h
  | ok u => injection h with h; exact ⟨u, rfl, h.symm⟩

theorem prsF_nonneg : ∀ (f : Nat) (ts : Tks) (k : Nat) (l : List Rl), prsF f ts k = .ok l → ∀ x ∈ l, NonNeg x := by
  intro f
  induction f with
  | zero => intro ts k l h; injection h with h; rw [← h]; intro x hx; cases hx
  | succ f ih =>
    intro ts k l h
    cases ts with
    | nil => injection h with h; rw [← h]; intro x hx; cases hx
    | cons t r =>
      simp only [prsF] at h
      split at h
      · cases h
      · split at h
        · cases h
        · rename_i x hx
          split at h
          · cases h
          · obtain ⟨u, hu, rfl⟩ := prepR_ok h
            intro y hy
            rcases List.mem_append.1 hy with hy | hy
            · rw [List.mem_singleton.1 hy]; exact ruleL_nonneg hx
            · exact ih _ _ _ hu y hy
theorem prL_nonneg {s : List UInt8} {l : List Rl} (h : prL s = .ok l) : ∀ x ∈ l, NonNeg x := by
  unfold prL at h
  split at h
  · cases h
  · exact prsF_nonneg _ _ _ _ h

/-! texts -/

/-- a rate's text -/
def pctI (r : Int) : List UInt8 :=
  if r.tmod 100 = 0 then Go.Lib.itoa (r.tdiv 100) ++ [37]
  else ((Go.Lib.itoa (r.tdiv 100) ++ [46]) ++ Go.Lib.itoa ((r.tdiv 10).tmod 10) ++ Go.Lib.itoa (r.tmod 10)) ++ [37]

/-- a part's text -/
def partI (r : Rl) (k : Nat) : List UInt8 := if k = 0 then r.2.1 else if k = 1 then Go.Lib.itoa r.2.2.1 else pctI r.2.2.2

def partsI (r : Rl) (f : List Nat) : List UInt8 := f.foldl (fun s k => s ++ ([32] ++ partI r k)) r.1

/-- a rule's text -/
def lineI (r : Rl) : List UInt8 := partsI r ((formL r.1).getD []) ++ [59, 10]

def textI (l : List Rl) : List UInt8 := l.foldl (fun s r => s ++ lineI r) []

/-- what is shown of rules -/
def showL (l : List Rl) : Option (List UInt8) :=
  match prL (textI l) with
  | .error _ => none
  | .ok u => if u = l then some (textI l) else none

theorem showL_err {l : List Rl} {e : Nat × Nat} (h : prL (textI l) = .error e) : showL l = none := by unfold showL; rw [h]
theorem showL_ne {l u : List Rl} (h : prL (textI l) = .ok u) (hn : u ≠ l) : showL l = none := by unfold showL; rw [h]; exact if_neg hn
theorem showL_eq {l : List Rl} (h : prL (textI l) = .ok l) : showL l = some (textI l) := by unfold showL; rw [h]; exact if_pos rfl
theorem showL_some {l : List Rl} {s : List UInt8} (h : showL l = some s) : s = textI l ∧ prL s = .ok l := by
  unfold showL at h
  split at h
  · cases h
  · rename_i u hu
    split at h
    · rename_i e
      injection h with h
      subst e
      exact ⟨h.symm, by rw [← h]; exact hu⟩
    · cases h
/-- rules with a number or a rate below 0 are no plan's -/
theorem showL_neg {l : List Rl} {x : Rl} (hx : x ∈ l) (h : ¬ NonNeg x) : showL l = none := by
  cases hs : showL l with
  | none => rfl
  | some s => exact absurd (prL_nonneg (showL_some hs).2 x hx) h

def I64 (n : Int) : Prop := -9223372036854775808 ≤ n ∧ n ≤ 9223372036854775807

theorem itoa_len {n : Int} (h : I64 n) : (Go.Lib.itoa n).length ≤ 21 := Go.Lib.itoa_length_le n h.1 h.2

theorem i64_tdiv {n : Int} (h : I64 n) (d : Int) (hd : 1 ≤ d) (hd2 : d ≤ 100) : I64 (n.tdiv d) := by
  unfold I64 at *
  rcases Int.le_total 0 n with h0 | h0
  · rw [Int.tdiv_eq_ediv_of_nonneg h0]
    have h1 := Int.ediv_le_self d h0
    have h2 := Int.ediv_nonneg h0 (by omega : 0 ≤ d)
    omega
  · obtain ⟨m, rfl⟩ : ∃ m, n = -m := ⟨-n, by omega⟩
    rw [Int.neg_tdiv, Int.tdiv_eq_ediv_of_nonneg (by omega)]
    have h1 := Int.ediv_le_self (a := m) d (by omega)
    have h2 := Int.ediv_nonneg (a := m) (by omega) (by omega : 0 ≤ d)
    omega
theorem i64_tmod {n : Int} (d : Int) (hd : 1 ≤ d) (hd2 : d ≤ 100) : I64 (n.tmod d) := by
  unfold I64
  have h1 := Int.tmod_lt_of_pos n (by omega : 0 < d)
  have h2 := Int.lt_tmod_of_pos n (by omega : 0 < d)
  omega

theorem pctI_len {r : Int} (h : I64 r) : (pctI r).length ≤ 65 := by
  have h1 := itoa_len (i64_tdiv h 100 (by decide) (by decide))
  have h2 := itoa_len (i64_tmod (n := r.tdiv 10) 10 (by decide) (by decide))
  have h3 := itoa_len (i64_tmod (n := r) 10 (by decide) (by decide))
  unfold pctI
  split <;> simp only [List.length_append, List.length_cons, List.length_nil] <;> omega

def OkR (r : Rl) : Prop := I64 r.2.2.1 ∧ I64 r.2.2.2

theorem partI_len {r : Rl} (h : OkR r) (k : Nat) : (partI r k).length ≤ r.2.1.length + 65 := by
  have h1 := itoa_len h.1
  have h2 := pctI_len h.2
  unfold partI
  split
  · omega
  · split <;> omega

theorem lineI_len {r : Rl} (h : OkR r) : (lineI r).length ≤ r.1.length + 2 * (r.2.1.length + 66) + 2 := by
  have hp := partI_len h
  unfold lineI partsI
  rcases formL_six r.1 with ⟨_, h2⟩ | ⟨_, h2⟩ | ⟨_, h2⟩ | ⟨_, h2⟩ | ⟨_, h2⟩ | ⟨_, h2⟩ | ⟨h2, _⟩ <;> rw [h2] <;> simp only [Option.getD_some, Option.getD_none, List.foldl_cons, List.foldl_nil, List.length_append, List.length_cons, List.length_nil]
  · have := hp 1; have := hp 2; omega
  · have := hp 0; have := hp 2; omega
  · have := hp 1; omega
  · have := hp 1; omega
  · have := hp 2; omega
  · have := hp 1; have := hp 2; omega
  · omega

theorem textI_snoc (l : List Rl) (r : Rl) : textI (l ++ [r]) = textI l ++ lineI r := by simp [textI]
theorem textI_take {l : List Rl} {k : Nat} {r : Rl} (h : l[k]? = some r) : textI (l.take (k + 1)) = textI (l.take k) ++ lineI r := by
  obtain ⟨h1, h2⟩ := List.getElem?_eq_some_iff.1 h
  rw [List.take_succ_eq_append_getElem h1, h2, textI_snoc]

/-- how much a list of rules weighs -/
def bulkR (l : List Rl) : Nat := (l.map fun r => 1 + r.1.length + r.2.1.length).sum
theorem bulkR_take {l : List Rl} {k : Nat} {r : Rl} (h : l[k]? = some r) : bulkR (l.take (k + 1)) = bulkR (l.take k) + (1 + r.1.length + r.2.1.length) := by
  obtain ⟨h1, h2⟩ := List.getElem?_eq_some_iff.1 h
  unfold bulkR
  rw [List.take_succ_eq_append_getElem h1, h2, List.map_append, List.sum_append]; simp
theorem bulkR_le (l : List Rl) (k : Nat) : bulkR (l.take k) ≤ bulkR l := by
  have e : bulkR (l.take k ++ l.drop k) = bulkR (l.take k) + bulkR (l.drop k) := by unfold bulkR; rw [List.map_append, List.sum_append]
  rw [List.take_append_drop] at e
  omega
theorem bulkR_len (l : List Rl) : l.length ≤ bulkR l := by
  induction l with
  | nil => simp
  | cons r l ih => unfold bulkR at *; rw [List.map_cons, List.sum_cons, List.length_cons]; omega
theorem textI_len : ∀ (n : Nat) (l : List Rl), l.length = n → (∀ r ∈ l, OkR r) → (textI l).length ≤ 140 * bulkR l := by
  intro n
  induction n with
  | zero => intro l hl _; rw [List.length_eq_zero_iff.1 hl]; simp [textI]
  | succ n ih =>
    intro l hl h
    have hne : l ≠ [] := by intro e; rw [e] at hl; simp at hl
    have e := List.dropLast_concat_getLast hne
    have h1 := ih l.dropLast (by simp [hl]) (fun c hc => h c (by rw [← e]; exact List.mem_append_left _ hc))
    have h2 := lineI_len (h _ (List.getLast_mem hne))
    have e2 : bulkR l = bulkR l.dropLast + (1 + (l.getLast hne).1.length + (l.getLast hne).2.1.length) := by
      conv => lhs; rw [← e]
      unfold bulkR; rw [List.map_append, List.sum_append]; simp
    rw [e2]
    conv => lhs; rw [← e]
    rw [textI_snoc, List.length_append]
    omega
end Go.Proofs.YtjegfoeempojiaaDoor
