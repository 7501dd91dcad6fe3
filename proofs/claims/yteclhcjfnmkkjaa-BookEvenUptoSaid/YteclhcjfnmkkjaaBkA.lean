/-
  Plain: accounts, their order, lines, balances, what is booked.
-/
import Derived.Lib.Bytealg
import Derived.Test.YteclhcjfnmkkjaaAddA
namespace Go.Proofs.Yteclhcjfnmkkjaa
open Go.Lib
set_option linter.unusedSimpArgs false

/-- an account: kind, party, currency -/
abbrev Ac := List UInt8 × List UInt8 × List UInt8
/-- an account, and an amount -/
abbrev Ln := Ac × Int

/-! texts in order -/
theorem cb_self : ∀ a : List UInt8, compareBytes a a = 0
  | [] => rfl
  | x :: r => by
    have h : ¬ x < x := by rw [UInt8.lt_iff_toNat_lt]; omega
    simp [compareBytes, h, cb_self r]
theorem cb_swap : ∀ a b : List UInt8, compareBytes b a = - compareBytes a b
  | [], [] => rfl
  | [], _ :: _ => rfl
  | _ :: _, [] => rfl
  | x :: r, y :: s => by
    unfold compareBytes
    by_cases h1 : x < y
    · have h2 : ¬ y < x := by rw [UInt8.lt_iff_toNat_lt] at h1 ⊢; omega
      rw [if_pos h1, if_neg h2, if_pos h1]; rfl
    · by_cases h2 : y < x
      · rw [if_pos h2, if_neg h1, if_pos h2]
      · rw [if_neg h1, if_neg h2, if_neg h2, if_neg h1]; exact cb_swap r s
theorem cb_eq : ∀ {a b : List UInt8}, compareBytes a b = 0 → a = b
  | [], [], _ => rfl
  | [], _ :: _, h => by simp [compareBytes] at h
  | _ :: _, [], h => by simp [compareBytes] at h
  | x :: r, y :: s, h => by
    unfold compareBytes at h
    by_cases h1 : x < y
    · rw [if_pos h1] at h; cases h
    · by_cases h2 : y < x
      · rw [if_neg h1, if_pos h2] at h; cases h
      · rw [if_neg h1, if_neg h2] at h
        have e : x = y := by
          rw [UInt8.lt_iff_toNat_lt] at h1 h2
          exact UInt8.toNat_inj.1 (by omega)
        rw [e, cb_eq h]
theorem cb_zero {a b : List UInt8} : compareBytes a b = 0 ↔ a = b := ⟨cb_eq, fun h => by rw [h]; exact cb_self b⟩
theorem cb_trans : ∀ {a b c : List UInt8}, compareBytes a b < 0 → compareBytes b c < 0 → compareBytes a c < 0
  | [], [], _, h, _ => by simp [compareBytes] at h
  | [], _ :: _, [], _, k => by simp [compareBytes] at k
  | [], _ :: _, _ :: _, _, _ => by simp [compareBytes]
  | _ :: _, [], _, h, _ => by simp [compareBytes] at h
  | _ :: _, _ :: _, [], _, k => by simp [compareBytes] at k
  | x :: r, y :: s, z :: t, h, k => by
    unfold compareBytes at h k ⊢
    by_cases h1 : x < y
    · by_cases k1 : y < z
      · have : x < z := by rw [UInt8.lt_iff_toNat_lt] at h1 k1 ⊢; omega
        rw [if_pos this]; decide
      · by_cases k2 : z < y
        · rw [if_neg k1, if_pos k2] at k; exact absurd k (by decide)
        · have : x < z := by rw [UInt8.lt_iff_toNat_lt] at h1 k1 k2 ⊢; omega
          rw [if_pos this]; decide
    · by_cases h2 : y < x
      · rw [if_neg h1, if_pos h2] at h; exact absurd h (by decide)
      · rw [if_neg h1, if_neg h2] at h
        by_cases k1 : y < z
        · have : x < z := by rw [UInt8.lt_iff_toNat_lt] at h1 h2 k1 ⊢; omega
          rw [if_pos this]; decide
        · by_cases k2 : z < y
          · rw [if_neg k1, if_pos k2] at k; exact absurd k (by decide)
          · rw [if_neg k1, if_neg k2] at k
            have e1 : ¬ x < z := by rw [UInt8.lt_iff_toNat_lt] at h1 h2 k1 k2 ⊢; omega
            have e2 : ¬ z < x := by rw [UInt8.lt_iff_toNat_lt] at h1 h2 k1 k2 ⊢; omega
            rw [if_neg e1, if_neg e2]
            exact cb_trans h k
theorem cb_cases (a b : List UInt8) : compareBytes a b = -1 ∨ compareBytes a b = 0 ∨ compareBytes a b = 1 := by
  induction a generalizing b with
  | nil => cases b <;> simp [compareBytes]
  | cons x r ih =>
    cases b with
    | nil => simp [compareBytes]
    | cons y s =>
      unfold compareBytes
      by_cases h1 : x < y
      · rw [if_pos h1]; exact .inl rfl
      · by_cases h2 : y < x
        · rw [if_neg h1, if_pos h2]; exact .inr (.inr rfl)
        · rw [if_neg h1, if_neg h2]; exact ih s

/-- which of two accounts is first -/
def cmpA (a b : Ac) : Int :=
  if compareBytes a.1 b.1 ≠ 0 then compareBytes a.1 b.1 else if compareBytes a.2.1 b.2.1 ≠ 0 then compareBytes a.2.1 b.2.1 else compareBytes a.2.2 b.2.2
theorem cmpA_self (a : Ac) : cmpA a a = 0 := by simp [cmpA, cb_self]
theorem cmpA_swap (a b : Ac) : cmpA b a = - cmpA a b := by
  unfold cmpA
  rw [cb_swap a.1 b.1, cb_swap a.2.1 b.2.1, cb_swap a.2.2 b.2.2]
  split <;> split <;> first | rfl | omega | (split <;> split <;> first | rfl | omega)
theorem cmpA_eq {a b : Ac} (h : cmpA a b = 0) : a = b := by
  unfold cmpA at h
  obtain ⟨a1, a2, a3⟩ := a
  obtain ⟨b1, b2, b3⟩ := b
  simp only at h
  split at h
  · omega
  · split at h
    · omega
    · rename_i h1 h2
      have e1 := cb_eq (Classical.not_not.1 h1)
      have e2 := cb_eq (Classical.not_not.1 h2)
      have e3 := cb_eq h
      rw [e1, e2, e3]
theorem cmpA_zero {a b : Ac} : cmpA a b = 0 ↔ a = b := ⟨cmpA_eq, fun h => by rw [h]; exact cmpA_self b⟩
theorem cmpA_trans {a b c : Ac} (h : cmpA a b < 0) (k : cmpA b c < 0) : cmpA a c < 0 := by
  obtain ⟨a1, a2, a3⟩ := a
  obtain ⟨b1, b2, b3⟩ := b
  obtain ⟨c1, c2, c3⟩ := c
  unfold cmpA at h k ⊢
  simp only at h k ⊢
  by_cases h1 : compareBytes a1 b1 = 0
  · obtain rfl := cb_eq h1
    by_cases k1 : compareBytes a1 c1 = 0
    · obtain rfl := cb_eq k1
      simp only [cb_self, ne_eq, not_true, if_false] at h k ⊢
      by_cases h2 : compareBytes a2 b2 = 0
      · obtain rfl := cb_eq h2
        by_cases k2 : compareBytes a2 c2 = 0
        · obtain rfl := cb_eq k2
          simp only [cb_self, ne_eq, not_true, if_false] at h k ⊢
          exact cb_trans h k
        · simp only [cb_self, ne_eq, not_true, if_false, k2, not_false_eq_true, if_true] at h k ⊢
          exact k
      · by_cases k2 : compareBytes b2 c2 = 0
        · obtain rfl := cb_eq k2
          simp only [h2, ne_eq, not_false_eq_true, if_true] at h ⊢
          exact h
        · simp only [h2, k2, ne_eq, not_false_eq_true, if_true] at h k
          have := cb_trans h k
          rw [if_pos (by omega)]; exact this
    · simp only [cb_self, k1, ne_eq, not_true, not_false_eq_true, if_false, if_true] at h k ⊢
      exact k
  · by_cases k1 : compareBytes b1 c1 = 0
    · obtain rfl := cb_eq k1
      simp only [h1, ne_eq, not_false_eq_true, if_true] at h ⊢
      exact h
    · simp only [h1, k1, ne_eq, not_false_eq_true, if_true] at h k
      have := cb_trans h k
      rw [if_pos (by omega)]; exact this

/-- in order, no account twice -/
def Srt (m : List Ln) : Prop := m.Pairwise fun x y => cmpA x.1 y.1 < 0
/-- no balance is 0 -/
def Nz (m : List Ln) : Prop := ∀ x ∈ m, x.2 ≠ 0

theorem srt_ext : ∀ {l₁ l₂ : List Ln}, Srt l₁ → Srt l₂ → (∀ p, p ∈ l₁ ↔ p ∈ l₂) → l₁ = l₂
  | [], [], _, _, _ => rfl
  | [], b :: s, _, _, h => by have := (h b).2 (by simp); simp at this
  | a :: r, [], _, _, h => by have := (h a).1 (by simp); simp at this
  | a :: r, b :: s, h1, h2, h => by
    obtain ⟨a1, a2⟩ := List.pairwise_cons.1 h1
    obtain ⟨b1, b2⟩ := List.pairwise_cons.1 h2
    have hab : a = b := by
      rcases List.mem_cons.1 ((h a).1 (by simp)) with e | ha
      · exact e
      · rcases List.mem_cons.1 ((h b).2 (by simp)) with e | hb
        · exact e.symm
        · have h3 := a1 b hb
          have h4 := b1 a ha
          have := cmpA_swap a.1 b.1
          omega
    subst hab
    rw [srt_ext a2 b2 (fun p => ⟨fun hp => by
      rcases List.mem_cons.1 ((h p).1 (by simp [hp])) with e | hp'
      · have := a1 p hp
        rw [e, cmpA_self] at this
        omega
      · exact hp', fun hp => by
      rcases List.mem_cons.1 ((h p).2 (by simp [hp])) with e | hp'
      · have := b1 p hp
        rw [e, cmpA_self] at this
        omega
      · exact hp'⟩)]

/-- a balance -/
def rGet : List Ln → Ac → Int
  | [], _ => 0
  | x :: r, a => if x.1 = a then x.2 else rGet r a

theorem rGet_none {m : List Ln} {a : Ac} (h : ∀ x ∈ m, x.1 ≠ a) : rGet m a = 0 := by
  induction m with
  | nil => rfl
  | cons x r ih => rw [rGet, if_neg (h x (by simp)), ih fun y hy => h y (by simp [hy])]
theorem rGet_mem {m : List Ln} (hs : Srt m) {x : Ln} (h : x ∈ m) : rGet m x.1 = x.2 := by
  induction m with
  | nil => cases h
  | cons y r ih =>
    obtain ⟨h1, h2⟩ := List.pairwise_cons.1 hs
    rw [rGet]
    rcases List.mem_cons.1 h with e | h
    · rw [e, if_pos rfl]
    · have h3 := h1 x h
      rw [if_neg (fun e => by rw [e, cmpA_self] at h3; omega), ih h2 h]
theorem mem_of_rGet {m : List Ln} {a : Ac} (h : rGet m a ≠ 0) : (a, rGet m a) ∈ m := by
  induction m with
  | nil => exact absurd rfl h
  | cons y r ih =>
    rw [rGet] at h ⊢
    split
    · rename_i e; rw [← e]; exact List.mem_cons_self
    · rename_i e; rw [if_neg e] at h; exact List.mem_cons_of_mem _ (ih h)

/-- a balance set: what is still to come -/
def setL (x : Ln) : Bool → List Ln → List Ln
  | d, [] => if d then [] else [x]
  | d, y :: r => (if 0 < cmpA y.1 x.1 ∧ d = false then [x] else []) ++ ((if cmpA y.1 x.1 ≠ 0 then [y] else []) ++ setL x (d || decide (0 < cmpA y.1 x.1)) r)
def rSet (m : List Ln) (x : Ln) : List Ln := setL x (decide (x.2 = 0)) m

theorem setL_true (x : Ln) (m : List Ln) : setL x true m = m.filter fun y => decide (cmpA y.1 x.1 ≠ 0) := by
  induction m with
  | nil => rfl
  | cons y r ih =>
    rw [setL, List.filter_cons]
    simp only [Bool.true_or, ih]
    simp only [Bool.true_eq_false, and_false, if_false, List.nil_append]
    by_cases h : cmpA y.1 x.1 = 0 <;> simp [h]

theorem mem_setL_false {x : Ln} {m : List Ln} (hs : Srt m) (y : Ln) : y ∈ setL x false m ↔ (y ∈ m ∧ y.1 ≠ x.1) ∨ y = x := by
  induction m with
  | nil => simp [setL]
  | cons z r ih =>
    obtain ⟨h1, h2⟩ := List.pairwise_cons.1 hs
    rw [setL]
    by_cases h : 0 < cmpA z.1 x.1
    · have hz : z.1 ≠ x.1 := fun e => by rw [e, cmpA_self] at h; omega
      rw [if_pos ⟨h, rfl⟩, if_pos (by omega)]
      simp only [h, decide_true, Bool.or_true, setL_true, List.mem_append, List.mem_singleton, List.mem_filter, decide_eq_true_eq, List.mem_cons, List.not_mem_nil, or_false, ne_eq, cmpA_zero]
      constructor
      · rintro (h | h | h)
        · exact .inr h
        · exact .inl ⟨.inl h, by rw [h]; exact hz⟩
        · exact .inl ⟨.inr h.1, h.2⟩
      · rintro (⟨h | h, h'⟩ | h)
        · exact .inr (.inl h)
        · exact .inr (.inr ⟨h, h'⟩)
        · exact .inl h
    · rw [if_neg (fun hh => h hh.1)]
      simp only [h, decide_false, Bool.or_false, List.nil_append, List.mem_append, ih h2, List.mem_cons]
      by_cases h0 : cmpA z.1 x.1 = 0
      · have hz : z.1 = x.1 := cmpA_eq h0
        rw [if_neg (by simp [h0])]
        simp only [List.not_mem_nil, false_or]
        constructor
        · rintro (h | h)
          · exact .inl ⟨.inr h.1, h.2⟩
          · exact .inr h
        · rintro (⟨h | h, h'⟩ | h)
          · rw [h] at h'; exact absurd hz h'
          · exact .inl ⟨h, h'⟩
          · exact .inr h
      · have hz : z.1 ≠ x.1 := fun e => h0 (cmpA_zero.2 e)
        rw [if_pos h0]
        simp only [List.mem_singleton]
        constructor
        · rintro (h | h | h)
          · exact .inl ⟨.inl h, by rw [h]; exact hz⟩
          · exact .inl ⟨.inr h.1, h.2⟩
          · exact .inr h
        · rintro (⟨h | h, h'⟩ | h)
          · exact .inl h
          · exact .inr (.inl ⟨h, h'⟩)
          · exact .inr (.inr h)

theorem mem_rSet {m : List Ln} (hs : Srt m) (x y : Ln) : y ∈ rSet m x ↔ (y ∈ m ∧ y.1 ≠ x.1) ∨ (y = x ∧ x.2 ≠ 0) := by
  unfold rSet
  by_cases h : x.2 = 0
  · rw [decide_eq_true h, setL_true]
    simp [List.mem_filter, cmpA_zero, h]
  · rw [decide_eq_false h, mem_setL_false hs]
    simp [h]

theorem srt_setL {x : Ln} {m : List Ln} (hs : Srt m) (d : Bool) : Srt (setL x d m) := by
  cases d with
  | true => rw [setL_true]; exact hs.filter _
  | false =>
    induction m with
    | nil => exact List.pairwise_singleton _ _
    | cons z r ih =>
      obtain ⟨h1, h2⟩ := List.pairwise_cons.1 hs
      rw [setL]
      by_cases h : 0 < cmpA z.1 x.1
      · rw [if_pos ⟨h, rfl⟩, if_pos (by omega)]
        simp only [h, decide_true, Bool.or_true, setL_true]
        have hxz : cmpA x.1 z.1 < 0 := by have := cmpA_swap z.1 x.1; omega
        refine List.pairwise_cons.2 ⟨fun y hy => ?_, List.pairwise_cons.2 ⟨fun y hy => h1 y (List.mem_filter.1 hy).1, h2.filter _⟩⟩
        rcases List.mem_cons.1 hy with e | hy
        · rw [e]; exact hxz
        · exact cmpA_trans hxz (h1 y (List.mem_filter.1 hy).1)
      · rw [if_neg (fun hh => h hh.1)]
        simp only [h, decide_false, Bool.or_false, List.nil_append]
        by_cases h0 : cmpA z.1 x.1 = 0
        · rw [if_neg (by simp [h0])]; exact ih h2
        · rw [if_pos h0]
          refine List.pairwise_cons.2 ⟨fun y hy => ?_, ih h2⟩
          rcases (mem_setL_false h2 y).1 hy with hh | hh
          · exact h1 y hh.1
          · rw [hh]; omega
theorem srt_rSet {m : List Ln} (hs : Srt m) (x : Ln) : Srt (rSet m x) := srt_setL hs _

theorem nz_rSet {m : List Ln} (hs : Srt m) (hz : Nz m) (x : Ln) : Nz (rSet m x) := fun y hy => by
  rcases (mem_rSet hs x y).1 hy with h | h
  · exact hz y h.1
  · rw [h.1]; exact h.2

theorem rGet_eq {m m' : List Ln} (hs : Srt m) (hs' : Srt m') {a : Ac} (h : ∀ n, (a, n) ∈ m ↔ (a, n) ∈ m') : rGet m a = rGet m' a := by
  by_cases h0 : rGet m a = 0
  · by_cases h1 : rGet m' a = 0
    · rw [h0, h1]
    · have := rGet_mem hs ((h _).2 (mem_of_rGet h1))
      exact this
  · exact (rGet_mem hs' ((h _).1 (mem_of_rGet h0))).symm

theorem rGet_set {m : List Ln} (hs : Srt m) (x : Ln) (a : Ac) : rGet (rSet m x) a = if a = x.1 then x.2 else rGet m a := by
  have hs' := srt_rSet hs x
  split
  · rename_i e
    subst e
    by_cases h : x.2 = 0
    · rw [h]
      refine rGet_none fun y hy e => ?_
      rcases (mem_rSet hs x y).1 hy with h1 | h1
      · exact h1.2 e
      · exact h1.2 h
    · exact rGet_mem hs' ((mem_rSet hs x x).2 (.inr ⟨rfl, h⟩))
  · rename_i e
    refine rGet_eq hs' hs fun n => ?_
    rw [mem_rSet hs]
    constructor
    · rintro (h | h)
      · exact h.1
      · exact absurd (congrArg Prod.fst h.1) e
    · exact fun h => .inl ⟨h, e⟩
end Go.Proofs.Yteclhcjfnmkkjaa
