/-
  Plain lemmas: rows of places that are exchanged, and put in an order.
-/
namespace Go.Proofs.Ytmnhjcfhgcineaa

/-- d' holds what d holds, the places from a to b exchanged among themselves. -/
def Shuf (a b : Nat) (d d' : Nat → Nat) : Prop :=
  ∃ s t : Nat → Nat, (∀ p, d' p = d (s p)) ∧ (∀ p, s (t p) = p) ∧ (∀ p, t (s p) = p) ∧ (∀ p, ¬(a ≤ p ∧ p < b) → s p = p) ∧ (∀ p, a ≤ p → p < b → a ≤ s p ∧ s p < b)

theorem Shuf.refl (a b : Nat) (d : Nat → Nat) : Shuf a b d d := ⟨id, id, fun _ => rfl, fun _ => rfl, fun _ => rfl, fun _ _ => rfl, fun _ h1 h2 => ⟨h1, h2⟩⟩

theorem Shuf.trans {a b : Nat} {d e f : Nat → Nat} (h : Shuf a b d e) (k : Shuf a b e f) : Shuf a b d f := by
  obtain ⟨s, t, h1, h2, h3, h4, h5⟩ := h
  obtain ⟨s', t', k1, k2, k3, k4, k5⟩ := k
  refine ⟨fun p => s (s' p), fun p => t' (t p), fun p => by rw [k1, h1], fun p => ?_, fun p => ?_, fun p hp => ?_, fun p hp1 hp2 => ?_⟩
  · show s (s' (t' (t p))) = p
    rw [k2, h2]
  · show t' (t (s (s' p))) = p
    rw [h3, k3]
  · show s (s' p) = p
    rw [k4 p hp, h4 p hp]
  · have := k5 p hp1 hp2
    exact h5 _ this.1 this.2

theorem Shuf.mono {a b a' b' : Nat} {d e : Nat → Nat} (h : Shuf a b d e) (ha : a' ≤ a) (hb : b ≤ b') : Shuf a' b' d e := by
  obtain ⟨s, t, h1, h2, h3, h4, h5⟩ := h
  refine ⟨s, t, h1, h2, h3, fun p hp => h4 p (by omega), fun p hp1 hp2 => ?_⟩
  by_cases hin : a ≤ p ∧ p < b
  · have := h5 p hin.1 hin.2; omega
  · rw [h4 p hin]; omega

/-- the two places i and j exchanged -/
def swp (d : Nat → Nat) (i j : Nat) : Nat → Nat := fun p => if p = i then d j else if p = j then d i else d p

theorem Shuf.swp {a b : Nat} (d : Nat → Nat) {i j : Nat} (hi : a ≤ i ∧ i < b) (hj : a ≤ j ∧ j < b) : Shuf a b d (swp d i j) := by
  refine ⟨fun p => if p = i then j else if p = j then i else p, fun p => if p = i then j else if p = j then i else p, fun p => ?_, fun p => ?_, fun p => ?_, fun p hp => ?_, fun p h1 h2 => ?_⟩
  · simp only [Go.Proofs.Ytmnhjcfhgcineaa.swp]; split <;> (try rfl); split <;> rfl
  · dsimp only; repeat' split
    all_goals omega
  · dsimp only; repeat' split
    all_goals omega
  · dsimp only; repeat' split
    all_goals omega
  · dsimp only; repeat' split
    all_goals omega

theorem Shuf.out {a b : Nat} {d e : Nat → Nat} (h : Shuf a b d e) {p : Nat} (hp : ¬(a ≤ p ∧ p < b)) : e p = d p := by
  obtain ⟨s, t, h1, h2, h3, h4, h5⟩ := h
  rw [h1, h4 p hp]

theorem Shuf.from_ {a b : Nat} {d e : Nat → Nat} (h : Shuf a b d e) {p : Nat} (h1 : a ≤ p) (h2 : p < b) : ∃ q, a ≤ q ∧ q < b ∧ e p = d q := by
  obtain ⟨s, t, k1, k2, k3, k4, k5⟩ := h
  exact ⟨s p, (k5 p h1 h2).1, (k5 p h1 h2).2, k1 p⟩

theorem Shuf.to_ {a b : Nat} {d e : Nat → Nat} (h : Shuf a b d e) {p : Nat} (h1 : a ≤ p) (h2 : p < b) : ∃ q, a ≤ q ∧ q < b ∧ d p = e q := by
  obtain ⟨s, t, k1, k2, k3, k4, k5⟩ := h
  refine ⟨t p, ?_, ?_, by rw [k1, k2]⟩
  · by_cases hc : a ≤ t p ∧ t p < b
    · exact hc.1
    · have := k4 _ hc; rw [k2] at this; omega
  · by_cases hc : a ≤ t p ∧ t p < b
    · exact hc.2
    · have := k4 _ hc; rw [k2] at this; omega

/-- x comes ahead of y: more is x's key, or as much, and x is the first. -/
def bef (key : Nat → Int) (x y : Nat) : Prop := key y < key x ∨ (key x = key y ∧ x < y)

theorem bef.trans {key : Nat → Int} {x y z : Nat} (h : bef key x y) (k : bef key y z) : bef key x z := by
  unfold bef at *; omega

theorem bef.irrefl {key : Nat → Int} {x : Nat} (h : bef key x x) : False := by
  unfold bef at h; omega

theorem bef.asymm {key : Nat → Int} {x y : Nat} (h : bef key x y) (k : bef key y x) : False := (h.trans k).irrefl

theorem bef.total (key : Nat → Int) {x y : Nat} (h : x ≠ y) : bef key x y ∨ bef key y x := by
  unfold bef; omega

/-- the places from a to b are in order -/
def Ordd (key : Nat → Int) (a b : Nat) (d : Nat → Nat) : Prop := ∀ p q, a ≤ p → p < q → q < b → bef key (d p) (d q)

/-- insertion: the element at j, up to i, not yet at its place -/
structure InsAt (key : Nat → Int) (a i j : Nat) (d : Nat → Nat) : Prop where
  rest : ∀ p q, a ≤ p → p < q → q ≤ i → p ≠ j → q ≠ j → bef key (d p) (d q)
  behind : ∀ q, j < q → q ≤ i → bef key (d j) (d q)
  last : ∀ p, a ≤ p → p ≤ i → p ≠ j → d p < d j

theorem InsAt.start {key : Nat → Int} {a i : Nat} {d : Nat → Nat} (h : Ordd key a i d) (hl : ∀ p, a ≤ p → p < i → d p < d i) : InsAt key a i i d :=
  ⟨fun p q h1 h2 h3 _ h5 => h p q h1 h2 (by omega), fun q h1 h2 => by omega, fun p h1 h2 h3 => hl p h1 (by omega)⟩

theorem InsAt.stop {key : Nat → Int} {a i j : Nat} {d : Nat → Nat} (h : InsAt key a i j d) (hj : a ≤ j) (hji : j ≤ i) (hs : j = a ∨ ¬ key (d (j - 1)) < key (d j)) : Ordd key a (i + 1) d := by
  intro p q h1 h2 h3
  by_cases hp : p = j
  · subst hp; exact h.behind q h2 (by omega)
  · by_cases hq : q = j
    · subst hq
      rcases hs with hs | hs
      · omega
      · have hl := h.last (q - 1) (by omega) (by omega) (by omega)
        have hb : bef key (d (q - 1)) (d q) := by unfold bef; omega
        by_cases hpq : p = q - 1
        · subst hpq; exact hb
        · exact (h.rest p (q - 1) h1 (by omega) (by omega) hp (by omega)).trans hb
    · exact h.rest p q h1 h2 (by omega) hp hq

theorem InsAt.step {key : Nat → Int} {a i j : Nat} {d : Nat → Nat} (h : InsAt key a i j d) (hj : a < j) (hji : j ≤ i) (hs : key (d (j - 1)) < key (d j)) : InsAt key a i (j - 1) (swp d j (j - 1)) := by
  have e1 : swp d j (j - 1) (j - 1) = d j := by unfold swp; rw [if_neg (by omega), if_pos rfl]
  have e2 : swp d j (j - 1) j = d (j - 1) := by unfold swp; rw [if_pos rfl]
  have e3 : ∀ p, p ≠ j → p ≠ j - 1 → swp d j (j - 1) p = d p := fun p h1 h2 => by unfold swp; rw [if_neg h1, if_neg h2]
  refine ⟨fun p q h1 h2 h3 h4 h5 => ?_, fun q h1 h2 => ?_, fun p h1 h2 h3 => ?_⟩
  · by_cases hp : p = j
    · subst hp
      rw [e2, e3 q (by omega) h5]
      exact h.rest (p - 1) q (by omega) (by omega) h3 (by omega) (by omega)
    · by_cases hq : q = j
      · subst hq
        rw [e2, e3 p hp h4]
        exact h.rest p (q - 1) h1 (by omega) (by omega) hp (by omega)
      · rw [e3 p hp h4, e3 q hq h5]
        exact h.rest p q h1 h2 h3 hp hq
  · rw [e1]
    by_cases hq : q = j
    · subst hq; rw [e2]; exact Or.inl hs
    · rw [e3 q hq (by omega)]; exact h.behind q (by omega) h2
  · rw [e1]
    by_cases hp : p = j
    · subst hp; rw [e2]; exact h.last (p - 1) (by omega) (by omega) (by omega)
    · rw [e3 p hp h3]; exact h.last p h1 h2 hp

theorem InsAt.swp_out {d : Nat → Nat} {i j p : Nat} (h1 : p ≠ i) (h2 : p ≠ j) : swp d i j p = d p := by unfold swp; rw [if_neg h1, if_neg h2]

/-- insertion sort's outer state at i -/
structure InsOut (key : Nat → Int) (a b i : Nat) (d0 d : Nat → Nat) : Prop where
  ordd : Ordd key a i d
  shuf : Shuf a i d0 d

theorem InsOut.last {key : Nat → Int} {a b i : Nat} {d0 d : Nat → Nat} (h : InsOut key a b i d0 d) (h0 : ∀ p q, a ≤ p → p < q → q < b → d0 p < d0 q) (hi : i < b) (p : Nat) (h1 : a ≤ p) (h2 : p < i) : d p < d i := by
  obtain ⟨q, hq1, hq2, e⟩ := h.shuf.from_ h1 h2
  rw [e, h.shuf.out (by omega : ¬ (a ≤ i ∧ i < i))]
  exact h0 q i hq1 hq2 hi

end Go.Proofs.Ytmnhjcfhgcineaa
