/-
  Plain lemmas: ranges that are exchanged, rows that are rotated, two ordered pieces that are merged.
-/
import Derived.Test.YtmnhjcfhgcineaaShuf
namespace Go.Proofs.Ytmnhjcfhgcineaa

/-- the n places from a on exchanged with those from b on -/
def swpR (d : Nat → Nat) (a b n : Nat) : Nat → Nat := fun p => if a ≤ p ∧ p < a + n then d (b + (p - a)) else if b ≤ p ∧ p < b + n then d (a + (p - b)) else d p

theorem swpR_zero (d : Nat → Nat) (a b : Nat) : swpR d a b 0 = d := by
  funext p; unfold swpR; rw [if_neg (by omega), if_neg (by omega)]

theorem swpR_succ (d : Nat → Nat) (a b k : Nat) (h : a + k < b) : swp (swpR d a b k) (a + k) (b + k) = swpR d a b (k + 1) := by
  funext p
  unfold swp swpR
  by_cases h1 : p = a + k
  · subst h1
    rw [if_pos rfl, if_neg (by omega), if_neg (by omega), if_pos (by omega)]
    congr 1; omega
  · rw [if_neg h1]
    by_cases h2 : p = b + k
    · subst h2
      rw [if_pos rfl, if_neg (by omega), if_neg (by omega), if_neg (by omega), if_pos (by omega)]
      congr 1; omega
    · rw [if_neg h2]
      by_cases h3 : a ≤ p ∧ p < a + k
      · rw [if_pos h3, if_pos (by omega)]
      · rw [if_neg h3, if_neg (show ¬ (a ≤ p ∧ p < a + (k + 1)) by omega)]
        by_cases h4 : b ≤ p ∧ p < b + k
        · rw [if_pos h4, if_pos (by omega)]
        · rw [if_neg h4, if_neg (by omega)]

/-- the places from a to m behind those from m to b -/
def rotF (d : Nat → Nat) (a m b : Nat) : Nat → Nat := fun p => if a ≤ p ∧ p < a + (b - m) then d (p + (m - a)) else if a + (b - m) ≤ p ∧ p < b then d (p - (b - m)) else d p

theorem rotF_left (d : Nat → Nat) (m b : Nat) : rotF d m m b = d := by
  funext p; unfold rotF
  split
  · rw [Nat.sub_self, Nat.add_zero]
  · split
    · omega
    · rfl
theorem rotF_right (d : Nat → Nat) (a m : Nat) : rotF d a m m = d := by
  funext p; unfold rotF
  split
  · omega
  · split
    · rw [Nat.sub_self, Nat.sub_zero]
    · rfl

theorem rotF_gt (d : Nat → Nat) (m i j : Nat) (hi : i ≤ m) (h : j < i) : rotF (swpR d (m - i) m j) (m - (i - j)) m (m + j) = rotF d (m - i) m (m + j) := by
  funext p
  unfold rotF swpR
  by_cases h1 : m - i ≤ p ∧ p < m - i + j
  · rw [if_neg (by omega), if_neg (by omega), if_pos (by omega), if_pos (by omega)]
    congr 1; omega
  · by_cases h2 : m - (i - j) ≤ p ∧ p < m - (i - j) + (m + j - m)
    · rw [if_pos h2]
      by_cases h5 : p < m - i + (m + j - m)
      · omega
      · rw [if_neg (show ¬ (m - i ≤ p ∧ p < m - i + (m + j - m)) by omega), if_pos (show m - i + (m + j - m) ≤ p ∧ p < m + j by omega)]
        by_cases h6 : m ≤ p + (m - (m - (i - j)))
        · rw [if_neg (by omega), if_pos (by omega)]
          congr 1; omega
        · omega
    · rw [if_neg h2]
      by_cases h3 : m - (i - j) + (m + j - m) ≤ p ∧ p < m + j
      · rw [if_pos h3, if_neg (show ¬ (m - i ≤ p ∧ p < m - i + (m + j - m)) by omega), if_pos (show m - i + (m + j - m) ≤ p ∧ p < m + j by omega)]
        rw [if_neg (by omega), if_neg (by omega)]
      · rw [if_neg h3]
        by_cases h4 : p < m + j ∧ m - i ≤ p
        · omega
        · rw [if_neg (by omega), if_neg (by omega), if_neg (by omega), if_neg (by omega)]

theorem rotF_lt (d : Nat → Nat) (m i j : Nat) (hi : i ≤ m) (h : i < j) : rotF (swpR d (m - i) (m + j - i) i) (m - i) m (m + (j - i)) = rotF d (m - i) m (m + j) := by
  funext p
  unfold rotF swpR
  by_cases h1 : m + j - i ≤ p ∧ p < m + j
  · rw [if_neg (by omega), if_neg (by omega), if_neg (by omega), if_pos (by omega), if_neg (by omega), if_pos (by omega)]
    congr 1; omega
  · by_cases h2 : m - i ≤ p ∧ p < m - i + (m + (j - i) - m)
    · rw [if_pos h2, if_pos (show m - i ≤ p ∧ p < m - i + (m + j - m) by omega)]
      by_cases h6 : m - i ≤ p + (m - (m - i)) ∧ p + (m - (m - i)) < m - i + i
      · omega
      · rw [if_neg h6, if_neg (by omega)]
    · rw [if_neg h2]
      by_cases h3 : m - i + (m + (j - i) - m) ≤ p ∧ p < m + (j - i)
      · rw [if_pos h3]
        by_cases h7 : p < m - i + j
        · rw [if_pos (show m - i ≤ p ∧ p < m - i + (m + j - m) by omega)]
          by_cases h8 : m - i ≤ p - (m + (j - i) - m) ∧ p - (m + (j - i) - m) < m - i + i
          · rw [if_pos h8]
            congr 1; omega
          · omega
        · omega
      · rw [if_neg h3]
        rw [if_neg (by omega), if_neg (by omega), if_neg (by omega), if_neg (by omega)]

theorem rotF_eq (d : Nat → Nat) (m i : Nat) (hi : i ≤ m) : swpR d (m - i) m i = rotF d (m - i) m (m + i) := by
  funext p
  unfold rotF swpR
  by_cases h1 : m - i ≤ p ∧ p < m - i + i
  · rw [if_pos h1, if_pos (by omega)]; congr 1; omega
  · rw [if_neg h1]
    by_cases h2 : m ≤ p ∧ p < m + i
    · rw [if_pos h2, if_neg (by omega), if_pos (by omega)]; congr 1; omega
    · rw [if_neg h2, if_neg (by omega), if_neg (by omega)]

theorem rotF_shuf (d : Nat → Nat) (a m b : Nat) (h1 : a ≤ m) (h2 : m ≤ b) : Shuf a b d (rotF d a m b) := by
  refine ⟨fun p => if a ≤ p ∧ p < a + (b - m) then p + (m - a) else if a + (b - m) ≤ p ∧ p < b then p - (b - m) else p,
    fun p => if a ≤ p ∧ p < m then p + (b - m) else if m ≤ p ∧ p < b then p - (m - a) else p, fun p => ?_, fun p => ?_, fun p => ?_, fun p hp => ?_, fun p hp1 hp2 => ?_⟩
  · unfold rotF; dsimp only; split
    · rfl
    · split <;> rfl
  · dsimp only; repeat' split
    all_goals omega
  · dsimp only; repeat' split
    all_goals omega
  · dsimp only; repeat' split
    all_goals omega
  · dsimp only; repeat' split
    all_goals omega

/-- two ordered pieces, the numbers of the first below those of the second -/
structure Mrg (key : Nat → Int) (a m b : Nat) (d : Nat → Nat) : Prop where
  one : Ordd key a m d
  two : Ordd key m b d
  low : ∀ p q, a ≤ p → p < m → m ≤ q → q < b → d p < d q

/-- all of one piece come ahead of all of another -/
def Crs (key : Nat → Int) (a m b : Nat) (d : Nat → Nat) : Prop := ∀ p q, a ≤ p → p < m → m ≤ q → q < b → bef key (d p) (d q)

theorem Crs.ordd {key : Nat → Int} {a m b : Nat} {d : Nat → Nat} (h : Crs key a m b d) (h1 : Ordd key a m d) (h2 : Ordd key m b d) : Ordd key a b d := fun p q hp hpq hq => by
  by_cases c1 : q < m
  · exact h1 p q hp hpq c1
  · by_cases c2 : m ≤ p
    · exact h2 p q c2 hpq hq
    · exact h p q hp (by omega) (by omega) hq

theorem Crs.left {key : Nat → Int} {a m b : Nat} {d e : Nat → Nat} (h : Crs key a m b d) (s : Shuf a m d e) : Crs key a m b e := fun p q hp hpm hq hqb => by
  obtain ⟨p', h1, h2, e1⟩ := s.from_ hp hpm
  rw [e1, s.out (by omega : ¬ (a ≤ q ∧ q < m))]
  exact h p' q h1 h2 hq hqb
theorem Crs.right {key : Nat → Int} {a m b : Nat} {d e : Nat → Nat} (h : Crs key a m b d) (s : Shuf m b d e) : Crs key a m b e := fun p q hp hpm hq hqb => by
  obtain ⟨q', h1, h2, e1⟩ := s.from_ hq hqb
  rw [e1, s.out (by omega : ¬ (m ≤ p ∧ p < b))]
  exact h p q' hp hpm h1 h2

theorem Ordd.shuf_out {key : Nat → Int} {a m b c : Nat} {d e : Nat → Nat} (h : Ordd key a m d) (s : Shuf b c d e) (hd : m ≤ b ∨ c ≤ a) : Ordd key a m e := fun p q h1 h2 h3 => by
  rw [s.out (by omega : ¬ (b ≤ p ∧ p < c)), s.out (by omega : ¬ (b ≤ q ∧ q < c))]
  exact h p q h1 h2 h3
theorem Mrg.shuf_out {key : Nat → Int} {a m b c f : Nat} {d e : Nat → Nat} (h : Mrg key a m b d) (s : Shuf c f d e) (hd : b ≤ c ∨ f ≤ a) (h1 : a ≤ m) (h2 : m ≤ b) : Mrg key a m b e := by
  refine ⟨fun p q k1 k2 k3 => ?_, fun p q k1 k2 k3 => ?_, fun p q k1 k2 k3 k4 => ?_⟩
  · rw [s.out (by omega : ¬ (c ≤ p ∧ p < f)), s.out (by omega : ¬ (c ≤ q ∧ q < f))]; exact h.one p q k1 k2 k3
  · rw [s.out (by omega : ¬ (c ≤ p ∧ p < f)), s.out (by omega : ¬ (c ≤ q ∧ q < f))]; exact h.two p q k1 k2 k3
  · rw [s.out (by omega : ¬ (c ≤ p ∧ p < f)), s.out (by omega : ¬ (c ≤ q ∧ q < f))]; exact h.low p q k1 k2 k3 k4

/-- a comparison of one of the second with one of the first is the order's -/
theorem bef_iff {key : Nat → Int} {x y : Nat} (h : y < x) : bef key x y ↔ key y < key x := by unfold bef; omega
theorem bef_not {key : Nat → Int} {x y : Nat} (h : y < x) (k : ¬ key y < key x) : bef key y x := by unfold bef; omega

/-! ### one element to a piece -/
theorem rotF_one_step (d : Nat → Nat) (a k : Nat) (h : a ≤ k) : swp (rotF d a (a + 1) (k + 1)) k (k + 1) = rotF d a (a + 1) (k + 2) := by
  funext p
  unfold swp rotF
  by_cases h1 : p = k
  · subst h1
    rw [if_pos rfl, if_neg (by omega), if_neg (by omega), if_pos (by omega)]
    congr 1; omega
  · rw [if_neg h1]
    by_cases h2 : p = k + 1
    · subst h2
      rw [if_pos rfl, if_neg (by omega), if_pos (by omega), if_neg (by omega), if_pos (by omega)]
      congr 1; omega
    · rw [if_neg h2]
      by_cases h3 : a ≤ p ∧ p < a + (k + 1 - (a + 1))
      · rw [if_pos h3, if_pos (by omega)]
      · rw [if_neg h3, if_neg (by omega), if_neg (by omega), if_neg (by omega)]

theorem rotF_last_step (d : Nat → Nat) (m k : Nat) (h : k < m) : swp (rotF d (k + 1) m (m + 1)) (k + 1) k = rotF d k m (m + 1) := by
  funext p
  unfold swp rotF
  by_cases h1 : p = k + 1
  · subst h1
    rw [if_pos rfl, if_neg (by omega), if_neg (by omega), if_neg (by omega), if_pos (by omega)]
    congr 1; omega
  · rw [if_neg h1]
    by_cases h2 : p = k
    · subst h2
      rw [if_pos rfl, if_pos (by omega), if_pos (by omega)]
      congr 1; omega
    · rw [if_neg h2, if_neg (show ¬ (k + 1 ≤ p ∧ p < k + 1 + (m + 1 - m)) by omega), if_neg (show ¬ (k ≤ p ∧ p < k + (m + 1 - m)) by omega)]
      by_cases h3 : k + 1 + (m + 1 - m) ≤ p ∧ p < m + 1
      · rw [if_pos h3, if_pos (by omega)]
      · rw [if_neg h3, if_neg (by omega)]

theorem one_ordd {key : Nat → Int} {a i b : Nat} {d : Nat → Nat} (h : Mrg key a (a + 1) b d) (h1 : a + 1 ≤ i) (h2 : i ≤ b)
    (lo : ∀ p, a + 1 ≤ p → p < i → bef key (d p) (d a)) (hi : ∀ p, i ≤ p → p < b → bef key (d a) (d p)) : Ordd key a b (rotF d a (a + 1) i) := by
  intro p q hp hpq hq
  have e : ∀ r, a ≤ r → r < b → rotF d a (a + 1) i r = if r < i - 1 then d (r + 1) else if r = i - 1 then d a else d r := fun r r1 r2 => by
    unfold rotF
    by_cases c1 : r < i - 1
    · rw [if_pos (by omega), if_pos c1]; congr 1; omega
    · rw [if_neg (by omega), if_neg c1]
      by_cases c2 : r = i - 1
      · rw [if_pos (by omega), if_pos c2]; congr 1; omega
      · rw [if_neg (by omega), if_neg c2]
  rw [e p hp (by omega), e q (by omega) hq]
  by_cases c1 : q < i - 1
  · rw [if_pos (by omega), if_pos c1]; exact h.two _ _ (by omega) (by omega) (by omega)
  · rw [if_neg c1]
    by_cases c2 : q = i - 1
    · rw [if_pos c2, if_pos (by omega)]; exact lo _ (by omega) (by omega)
    · rw [if_neg c2]
      by_cases c3 : p < i - 1
      · rw [if_pos c3]; exact h.two _ _ (by omega) (by omega) hq
      · rw [if_neg c3]
        by_cases c4 : p = i - 1
        · rw [if_pos c4]; exact hi q (by omega) hq
        · rw [if_neg c4]; exact h.two _ _ (by omega) hpq hq

theorem last_ordd {key : Nat → Int} {a i m : Nat} {d : Nat → Nat} (h : Mrg key a m (m + 1) d) (h1 : a ≤ i) (h2 : i ≤ m)
    (lo : ∀ p, a ≤ p → p < i → bef key (d p) (d m)) (hi : ∀ p, i ≤ p → p < m → bef key (d m) (d p)) : Ordd key a (m + 1) (rotF d i m (m + 1)) := by
  intro p q hp hpq hq
  have e : ∀ r, a ≤ r → r < m + 1 → rotF d i m (m + 1) r = if r < i then d r else if r = i then d m else d (r - 1) := fun r r1 r2 => by
    unfold rotF
    by_cases c1 : r < i
    · rw [if_neg (by omega), if_neg (by omega), if_pos c1]
    · rw [if_neg c1]
      by_cases c2 : r = i
      · rw [if_pos (by omega), if_pos c2]; congr 1; omega
      · rw [if_neg (by omega), if_pos (by omega), if_neg c2]; congr 1; omega
  rw [e p hp (by omega), e q (by omega) hq]
  by_cases c1 : q < i
  · rw [if_pos (by omega), if_pos c1]; exact h.one _ _ hp hpq (by omega)
  · rw [if_neg c1]
    by_cases c2 : q = i
    · rw [if_pos c2, if_pos (by omega)]; exact lo _ hp (by omega)
    · rw [if_neg c2]
      by_cases c3 : p < i
      · rw [if_pos c3]; exact h.one _ _ hp (by omega) (by omega)
      · rw [if_neg c3]
        by_cases c4 : p = i
        · rw [if_pos c4]; exact hi _ (by omega) (by omega)
        · rw [if_neg c4]; exact h.one _ _ (by omega) (by omega) (by omega)

/-! ### the cut of both pieces -/
theorem Ordd.le {key : Nat → Int} {a b p q : Nat} {d : Nat → Nat} (h : Ordd key a b d) (h1 : a ≤ p) (h2 : p ≤ q) (h3 : q < b) : bef key (d p) (d q) ∨ d p = d q := by
  by_cases e : p = q
  · subst e; exact .inr rfl
  · exact .inl (h p q h1 (by omega) h3)

theorem bef.le_trans {key : Nat → Int} {x y z : Nat} (h : bef key x y ∨ x = y) (k : bef key y z) : bef key x z := by
  rcases h with h | h
  · exact h.trans k
  · rw [h]; exact k
theorem bef.trans_le {key : Nat → Int} {x y z : Nat} (h : bef key x y) (k : bef key y z ∨ y = z) : bef key x z := by
  rcases k with k | k
  · exact h.trans k
  · rw [← k]; exact h

/-- what the search of the cut knows: those ahead of s are ahead of their opposites, those from r on behind -/
structure Cut (key : Nat → Int) (lo hi n s r : Nat) (d : Nat → Nat) : Prop where
  below : ∀ c, lo ≤ c → c < s → bef key (d c) (d (n - 1 - c))
  above : ∀ c, r ≤ c → c < hi → bef key (d (n - 1 - c)) (d c)

/-- the bounds of the search -/
structure Bnd (a m b mid n lo hi : Nat) : Prop where
  am : a < m
  mb : m < b
  emid : mid = (a + b) / 2
  en : n = mid + m
  lohi : (mid < m ∧ lo = n - b ∧ hi = mid ∧ b ≤ n) ∨ (m ≤ mid ∧ lo = a ∧ hi = m)

theorem Bnd.in_ {a m b mid n lo hi : Nat} (B : Bnd a m b mid n lo hi) {c : Nat} (h1 : lo ≤ c) (h2 : c < hi) : a ≤ c ∧ c < m ∧ m ≤ n - 1 - c ∧ n - 1 - c < b ∧ c < n := by
  have := B.emid; have := B.en; have := B.am; have := B.mb
  rcases B.lohi with ⟨k1, k2, k3, k4⟩ | ⟨k1, k2, k3⟩ <;> omega

theorem Bnd.lo_hi {a m b mid n lo hi : Nat} (B : Bnd a m b mid n lo hi) : lo ≤ hi ∧ a ≤ lo ∧ hi ≤ m ∧ hi ≤ mid ∧ n < 2 * b := by
  have := B.emid; have := B.en; have := B.am; have := B.mb
  rcases B.lohi with ⟨k1, k2, k3, k4⟩ | ⟨k1, k2, k3⟩ <;> omega

theorem Cut.start {key : Nat → Int} {lo hi n : Nat} {d : Nat → Nat} : Cut key lo hi n lo hi d := ⟨fun c h1 h2 => by omega, fun c h1 h2 => by omega⟩

theorem Cut.up {key : Nat → Int} {a m b mid n lo hi s r c : Nat} {d : Nat → Nat} (M : Mrg key a m b d) (B : Bnd a m b mid n lo hi) (h : Cut key lo hi n s r d) (h1 : lo ≤ c) (h2 : c < hi)
    (hb : bef key (d c) (d (n - 1 - c))) : Cut key lo hi n (c + 1) r d := by
  refine ⟨fun c' k1 k2 => ?_, h.above⟩
  have i1 := B.in_ h1 h2
  have i2 := B.in_ k1 (show c' < hi by omega)
  exact bef.le_trans (M.one.le i2.1 (by omega) i1.2.1) (hb.trans_le (M.two.le (by omega) (by omega) i2.2.2.2.1))
theorem Cut.down {key : Nat → Int} {a m b mid n lo hi s r c : Nat} {d : Nat → Nat} (M : Mrg key a m b d) (B : Bnd a m b mid n lo hi) (h : Cut key lo hi n s r d) (h1 : lo ≤ c) (h2 : c < hi)
    (hb : bef key (d (n - 1 - c)) (d c)) : Cut key lo hi n s c d := by
  refine ⟨h.below, fun c' k1 k2 => ?_⟩
  have i1 := B.in_ h1 h2
  have i2 := B.in_ (show lo ≤ c' by omega) k2
  exact bef.le_trans (M.two.le (by omega) (by omega) i1.2.2.2.1) (hb.trans_le (M.one.le i1.1 k1 i2.2.1))

/-- what the cut gives: behind the rotation both halves are two pieces each, and the first half is ahead of the second -/
structure Halves (key : Nat → Int) (a s mid e b : Nat) (d : Nat → Nat) : Prop where
  one : Mrg key a s mid d
  two : Mrg key mid e b d
  crs : Crs key a mid b d

theorem Cut.halves {key : Nat → Int} {a m b mid n lo hi s : Nat} {d : Nat → Nat} (M : Mrg key a m b d) (B : Bnd a m b mid n lo hi) (h : Cut key lo hi n s s d) (h1 : lo ≤ s) (h2 : s ≤ hi) :
    Halves key a s mid (n - s) b (rotF d s m (n - s)) ∧ a ≤ s ∧ s ≤ m ∧ m ≤ n - s ∧ n - s ≤ b ∧ s ≤ mid ∧ mid ≤ n - s ∧ s ≤ n := by
  have hm := B.emid; have hn := B.en; have ham := B.am; have hmb := B.mb
  have hl := B.lo_hi
  have g1 : a ≤ s ∧ s ≤ m ∧ m ≤ n - s ∧ n - s ≤ b ∧ s ≤ mid ∧ mid ≤ n - s ∧ s ≤ n := by
    rcases B.lohi with ⟨k1, k2, k3, k4⟩ | ⟨k1, k2, k3⟩ <;> omega
  obtain ⟨g1, g2, g3, g4, g5, g6, g7⟩ := g1
  -- one of the second's low ones is ahead of the first's high ones
  have X1 : ∀ p q, m ≤ p → p < n - s → s ≤ q → q < m → bef key (d p) (d q) := fun p q p1 p2 q1 q2 => by
    have hs : s < hi := by
      rcases B.lohi with ⟨k1, k2, k3, k4⟩ | ⟨k1, k2, k3⟩ <;> omega
    have hb := h.above s (Nat.le_refl _) hs
    exact bef.le_trans (M.two.le p1 (by omega) (by omega)) (hb.trans_le (M.one.le g1 q1 q2))
  have X2 : ∀ p q, a ≤ p → p < s → n - s ≤ q → q < b → bef key (d p) (d q) := fun p q p1 p2 q1 q2 => by
    have hs : lo < s := by
      rcases B.lohi with ⟨k1, k2, k3, k4⟩ | ⟨k1, k2, k3⟩ <;> omega
    have hb := h.below (s - 1) (by omega) (by omega)
    exact bef.le_trans (M.one.le p1 (by omega) (by omega)) (hb.trans_le (M.two.le (by omega) (by omega) q2))
  -- what lies where
  have e : ∀ r, a ≤ r → r < b → rotF d s m (n - s) r = if r < s then d r else if r < mid then d (r + (m - s)) else if r < n - s then d (r - (n - s - m)) else d r := fun r r1 r2 => by
    unfold rotF
    by_cases c1 : r < s
    · rw [if_neg (by omega), if_neg (by omega), if_pos c1]
    · rw [if_neg c1]
      by_cases c2 : r < mid
      · rw [if_pos (by omega), if_pos c2]
      · rw [if_neg (by omega), if_neg c2]
        by_cases c3 : r < n - s
        · rw [if_pos (by omega), if_pos c3]
        · rw [if_neg (by omega), if_neg c3]
  have eA : ∀ r, a ≤ r → r < s → rotF d s m (n - s) r = d r := fun r r1 r2 => by rw [e r r1 (by omega), if_pos r2]
  have eB : ∀ r, s ≤ r → r < mid → rotF d s m (n - s) r = d (r + (m - s)) := fun r r1 r2 => by rw [e r (by omega) (by omega), if_neg (by omega), if_pos r2]
  have eC : ∀ r, mid ≤ r → r < n - s → rotF d s m (n - s) r = d (r - (n - s - m)) := fun r r1 r2 => by rw [e r (by omega) (by omega), if_neg (by omega), if_neg (by omega), if_pos r2]
  have eD : ∀ r, n - s ≤ r → r < b → rotF d s m (n - s) r = d r := fun r r1 r2 => by rw [e r (by omega) r2, if_neg (by omega), if_neg (by omega), if_neg (by omega)]
  refine ⟨⟨⟨?_, ?_, ?_⟩, ⟨?_, ?_, ?_⟩, ?_⟩, g1, g2, g3, g4, g5, g6, g7⟩
  · intro p q p1 p2 p3
    rw [eA p p1 (by omega), eA q (by omega) p3]
    exact M.one p q p1 p2 (by omega)
  · intro p q p1 p2 p3
    rw [eB p p1 (by omega), eB q (by omega) p3]
    exact M.two _ _ (by omega) (by omega) (by omega)
  · intro p q p1 p2 q1 q2
    rw [eA p p1 p2, eB q q1 q2]
    exact M.low _ _ p1 (by omega) (by omega) (by omega)
  · intro p q p1 p2 p3
    rw [eC p p1 (by omega), eC q (by omega) p3]
    exact M.one _ _ (by omega) (by omega) (by omega)
  · intro p q p1 p2 p3
    rw [eD p p1 (by omega), eD q (by omega) p3]
    exact M.two p q (by omega) p2 p3
  · intro p q p1 p2 q1 q2
    rw [eC p p1 p2, eD q q1 q2]
    exact M.low _ _ (by omega) (by omega) (by omega) q2
  · intro p q p1 p2 q1 q2
    by_cases c1 : p < s
    · rw [eA p p1 c1]
      by_cases c2 : q < n - s
      · rw [eC q q1 c2]; exact M.one _ _ p1 (by omega) (by omega)
      · rw [eD q (by omega) q2]; exact X2 p q p1 c1 (by omega) q2
    · rw [eB p (by omega) p2]
      by_cases c2 : q < n - s
      · rw [eC q q1 c2]; exact X1 _ _ (by omega) (by omega) (by omega) (by omega)
      · rw [eD q (by omega) q2]; exact M.two _ _ (by omega) (by omega) q2
end Go.Proofs.Ytmnhjcfhgcineaa
