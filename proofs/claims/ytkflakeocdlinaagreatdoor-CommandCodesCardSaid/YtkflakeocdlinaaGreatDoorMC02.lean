/-
  Laws on append in one word: one element onto an own row; a whole row behind a new one.
-/
import Derived.WalkKit
import Derived.WalkLawsBesides
import Derived.Below
import Derived.Maps.AppendAt
import Derived.Laws.AppendOwnNone
import Derived.Deep.AppendLies
import Derived.Deep.Draws
namespace Go.Proofs.YtkflakeocdlinaaGreatDoor
open Go.RowKit

theorem own_below {base : Nat} {e : TypeId} {v : Value} {n : Nat} {xs : List Value} {W w' : World} {o : Obj} (hown : W.ownsRow base e 1 v n xs) (hb : base ≤ W.heap.size) (hg : (W.alloc o).grownBy w' v.ownBlock) : Below base W w' :=
  ((Below.refl base W).alloc hb o).grown hg (by simp; omega) (fun k hk => (hown.lt k hk).1)

section
variable {P : Program} {ops : Array Oper} {rest : List Oper} {o : Oper} {a : Act} {Q : Exit → Act → World → Prop}

theorem wpList_append_one (hgd : o.guard = none) (s x : Operand) (t : TypeId)
    (ho : o.op = .call { callee := .builtin .append, args := #[s, x], argTypes := #[t, t] })
    (base : Nat) (e : TypeId) (z : Value) (bytes : Nat) (ht : P.underlying t = some (.slice e)) (hinfo : (P.info? e).map (fun i => (i.zero, i.size, i.bytes)) = some (some z, 1, bytes)) (hz1 : z.cells.size = 1)
    (W : World) (u : Value) (hu : u.oneCell' = true) (v : Value) (n : Nat) (xs : List Value) (hs : a.eval s = v) (hx : a.eval x = .slice (some ⟨W.heap.size, 0, none⟩) 1 1)
    (hown : W.ownsRow base e 1 v n xs) (hb : base ≤ W.heap.size) (h63 : n + 1 ≤ maxLen) (hbytes : (n + 1) * bytes ≤ 140737488355328)
    (h : ∀ v' w', w'.ownsRow base e 1 v' (n + 1) (xs ++ [u]) → Below base W w' → wpList P ops Q rest (a.put o.dst v') w') : wpList P ops Q (o :: rest) a (W.alloc (.cells #[u] e)) := by
  obtain ⟨i, hi, hzz⟩ := Option.map_eq_some_iff.1 hinfo
  simp only [Prod.mk.injEq] at hzz
  obtain ⟨hz, hs1, hb1⟩ := hzz
  refine wpList_append_own _ hgd s x t ho base e i z 1 bytes ht hi hz hs1 hb1 hz1 (by decide) v n xs hs (hown.alloc _) ⟨W.heap.size, 0, none⟩ 1 1 [u] hx rfl (cell_one_new _ _ _) (fun u' hu' => ?_) h63 hbytes (by simp; omega) ?_
  · rw [List.mem_singleton] at hu'; rw [hu']; exact hu
  · intro v' w' h1 h2 _
    exact h v' w' h1 (own_below hown hb h2)

/-- a row that can be read: its cells, from a place on -/
def Cells (w : World) (A : Option Addr) (xs : List Value) : Prop := 0 < xs.length → ∃ b off, A = some ⟨b, off, none⟩ ∧ ∀ i u, xs[i]? = some u → w.cell? ⟨b, off + i, none⟩ = some u

theorem Cells.keep {w w' : World} {A : Option Addr} {xs : List Value} (h : Cells w A xs) (hb : Below w.heap.size w w') : Cells w' A xs := fun hp => by
  obtain ⟨b, off, e, hc⟩ := h hp
  refine ⟨b, off, e, fun i u hu => ?_⟩
  have h1 := hc i u hu
  rw [hb.cell (p := ⟨b, off + i, none⟩) (World.block_lt_of_cell? w _ h1)]
  exact h1

theorem Cells.of_own {w : World} {base : Nat} {e : TypeId} {A : Option Addr} {n c : Nat} {xs : List Value} (h : w.ownsRow base e 1 (.slice A n c) n xs) : Cells w A xs := fun hp => by
  have hl := h.1
  obtain ⟨g, cap, hv, _, hlt⟩ := h.form (by omega)
  have hA : A = some ⟨g, 0, none⟩ := by injection hv
  subst hA
  refine ⟨g, 0, rfl, fun i u hu => ?_⟩
  have := h.cells (g := g) rfl i u hu
  rw [← this]
  unfold Addr.add
  by_cases e0 : i = 0
  · subst e0; rfl
  · simp [e0]

/-- append(T{u}, xs...): the new row is u, then xs. -/
theorem wpList_append_behind (hgd : o.guard = none) (s x : Operand) (t : TypeId)
    (ho : o.op = .call { callee := .builtin .append, args := #[s, x], argTypes := #[t, t] })
    (base : Nat) (e : TypeId) (z : Value) (bytes : Nat) (ht : P.underlying t = some (.slice e)) (hinfo : (P.info? e).map (fun i => (i.zero, i.size, i.bytes)) = some (some z, 1, bytes)) (hz1 : z.cells.size = 1)
    (W : World) (u : Value) (A : Option Addr) (c n : Nat) (xs : List Value) (hxn : xs.length = n) (hs : a.eval s = .slice (some ⟨W.heap.size, 0, none⟩) 1 1) (hx : a.eval x = .slice A n c) (hA : A = none → n = 0 ∧ c = 0)
    (hr : Cells W A xs) (h1 : ∀ u ∈ xs, u.oneCell' = true) (hb : base ≤ W.heap.size) (h63 : 1 + n ≤ maxLen) (hbytes : (1 + n) * bytes ≤ 140737488355328)
    (h : ∀ v' w', w'.ownsRow base e 1 v' (1 + n) (u :: xs) → Below base W w' → wpList P ops Q rest (a.put o.dst v') w') : wpList P ops Q (o :: rest) a (W.alloc (.cells #[u] e)) := by
  subst hxn
  obtain ⟨i, hi, hzz⟩ := Option.map_eq_some_iff.1 hinfo
  simp only [Prod.mk.injEq] at hzz
  obtain ⟨hz, hs1, hb1⟩ := hzz
  have hown : (W.alloc (.cells #[u] e)).ownsRow base e 1 (.slice (some ⟨W.heap.size, 0, none⟩) 1 1) 1 [u] := World.ownsRow_lit W #[u] 1 hb (by unfold maxLen; omega) rfl
  have hbel : ∀ w', (W.alloc (.cells #[u] e)).grownBy w' (some W.heap.size) → Below base W w' := fun w' hg => ((Below.refl base W).alloc hb _).grown hg (by simp; omega) (fun k hk => by injection hk with hk; omega)
  cases hAA : A with
  | none =>
    obtain ⟨h0, hc0⟩ := hA hAA
    have hxs : xs = [] := List.eq_nil_of_length_eq_zero h0
    subst hxs
    subst hAA
    subst hc0
    refine wpList_append_own_none hgd s x t ho base e i 1 ht hi _ 1 [u] hs hown hx ?_
    exact h _ _ hown ((Below.refl base W).alloc hb _)
  | some ad =>
    subst hAA
    have hcells : ∀ j u', xs[j]? = some u' → (W.alloc (.cells #[u] e)).cell? (ad.add j) = some u' := by
      intro j u' hu'
      have hlt : j < xs.length := (List.getElem?_eq_some_iff.1 hu').1
      obtain ⟨b, off, he, hc⟩ := hr (by omega)
      injection he with he
      subst he
      have h2 := hc j u' hu'
      have e2 : (⟨b, off, none⟩ : Addr).add j = ⟨b, off + j, none⟩ := by
        unfold Addr.add
        by_cases e0 : j = 0
        · subst e0; rfl
        · simp [e0]
      rw [e2, World.cell?_alloc_lt _ _ _ (World.block_lt_of_cell? W _ h2)]
      exact h2
    refine wpList_append_own _ hgd s x t ho base e i z 1 bytes ht hi hz hs1 hb1 hz1 (by decide) _ 1 [u] hs hown ad xs.length c xs hx (by simp) hcells h1 h63 hbytes (by simp; omega) ?_
    intro v' w' h2 h3 _
    exact h v' w' h2 (hbel w' h3)
end
end Go.Proofs.YtkflakeocdlinaaGreatDoor
/-
  Plain lemmas: numbers as lists of bits, the lowest first.
-/
namespace Go.Proofs.YtkflakeocdlinaaGreatDoor

def val : List Bool → Nat
  | [] => 0
  | b :: r => b.toNat + 2 * val r

theorem val_snoc (bs : List Bool) (b : Bool) : val (bs ++ [b]) = val bs + 2 ^ bs.length * b.toNat := by
  induction bs with
  | nil => simp [val]
  | cons c r ih => rw [List.cons_append, val, ih, val, List.length_cons, Nat.pow_succ, Nat.mul_add, Nat.mul_comm (2 ^ r.length) 2, Nat.mul_assoc]; omega

theorem val_lt (bs : List Bool) : val bs < 2 ^ bs.length := by
  induction bs with
  | nil => simp [val]
  | cons c r ih => rw [val, List.length_cons, Nat.pow_succ]; have : c.toNat ≤ 1 := Bool.toNat_le c; omega

/-- the lowest k bits -/
theorem val_take_succ (bs : List Bool) (k : Nat) (h : k < bs.length) : val (bs.take (k + 1)) = val (bs.take k) + 2 ^ k * (bs.getD k false).toNat := by
  rw [List.take_succ_eq_append_getElem h, val_snoc, List.length_take, Nat.min_eq_left (by omega)]
  simp [h]

theorem val_take_past (bs : List Bool) (k : Nat) (h : bs.length ≤ k) : val (bs.take k) = val bs := by rw [List.take_of_length_le h]

theorem getD_past {bs : List Bool} {k : Nat} (h : bs.length ≤ k) : bs.getD k false = false := by simp [List.getD_eq_getElem?_getD, List.getElem?_eq_none h]

theorem val_take_step (bs : List Bool) (k : Nat) : val (bs.take (k + 1)) = val (bs.take k) + 2 ^ k * (bs.getD k false).toNat := by
  by_cases h : k < bs.length
  · exact val_take_succ bs k h
  · rw [val_take_past bs (k + 1) (by omega), val_take_past bs k (by omega), getD_past (by omega)]; simp

/-- the bits from k on -/
theorem val_drop_step (bs : List Bool) (k : Nat) (h : k < bs.length) : val (bs.drop k) = (bs.getD k false).toNat + 2 * val (bs.drop (k + 1)) := by
  rw [List.drop_eq_getElem_cons h, val]
  simp [h]

theorem val_split (bs : List Bool) (k : Nat) : val bs = val (bs.take k) + 2 ^ k * val (bs.drop k) := by
  induction k generalizing bs with
  | zero => simp [val]
  | succ k ih =>
    cases bs with
    | nil => simp [val]
    | cons c r => rw [List.take_succ_cons, List.drop_succ_cons, val, val, ih r, Nat.pow_succ, Nat.mul_comm (2 ^ k) 2, Nat.mul_assoc]; omega

/-- no bit at the end is idle -/
def Canon (bs : List Bool) : Prop := bs = [] ∨ bs.getD (bs.length - 1) false = true

theorem canon_ge {bs : List Bool} (h : Canon bs) (hp : 0 < bs.length) : 2 ^ (bs.length - 1) ≤ val bs := by
  rcases h with h | h
  · subst h; simp at hp
  · have h1 := val_take_step bs (bs.length - 1)
    rw [h, val_take_past bs (bs.length - 1 + 1) (by omega)] at h1
    simp at h1
    omega

theorem canon_zero {bs : List Bool} (h : Canon bs) : bs.length = 0 ↔ val bs = 0 := by
  constructor
  · intro h0; rw [List.eq_nil_of_length_eq_zero h0]; rfl
  · intro h0
    rcases Nat.eq_zero_or_pos bs.length with h1 | h1
    · exact h1
    · have := canon_ge h h1
      have : 0 < 2 ^ (bs.length - 1) := Nat.pow_pos (by omega)
      omega

theorem canon_len {bs : List Bool} (h : Canon bs) {k : Nat} (hv : val bs < 2 ^ k) : bs.length ≤ k := by
  rcases Nat.eq_zero_or_pos bs.length with h1 | h1
  · omega
  · have h2 := canon_ge h h1
    have h3 : 2 ^ (bs.length - 1) < 2 ^ k := by omega
    have := (Nat.pow_lt_pow_iff_right (by omega : 1 < 2)).1 h3
    omega

theorem canon_odd (bs : List Bool) : bs.getD 0 false = decide (val bs % 2 = 1) := by
  cases bs with
  | nil => rfl
  | cons c r => cases c <;> simp [val] <;> omega

theorem val_congr : ∀ (xs bs : List Bool), (∀ j, xs.getD j false = bs.getD j false) → val xs = val bs
  | [], [], _ => rfl
  | [], b :: r, h => by
    have h0 := h 0
    have ih := val_congr [] r (fun j => by have := h (j + 1); simpa using this)
    simp at h0
    rw [h0]
    show val [] = false.toNat + 2 * val r
    rw [← ih]; rfl
  | a :: r, [], h => by
    have h0 := h 0
    have ih := val_congr r [] (fun j => by have := h (j + 1); simpa using this)
    simp at h0
    rw [h0]
    show false.toNat + 2 * val r = val []
    rw [ih]; rfl
  | a :: r, b :: q, h => by
    have h0 := h 0
    have ih := val_congr r q (fun j => by have := h (j + 1); simpa using this)
    simp at h0
    rw [val, val, ih, h0]

theorem getD_drop (xs : List Bool) (k j : Nat) : (xs.drop k).getD j false = xs.getD (k + j) false := by
  simp [List.getD_eq_getElem?_getD, List.getElem?_drop]

theorem drop_congr {xs bs : List Bool} {k : Nat} (h : ∀ j, k ≤ j → xs.getD j false = bs.getD j false) : val (xs.drop k) = val (bs.drop k) :=
  val_congr _ _ fun j => by rw [getD_drop, getD_drop]; exact h _ (by omega)

theorem take_lt (xs : List Bool) (k : Nat) : val (xs.take k) < 2 ^ k := by
  have h1 := val_lt (xs.take k)
  have h2 : 2 ^ (xs.take k).length ≤ 2 ^ k := Nat.pow_le_pow_right (by omega) (by rw [List.length_take]; omega)
  omega

/-- where they differ first, from above, decides -/
theorem less_at {xs bs : List Bool} {k : Nat} (h : ∀ j, k < j → xs.getD j false = bs.getD j false) (hne : xs.getD k false ≠ bs.getD k false) : decide (val xs < val bs) = bs.getD k false := by
  have h1 := val_split xs (k + 1)
  have h2 := val_split bs (k + 1)
  rw [drop_congr (k := k + 1) (fun j hj => h j (by omega))] at h1
  rw [val_take_step] at h1 h2
  have l1 := take_lt xs k
  have l2 := take_lt bs k
  generalize 2 ^ (k + 1) * val (bs.drop (k + 1)) = H at *
  generalize val (xs.take k) = x at *
  generalize val (bs.take k) = y at *
  generalize 2 ^ k = K at *
  cases ha : xs.getD k false <;> cases hb : bs.getD k false
  · rw [ha, hb] at hne; exact absurd rfl hne
  · rw [ha] at h1; rw [hb] at h2; simp at h1 h2; simp; omega
  · rw [ha] at h1; rw [hb] at h2; simp at h1 h2; simp; omega
  · rw [ha, hb] at hne; exact absurd rfl hne

theorem less_none {xs bs : List Bool} (h : ∀ j, 0 ≤ j → xs.getD j false = bs.getD j false) : decide (val xs < val bs) = false := by
  rw [val_congr xs bs (fun j => h j (by omega))]; simp

/-- a full adder -/
theorem add_step (x y c : Bool) : x.toNat + y.toNat + c.toNat = (Bool.xor (Bool.xor x y) c).toNat + 2 * (x && y || x && c || y && c).toNat := by
  cases x <;> cases y <;> cases c <;> rfl

/-- a full subtracter -/
theorem sub_step (x y c : Bool) : x.toNat + 2 * (!x && (y || c) || y && c).toNat = (Bool.xor (Bool.xor x y) c).toNat + y.toNat + c.toNat := by
  cases x <;> cases y <;> cases c <;> rfl
end Go.Proofs.YtkflakeocdlinaaGreatDoor
/-
  Plain lemmas: rows of places that are exchanged, and put in an order.
-/
namespace Go.Proofs.YtkflakeocdlinaaGreatDoor

/-- d' holds what d holds, the places from a to b exchanged among themselves. -/
def Shuf (a b : Nat) (d d' : Nat → Nat) : Prop :=
  ∃ s t : Nat → Nat, (∀ p, d' p = d (s p)) ∧ (∀ p, s (t p) = p) ∧ (∀ p, t (s p) = p) ∧ (∀ p, ¬(a ≤ p ∧ p < b) → s p = p) ∧ (∀ p, a ≤ p → p < b → a ≤ s p ∧ s p < b)

theorem Shuf.refl (a b : Nat) (d : Nat → Nat) : Shuf a b d d := ⟨id, id, fun _ => rfl, fun _ => rfl, fun _ => rfl, fun _ _ => rfl, fun _ h1 h2 => ⟨h1, h2⟩⟩

theorem Shuf.trans {a b : Nat} {d e f : Nat → Nat} (h : Shuf a b d e) (k : Shuf a b e f) : Shuf a b d f := by
  obtain ⟨s, t, h1, h2, h3, h4, h5⟩ := h
  obtain ⟨s', t', k1, k2, k3, k4, k5⟩ := k
  refine ⟨fun p => s (s' p), fun p => t' (t p), fun p => by rw [k1, h1], fun p => ?_, fun p => ?_, fun p hp => ?_, fun p hp1 hp2 => ?_⟩
  · show s (s' (t' (t p))) = p
    rw [k2, h2]
  · show t' (t (s (s' p))) = p
    rw [h3, k3]
  · show s (s' p) = p
    rw [k4 p hp, h4 p hp]
  · have := k5 p hp1 hp2
    exact h5 _ this.1 this.2

theorem Shuf.mono {a b a' b' : Nat} {d e : Nat → Nat} (h : Shuf a b d e) (ha : a' ≤ a) (hb : b ≤ b') : Shuf a' b' d e := by
  obtain ⟨s, t, h1, h2, h3, h4, h5⟩ := h
  refine ⟨s, t, h1, h2, h3, fun p hp => h4 p (by omega), fun p hp1 hp2 => ?_⟩
  by_cases hin : a ≤ p ∧ p < b
  · have := h5 p hin.1 hin.2; omega
  · rw [h4 p hin]; omega

/-- the two places i and j exchanged -/
def swp (d : Nat → Nat) (i j : Nat) : Nat → Nat := fun p => if p = i then d j else if p = j then d i else d p

theorem Shuf.swp {a b : Nat} (d : Nat → Nat) {i j : Nat} (hi : a ≤ i ∧ i < b) (hj : a ≤ j ∧ j < b) : Shuf a b d (swp d i j) := by
  refine ⟨fun p => if p = i then j else if p = j then i else p, fun p => if p = i then j else if p = j then i else p, fun p => ?_, fun p => ?_, fun p => ?_, fun p hp => ?_, fun p h1 h2 => ?_⟩
  · simp only [Go.Proofs.YtkflakeocdlinaaGreatDoor.swp]; split <;> (try rfl); split <;> rfl
  · dsimp only; repeat' split
    all_goals omega
  · dsimp only; repeat' split
    all_goals omega
  · dsimp only; repeat' split
    all_goals omega
  · dsimp only; repeat' split
    all_goals omega

theorem Shuf.out {a b : Nat} {d e : Nat → Nat} (h : Shuf a b d e) {p : Nat} (hp : ¬(a ≤ p ∧ p < b)) : e p = d p := by
  obtain ⟨s, t, h1, h2, h3, h4, h5⟩ := h
  rw [h1, h4 p hp]

theorem Shuf.from_ {a b : Nat} {d e : Nat → Nat} (h : Shuf a b d e) {p : Nat} (h1 : a ≤ p) (h2 : p < b) : ∃ q, a ≤ q ∧ q < b ∧ e p = d q := by
  obtain ⟨s, t, k1, k2, k3, k4, k5⟩ := h
  exact ⟨s p, (k5 p h1 h2).1, (k5 p h1 h2).2, k1 p⟩

theorem Shuf.to_ {a b : Nat} {d e : Nat → Nat} (h : Shuf a b d e) {p : Nat} (h1 : a ≤ p) (h2 : p < b) : ∃ q, a ≤ q ∧ q < b ∧ d p = e q := by
  obtain ⟨s, t, k1, k2, k3, k4, k5⟩ := h
  refine ⟨t p, ?_, ?_, by rw [k1, k2]⟩
  · by_cases hc : a ≤ t p ∧ t p < b
    · exact hc.1
    · have := k4 _ hc; rw [k2] at this; omega
  · by_cases hc : a ≤ t p ∧ t p < b
    · exact hc.2
    · have := k4 _ hc; rw [k2] at this; omega

/-- x comes ahead of y: more is x's key, or as much, and x is the first. -/
def bef (key : Nat → Int) (x y : Nat) : Prop := key y < key x ∨ (key x = key y ∧ x < y)

theorem bef.trans {key : Nat → Int} {x y z : Nat} (h : bef key x y) (k : bef key y z) : bef key x z := by
  unfold bef at *; omega

theorem bef.irrefl {key : Nat → Int} {x : Nat} (h : bef key x x) : False := by
  unfold bef at h; omega

theorem bef.asymm {key : Nat → Int} {x y : Nat} (h : bef key x y) (k : bef key y x) : False := (h.trans k).irrefl

theorem bef.total (key : Nat → Int) {x y : Nat} (h : x ≠ y) : bef key x y ∨ bef key y x := by
  unfold bef; omega

/-- the places from a to b are in order -/
def Ordd (key : Nat → Int) (a b : Nat) (d : Nat → Nat) : Prop := ∀ p q, a ≤ p → p < q → q < b → bef key (d p) (d q)

/-- insertion: the element at j, up to i, not yet at its place -/
structure InsAt (key : Nat → Int) (a i j : Nat) (d : Nat → Nat) : Prop where
  rest : ∀ p q, a ≤ p → p < q → q ≤ i → p ≠ j → q ≠ j → bef key (d p) (d q)
  behind : ∀ q, j < q → q ≤ i → bef key (d j) (d q)
  last : ∀ p, a ≤ p → p ≤ i → p ≠ j → d p < d j

theorem InsAt.start {key : Nat → Int} {a i : Nat} {d : Nat → Nat} (h : Ordd key a i d) (hl : ∀ p, a ≤ p → p < i → d p < d i) : InsAt key a i i d :=
  ⟨fun p q h1 h2 h3 _ h5 => h p q h1 h2 (by omega), fun q h1 h2 => by omega, fun p h1 h2 h3 => hl p h1 (by omega)⟩

theorem InsAt.stop {key : Nat → Int} {a i j : Nat} {d : Nat → Nat} (h : InsAt key a i j d) (hj : a ≤ j) (hji : j ≤ i) (hs : j = a ∨ ¬ key (d (j - 1)) < key (d j)) : Ordd key a (i + 1) d := by
  intro p q h1 h2 h3
  by_cases hp : p = j
  · subst hp; exact h.behind q h2 (by omega)
  · by_cases hq : q = j
    · subst hq
      rcases hs with hs | hs
      · omega
      · have hl := h.last (q - 1) (by omega) (by omega) (by omega)
        have hb : bef key (d (q - 1)) (d q) := by unfold bef; omega
        by_cases hpq : p = q - 1
        · subst hpq; exact hb
        · exact (h.rest p (q - 1) h1 (by omega) (by omega) hp (by omega)).trans hb
    · exact h.rest p q h1 h2 (by omega) hp hq

theorem InsAt.step {key : Nat → Int} {a i j : Nat} {d : Nat → Nat} (h : InsAt key a i j d) (hj : a < j) (hji : j ≤ i) (hs : key (d (j - 1)) < key (d j)) : InsAt key a i (j - 1) (swp d j (j - 1)) := by
  have e1 : swp d j (j - 1) (j - 1) = d j := by unfold swp; rw [if_neg (by omega), if_pos rfl]
  have e2 : swp d j (j - 1) j = d (j - 1) := by unfold swp; rw [if_pos rfl]
  have e3 : ∀ p, p ≠ j → p ≠ j - 1 → swp d j (j - 1) p = d p := fun p h1 h2 => by unfold swp; rw [if_neg h1, if_neg h2]
  refine ⟨fun p q h1 h2 h3 h4 h5 => ?_, fun q h1 h2 => ?_, fun p h1 h2 h3 => ?_⟩
  · by_cases hp : p = j
    · subst hp
      rw [e2, e3 q (by omega) h5]
      exact h.rest (p - 1) q (by omega) (by omega) h3 (by omega) (by omega)
    · by_cases hq : q = j
      · subst hq
        rw [e2, e3 p hp h4]
        exact h.rest p (q - 1) h1 (by omega) (by omega) hp (by omega)
      · rw [e3 p hp h4, e3 q hq h5]
        exact h.rest p q h1 h2 h3 hp hq
  · rw [e1]
    by_cases hq : q = j
    · subst hq; rw [e2]; exact Or.inl hs
    · rw [e3 q hq (by omega)]; exact h.behind q (by omega) h2
  · rw [e1]
    by_cases hp : p = j
    · subst hp; rw [e2]; exact h.last (p - 1) (by omega) (by omega) (by omega)
    · rw [e3 p hp h3]; exact h.last p h1 h2 hp

theorem InsAt.swp_out {d : Nat → Nat} {i j p : Nat} (h1 : p ≠ i) (h2 : p ≠ j) : swp d i j p = d p := by unfold swp; rw [if_neg h1, if_neg h2]

/-- insertion sort's outer state at i -/
structure InsOut (key : Nat → Int) (a b i : Nat) (d0 d : Nat → Nat) : Prop where
  ordd : Ordd key a i d
  shuf : Shuf a i d0 d

theorem InsOut.last {key : Nat → Int} {a b i : Nat} {d0 d : Nat → Nat} (h : InsOut key a b i d0 d) (h0 : ∀ p q, a ≤ p → p < q → q < b → d0 p < d0 q) (hi : i < b) (p : Nat) (h1 : a ≤ p) (h2 : p < i) : d p < d i := by
  obtain ⟨q, hq1, hq2, e⟩ := h.shuf.from_ h1 h2
  rw [e, h.shuf.out (by omega : ¬ (a ≤ i ∧ i < i))]
  exact h0 q i hq1 hq2 hi

end Go.Proofs.YtkflakeocdlinaaGreatDoor
/-
  Plain arithmetic of a long division by digits below B.
-/
namespace Go.Proofs.YtkflakeocdlinaaGreatDoor

/-- a digit's guess: q, and what remains of it -/
structure DigAt (B u d y1 y0 q r : Nat) : Prop where
  eq : q * y1 + r = u
  r_lt : r < B
  ge : (u * B + d) / (y1 * B + y0) ≤ q
  le : q ≤ B + 1

section
variable {B u d y1 y0 q r : Nat}

theorem dig_mul (h : q * y1 + r = u) : q * (y1 * B + y0) + r * B = u * B + q * y0 := by
  rw [Nat.mul_add, ← Nat.mul_assoc, ← h, Nat.add_mul]
  omega

theorem dig_small (hB : 0 < B) (hy1 : 0 < y1) (hu : u < y1 * B + y0) (hd : d < B) : (u * B + d) / (y1 * B + y0) < B := by
  have hpos : 0 < y1 * B := Nat.mul_pos hy1 hB
  rw [Nat.div_lt_iff_lt_mul (by omega)]
  have h1 : (u + 1) * B ≤ (y1 * B + y0) * B := Nat.mul_le_mul_right _ hu
  rw [Nat.add_mul, Nat.one_mul] at h1
  rw [Nat.mul_comm B]
  omega

theorem DigAt.done (h : DigAt B u d y1 y0 q r) (hB : 0 < B) (hy1 : 0 < y1) (hc : q * y0 ≤ r * B + d) : q = (u * B + d) / (y1 * B + y0) := by
  have h1 := dig_mul (B := B) (y0 := y0) h.eq
  have hpos : 0 < y1 * B := Nat.mul_pos hy1 hB
  have h2 : q ≤ (u * B + d) / (y1 * B + y0) := by
    rw [Nat.le_div_iff_mul_le (by omega)]
    omega
  exact Nat.le_antisymm h2 h.ge

theorem DigAt.more (h : DigAt B u d y1 y0 q r) (hB : 0 < B) (hy1 : 0 < y1) (hu : u < y1 * B + y0) (hd : d < B) (hc : B ≤ q ∨ r * B + d < q * y0) :
    (u * B + d) / (y1 * B + y0) < q := by
  rcases hc with hc | hc
  · have := dig_small hB hy1 hu hd
    omega
  · have h1 := dig_mul (B := B) (y0 := y0) h.eq
    have hpos : 0 < y1 * B := Nat.mul_pos hy1 hB
    rw [Nat.div_lt_iff_lt_mul (by omega)]
    omega

theorem dig_pred (h : q * y1 + r = u) (hq : 1 ≤ q) : (q - 1) * y1 + (r + y1) = u := by
  obtain ⟨p, rfl⟩ : ∃ p, q = p + 1 := ⟨q - 1, by omega⟩
  rw [Nat.add_sub_cancel]
  rw [Nat.add_mul] at h
  omega

theorem DigAt.step (h : DigAt B u d y1 y0 q r) (hB : 0 < B) (hy1 : 0 < y1) (hu : u < y1 * B + y0) (hd : d < B) (hc : B ≤ q ∨ r * B + d < q * y0) (hr : r + y1 < B) :
    DigAt B u d y1 y0 (q - 1) (r + y1) := by
  have hm := h.more hB hy1 hu hd hc
  have := h.le
  exact ⟨dig_pred h.eq (Nat.one_le_of_lt hm), hr, by omega, by omega⟩

theorem DigAt.over (h : DigAt B u d y1 y0 q r) (hB : 0 < B) (hy1 : 0 < y1) (hy0 : y0 < B) (hu : u < y1 * B + y0) (hd : d < B) (hc : B ≤ q ∨ r * B + d < q * y0) (hr : B ≤ r + y1) :
    q - 1 = (u * B + d) / (y1 * B + y0) := by
  have hm := h.more hB hy1 hu hd hc
  have hl := h.le
  have he := dig_pred h.eq (Nat.one_le_of_lt hm)
  have h1 := dig_mul (B := B) (y0 := y0) he
  have h2 : (q - 1) * y0 ≤ B * B := Nat.mul_le_mul (by omega) (by omega)
  have h3 : B * B ≤ (r + y1) * B := Nat.mul_le_mul_right _ hr
  have hpos : 0 < y1 * B := Nat.mul_pos hy1 hB
  have h4 : q - 1 ≤ (u * B + d) / (y1 * B + y0) := by
    rw [Nat.le_div_iff_mul_le (by omega)]
    omega
  omega

theorem DigAt.start (hy1 : B ≤ 2 * y1) (hy1' : y1 < B) (hy0 : y0 < B) (hu : u < y1 * B + y0) (hd : d < B) : DigAt B u d y1 y0 (u / y1) (u % y1) := by
  have hpos : 0 < y1 := by omega
  have hB : 0 < B := by omega
  refine ⟨by rw [Nat.mul_comm]; exact Nat.div_add_mod u y1, by have := Nat.mod_lt u hpos; omega, ?_, ?_⟩
  · rw [Nat.le_div_iff_mul_le hpos]
    obtain ⟨Q, hQ⟩ : ∃ Q, Q = (u * B + d) / (y1 * B + y0) := ⟨_, rfl⟩
    rw [← hQ]
    have h1 : Q * (y1 * B + y0) ≤ u * B + d := by rw [hQ]; exact Nat.div_mul_le_self _ _
    rw [Nat.mul_add, ← Nat.mul_assoc] at h1
    have h2 : Q * y1 * B < (u + 1) * B := by rw [Nat.add_mul, Nat.one_mul]; omega
    have := Nat.lt_of_mul_lt_mul_right h2
    omega
  · have : u / y1 < B + 2 := by
      rw [Nat.div_lt_iff_lt_mul hpos, Nat.add_mul, Nat.mul_comm B y1]
      omega
    omega

/-- a rest that two-step division leaves -/
theorem two_digits (B A d0 Y : Nat) (hY : 0 < Y) :
    A / Y * B + (A % Y * B + d0) / Y = (A * B + d0) / Y ∧ (A % Y * B + d0) % Y = (A * B + d0) % Y := by
  have h := Nat.div_add_mod A Y
  obtain ⟨q, hq⟩ : ∃ q, q = A / Y := ⟨_, rfl⟩
  obtain ⟨r, hr⟩ : ∃ r, r = A % Y := ⟨_, rfl⟩
  rw [← hq, ← hr] at h ⊢
  have e2 : A * B + d0 = (r * B + d0) + Y * (q * B) := by
    rw [← h, Nat.add_mul, Nat.mul_assoc]; omega
  rw [e2]
  constructor
  · rw [Nat.add_mul_div_left _ _ hY]; omega
  · rw [Nat.add_mul_mod_self_left]

/-- both sides shifted -/
theorem shift_div (N y k : Nat) (hk : 0 < k) : N * k / (y * k) = N / y ∧ N * k % (y * k) = N % y * k :=
  ⟨Nat.mul_div_mul_right N y hk, Nat.mul_mod_mul_right k N y⟩
end

end Go.Proofs.YtkflakeocdlinaaGreatDoor
