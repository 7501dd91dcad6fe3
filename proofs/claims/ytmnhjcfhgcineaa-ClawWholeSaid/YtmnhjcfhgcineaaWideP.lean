/-
  Plain lemmas: numbers as lists of bits, the lowest first.
-/
namespace Go.Proofs.Ytmnhjcfhgcineaa

def val : List Bool → Nat
  | [] => 0
  | b :: r => b.toNat + 2 * val r

theorem val_snoc (bs : List Bool) (b : Bool) : val (bs ++ [b]) = val bs + 2 ^ bs.length * b.toNat := by
  induction bs with
  | nil => simp [val]
  | cons c r ih => rw [List.cons_append, val, ih, val, List.length_cons, Nat.pow_succ, Nat.mul_add, Nat.mul_comm (2 ^ r.length) 2, Nat.mul_assoc]; omega

theorem val_lt (bs : List Bool) : val bs < 2 ^ bs.length := by
  induction bs with
  | nil => simp [val]
  | cons c r ih => rw [val, List.length_cons, Nat.pow_succ]; have : c.toNat ≤ 1 := Bool.toNat_le c; omega

/-- the lowest k bits -/
theorem val_take_succ (bs : List Bool) (k : Nat) (h : k < bs.length) : val (bs.take (k + 1)) = val (bs.take k) + 2 ^ k * (bs.getD k false).toNat := by
  rw [List.take_succ_eq_append_getElem h, val_snoc, List.length_take, Nat.min_eq_left (by omega)]
  simp [h]

theorem val_take_past (bs : List Bool) (k : Nat) (h : bs.length ≤ k) : val (bs.take k) = val bs := by rw [List.take_of_length_le h]

theorem getD_past {bs : List Bool} {k : Nat} (h : bs.length ≤ k) : bs.getD k false = false := by simp [List.getD_eq_getElem?_getD, List.getElem?_eq_none h]

theorem val_take_step (bs : List Bool) (k : Nat) : val (bs.take (k + 1)) = val (bs.take k) + 2 ^ k * (bs.getD k false).toNat := by
  by_cases h : k < bs.length
  · exact val_take_succ bs k h
  · rw [val_take_past bs (k + 1) (by omega), val_take_past bs k (by omega), getD_past (by omega)]; simp

/-- the bits from k on -/
theorem val_drop_step (bs : List Bool) (k : Nat) (h : k < bs.length) : val (bs.drop k) = (bs.getD k false).toNat + 2 * val (bs.drop (k + 1)) := by
  rw [List.drop_eq_getElem_cons h, val]
  simp [h]

theorem val_split (bs : List Bool) (k : Nat) : val bs = val (bs.take k) + 2 ^ k * val (bs.drop k) := by
  induction k generalizing bs with
  | zero => simp [val]
  | succ k ih =>
    cases bs with
    | nil => simp [val]
    | cons c r => rw [List.take_succ_cons, List.drop_succ_cons, val, val, ih r, Nat.pow_succ, Nat.mul_comm (2 ^ k) 2, Nat.mul_assoc]; omega

/-- no bit at the end is idle -/
def Canon (bs : List Bool) : Prop := bs = [] ∨ bs.getD (bs.length - 1) false = true

theorem canon_ge {bs : List Bool} (h : Canon bs) (hp : 0 < bs.length) : 2 ^ (bs.length - 1) ≤ val bs := by
  rcases h with h | h
  · subst h; simp at hp
  · have h1 := val_take_step bs (bs.length - 1)
    rw [h, val_take_past bs (bs.length - 1 + 1) (by omega)] at h1
    simp at h1
    omega

theorem canon_zero {bs : List Bool} (h : Canon bs) : bs.length = 0 ↔ val bs = 0 := by
  constructor
  · intro h0; rw [List.eq_nil_of_length_eq_zero h0]; rfl
  · intro h0
    rcases Nat.eq_zero_or_pos bs.length with h1 | h1
    · exact h1
    · have := canon_ge h h1
      have : 0 < 2 ^ (bs.length - 1) := Nat.pow_pos (by omega)
      omega

theorem canon_len {bs : List Bool} (h : Canon bs) {k : Nat} (hv : val bs < 2 ^ k) : bs.length ≤ k := by
  rcases Nat.eq_zero_or_pos bs.length with h1 | h1
  · omega
  · have h2 := canon_ge h h1
    have h3 : 2 ^ (bs.length - 1) < 2 ^ k := by omega
    have := (Nat.pow_lt_pow_iff_right (by omega : 1 < 2)).1 h3
    omega

theorem canon_odd (bs : List Bool) : bs.getD 0 false = decide (val bs % 2 = 1) := by
  cases bs with
  | nil => rfl
  | cons c r => cases c <;> simp [val] <;> omega

theorem val_congr : ∀ (xs bs : List Bool), (∀ j, xs.getD j false = bs.getD j false) → val xs = val bs
  | [], [], _ => rfl
  | [], b :: r, h => by
    have h0 := h 0
    have ih := val_congr [] r (fun j => by have := h (j + 1); simpa using this)
    simp at h0
    rw [h0]
    show val [] = false.toNat + 2 * val r
    rw [← ih]; rfl
  | a :: r, [], h => by
    have h0 := h 0
    have ih := val_congr r [] (fun j => by have := h (j + 1); simpa using this)
    simp at h0
    rw [h0]
    show false.toNat + 2 * val r = val []
    rw [ih]; rfl
  | a :: r, b :: q, h => by
    have h0 := h 0
    have ih := val_congr r q (fun j => by have := h (j + 1); simpa using this)
    simp at h0
    rw [val, val, ih, h0]

theorem getD_drop (xs : List Bool) (k j : Nat) : (xs.drop k).getD j false = xs.getD (k + j) false := by
  simp [List.getD_eq_getElem?_getD, List.getElem?_drop]

theorem drop_congr {xs bs : List Bool} {k : Nat} (h : ∀ j, k ≤ j → xs.getD j false = bs.getD j false) : val (xs.drop k) = val (bs.drop k) :=
  val_congr _ _ fun j => by rw [getD_drop, getD_drop]; exact h _ (by omega)

theorem take_lt (xs : List Bool) (k : Nat) : val (xs.take k) < 2 ^ k := by
  have h1 := val_lt (xs.take k)
  have h2 : 2 ^ (xs.take k).length ≤ 2 ^ k := Nat.pow_le_pow_right (by omega) (by rw [List.length_take]; omega)
  omega

/-- where they differ first, from above, decides -/
theorem less_at {xs bs : List Bool} {k : Nat} (h : ∀ j, k < j → xs.getD j false = bs.getD j false) (hne : xs.getD k false ≠ bs.getD k false) : decide (val xs < val bs) = bs.getD k false := by
  have h1 := val_split xs (k + 1)
  have h2 := val_split bs (k + 1)
  rw [drop_congr (k := k + 1) (fun j hj => h j (by omega))] at h1
  rw [val_take_step] at h1 h2
  have l1 := take_lt xs k
  have l2 := take_lt bs k
  generalize 2 ^ (k + 1) * val (bs.drop (k + 1)) = H at *
  generalize val (xs.take k) = x at *
  generalize val (bs.take k) = y at *
  generalize 2 ^ k = K at *
  cases ha : xs.getD k false <;> cases hb : bs.getD k false
  · rw [ha, hb] at hne; exact absurd rfl hne
  · rw [ha] at h1; rw [hb] at h2; simp at h1 h2; simp; omega
  · rw [ha] at h1; rw [hb] at h2; simp at h1 h2; simp; omega
  · rw [ha, hb] at hne; exact absurd rfl hne

theorem less_none {xs bs : List Bool} (h : ∀ j, 0 ≤ j → xs.getD j false = bs.getD j false) : decide (val xs < val bs) = false := by
  rw [val_congr xs bs (fun j => h j (by omega))]; simp

/-- a full adder -/
theorem add_step (x y c : Bool) : x.toNat + y.toNat + c.toNat = (Bool.xor (Bool.xor x y) c).toNat + 2 * (x && y || x && c || y && c).toNat := by
  cases x <;> cases y <;> cases c <;> rfl

/-- a full subtracter -/
theorem sub_step (x y c : Bool) : x.toNat + 2 * (!x && (y || c) || y && c).toNat = (Bool.xor (Bool.xor x y) c).toNat + y.toNat + c.toNat := by
  cases x <;> cases y <;> cases c <;> rfl
end Go.Proofs.Ytmnhjcfhgcineaa
