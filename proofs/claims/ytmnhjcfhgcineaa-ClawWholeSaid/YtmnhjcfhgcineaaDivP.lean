/-
  Plain arithmetic of a long division by digits below B.
-/
namespace Go.Proofs.Ytmnhjcfhgcineaa

/-- a digit's guess: q, and what remains of it -/
structure DigAt (B u d y1 y0 q r : Nat) : Prop where
  eq : q * y1 + r = u
  r_lt : r < B
  ge : (u * B + d) / (y1 * B + y0) ≤ q
  le : q ≤ B + 1

section
variable {B u d y1 y0 q r : Nat}

theorem dig_mul (h : q * y1 + r = u) : q * (y1 * B + y0) + r * B = u * B + q * y0 := by
  rw [Nat.mul_add, ← Nat.mul_assoc, ← h, Nat.add_mul]
  omega

theorem dig_small (hB : 0 < B) (hy1 : 0 < y1) (hu : u < y1 * B + y0) (hd : d < B) : (u * B + d) / (y1 * B + y0) < B := by
  have hpos : 0 < y1 * B := Nat.mul_pos hy1 hB
  rw [Nat.div_lt_iff_lt_mul (by omega)]
  have h1 : (u + 1) * B ≤ (y1 * B + y0) * B := Nat.mul_le_mul_right _ hu
  rw [Nat.add_mul, Nat.one_mul] at h1
  rw [Nat.mul_comm B]
  omega

theorem DigAt.done (h : DigAt B u d y1 y0 q r) (hB : 0 < B) (hy1 : 0 < y1) (hc : q * y0 ≤ r * B + d) : q = (u * B + d) / (y1 * B + y0) := by
  have h1 := dig_mul (B := B) (y0 := y0) h.eq
  have hpos : 0 < y1 * B := Nat.mul_pos hy1 hB
  have h2 : q ≤ (u * B + d) / (y1 * B + y0) := by
    rw [Nat.le_div_iff_mul_le (by omega)]
    omega
  exact Nat.le_antisymm h2 h.ge

theorem DigAt.more (h : DigAt B u d y1 y0 q r) (hB : 0 < B) (hy1 : 0 < y1) (hu : u < y1 * B + y0) (hd : d < B) (hc : B ≤ q ∨ r * B + d < q * y0) :
    (u * B + d) / (y1 * B + y0) < q := by
  rcases hc with hc | hc
  · have := dig_small hB hy1 hu hd
    omega
  · have h1 := dig_mul (B := B) (y0 := y0) h.eq
    have hpos : 0 < y1 * B := Nat.mul_pos hy1 hB
    rw [Nat.div_lt_iff_lt_mul (by omega)]
    omega

theorem dig_pred (h : q * y1 + r = u) (hq : 1 ≤ q) : (q - 1) * y1 + (r + y1) = u := by
  obtain ⟨p, rfl⟩ : ∃ p, q = p + 1 := ⟨q - 1, by omega⟩
  rw [Nat.add_sub_cancel]
  rw [Nat.add_mul] at h
  omega

theorem DigAt.step (h : DigAt B u d y1 y0 q r) (hB : 0 < B) (hy1 : 0 < y1) (hu : u < y1 * B + y0) (hd : d < B) (hc : B ≤ q ∨ r * B + d < q * y0) (hr : r + y1 < B) :
    DigAt B u d y1 y0 (q - 1) (r + y1) := by
  have hm := h.more hB hy1 hu hd hc
  have := h.le
  exact ⟨dig_pred h.eq (Nat.one_le_of_lt hm), hr, by omega, by omega⟩

theorem DigAt.over (h : DigAt B u d y1 y0 q r) (hB : 0 < B) (hy1 : 0 < y1) (hy0 : y0 < B) (hu : u < y1 * B + y0) (hd : d < B) (hc : B ≤ q ∨ r * B + d < q * y0) (hr : B ≤ r + y1) :
    q - 1 = (u * B + d) / (y1 * B + y0) := by
  have hm := h.more hB hy1 hu hd hc
  have hl := h.le
  have he := dig_pred h.eq (Nat.one_le_of_lt hm)
  have h1 := dig_mul (B := B) (y0 := y0) he
  have h2 : (q - 1) * y0 ≤ B * B := Nat.mul_le_mul (by omega) (by omega)
  have h3 : B * B ≤ (r + y1) * B := Nat.mul_le_mul_right _ hr
  have hpos : 0 < y1 * B := Nat.mul_pos hy1 hB
  have h4 : q - 1 ≤ (u * B + d) / (y1 * B + y0) := by
    rw [Nat.le_div_iff_mul_le (by omega)]
    omega
  omega

theorem DigAt.start (hy1 : B ≤ 2 * y1) (hy1' : y1 < B) (hy0 : y0 < B) (hu : u < y1 * B + y0) (hd : d < B) : DigAt B u d y1 y0 (u / y1) (u % y1) := by
  have hpos : 0 < y1 := by omega
  have hB : 0 < B := by omega
  refine ⟨by rw [Nat.mul_comm]; exact Nat.div_add_mod u y1, by have := Nat.mod_lt u hpos; omega, ?_, ?_⟩
  · rw [Nat.le_div_iff_mul_le hpos]
    obtain ⟨Q, hQ⟩ : ∃ Q, Q = (u * B + d) / (y1 * B + y0) := ⟨_, rfl⟩
    rw [← hQ]
    have h1 : Q * (y1 * B + y0) ≤ u * B + d := by rw [hQ]; exact Nat.div_mul_le_self _ _
    rw [Nat.mul_add, ← Nat.mul_assoc] at h1
    have h2 : Q * y1 * B < (u + 1) * B := by rw [Nat.add_mul, Nat.one_mul]; omega
    have := Nat.lt_of_mul_lt_mul_right h2
    omega
  · have : u / y1 < B + 2 := by
      rw [Nat.div_lt_iff_lt_mul hpos, Nat.add_mul, Nat.mul_comm B y1]
      omega
    omega

/-- a rest that two-step division leaves -/
theorem two_digits (B A d0 Y : Nat) (hY : 0 < Y) :
    A / Y * B + (A % Y * B + d0) / Y = (A * B + d0) / Y ∧ (A % Y * B + d0) % Y = (A * B + d0) % Y := by
  have h := Nat.div_add_mod A Y
  obtain ⟨q, hq⟩ : ∃ q, q = A / Y := ⟨_, rfl⟩
  obtain ⟨r, hr⟩ : ∃ r, r = A % Y := ⟨_, rfl⟩
  rw [← hq, ← hr] at h ⊢
  have e2 : A * B + d0 = (r * B + d0) + Y * (q * B) := by
    rw [← h, Nat.add_mul, Nat.mul_assoc]; omega
  rw [e2]
  constructor
  · rw [Nat.add_mul_div_left _ _ hY]; omega
  · rw [Nat.add_mul_mod_self_left]

/-- both sides shifted -/
theorem shift_div (N y k : Nat) (hk : 0 < k) : N * k / (y * k) = N / y ∧ N * k % (y * k) = N % y * k :=
  ⟨Nat.mul_div_mul_right N y hk, Nat.mul_mod_mul_right k N y⟩
end

end Go.Proofs.Ytmnhjcfhgcineaa
