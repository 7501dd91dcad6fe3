/-
  Plain mathematics on the double format: the quotient of two whole numbers, and its rate. No program is spoken of.
-/
import Derived.Test.YtagailghjfkafaaDoorBasE
namespace Go.Proofs.YtagailghjfkafaaDoor
open Ieee

def E4 : Nat := 1198
def E6 : Nat := 1145
def E5 : Nat := 1072
theorem pE36 : 2 ^ E3 = 36028797018963968 * 2 ^ E6 := by decide +kernel
theorem pE46 : 2 ^ E4 = 9007199254740992 * 2 ^ E6 := by decide +kernel
theorem pE45 : 2 ^ E4 = 2 ^ E5 * 2 ^ 126 := by decide +kernel
theorem pE15 : 2 ^ E1 = 2 ^ 2 * 2 ^ E5 := by decide +kernel

theorem log2_norm {m : Nat} (h1 : 4503599627370496 ≤ m) (h2 : m < 9007199254740992) : m.log2 = 52 :=
  (Nat.log2_eq_iff (by omega)).mpr ⟨by have : (2 : Nat) ^ 52 = 4503599627370496 := by decide
                                       omega, by have : (2 : Nat) ^ (52 + 1) = 9007199254740992 := by decide
                                                 omega⟩

theorem pl_mono {a b : Nat} (h : a ≤ b) : pl a ≤ pl b := by
  unfold pl
  split
  · omega
  · rw [if_neg (by omega)]
    have := Nat.div_le_div_right (c := 4503599627370496) h
    omega

/-- the quotient's digits -/
theorem quot_digits (d n : Nat) (hn : 0 < n) : (2 * (d / n) + (d % n != 0).toNat) * n ≤ 2 * d + n ∧ 2 * d ≤ (2 * (d / n) + (d % n != 0).toNat) * n + n := by
  have h1 := Nat.div_add_mod d n
  have h2 := Nat.mod_lt d hn
  rw [Nat.add_mul, Nat.mul_assoc, Nat.mul_comm (d / n) n]
  by_cases h : d % n = 0
  · rw [h] at h1 ⊢
    simp only [bne_self_eq_false, Bool.toNat_false, Nat.zero_mul]
    omega
  · have : (d % n != 0) = true := by simp [h]
    rw [this]
    simp only [Bool.toNat_true, Nat.one_mul]
    omega

theorem quot_top (d n k : Nat) (h : d ≤ n * k) : 2 * (d / n) + (d % n != 0).toNat ≤ 2 * k := by
  have h1 := Nat.div_add_mod d n
  have h3 : d / n ≤ k := Nat.div_le_of_le_mul h
  by_cases h0 : d % n = 0
  · rw [h0]; simp only [bne_self_eq_false, Bool.toNat_false]; omega
  · have : (d % n != 0) = true := by simp [h0]
    rw [this]
    simp only [Bool.toNat_true]
    have : d / n ≠ k := fun e => by rw [e] at h1; omega
    omega

/-- the exact quotient's digits, as so many 2^-1200 -/
def quoQ (a b : Nat) : Nat := (2 * (mg a * 2 ^ 54 / mg b) + (mg a * 2 ^ 54 % mg b != 0).toNat) * 2 ^ (1145 + pl a - pl b)

theorem norm_mg {r : Nat} (h : ¬ r < 4503599627370496) : 4503599627370496 ≤ mg r ∧ mg r < 9007199254740992 := by
  unfold mg; rw [if_neg h]; omega

theorem div_norm (a b : Nat) (ha : a < infR) (hb : b < infR) (na : ¬ a < 4503599627370496) (nb : ¬ b < 4503599627370496) (hpl : pl b ≤ 1145 + pl a) :
    double.div (wd false a) (wd false b) = some (wd false (nrs (quoQ a b))) := by
  have hi : infR < 9223372036854775808 := by decide
  obtain ⟨a1, a2⟩ := norm_mg na
  obtain ⟨b1, b2⟩ := norm_mg nb
  unfold Format.div
  rw [read_wd false a (by omega), read_wd false b (by omega)]
  unfold dat
  rw [if_pos ha, if_pos hb]
  unfold Datum.quotient
  dsimp only
  rw [if_neg (by omega), log2_norm a1 a2, log2_norm b1 b2, show double.fractionBits + 2 + 52 - 52 = 54 from rfl, Nat.shiftLeft_eq]
  simp only [Option.map_some, Format.write]
  rw [nearest_eq _ _ _ (by omega)]
  have e : (-1074 + (pl a : Int) - (-1074 + (pl b : Int)) - ((54 : Nat) : Int) - 1 + 1200).toNat = 1145 + pl a - pl b := by omega
  rw [e, show (false ^^ false) = false from rfl]
  unfold quoQ
  exact Eq.refl _

theorem big_E1 : 4503599627370496 ≤ 2 ^ E1 := by decide +kernel
theorem pE36' : 2 ^ (55 + E6) = 2 ^ E3 := by decide +kernel
theorem one_top : nr0 (2 ^ E3) < infR := by decide +kernel
def E7 : Nat := 1148
theorem pTop : 2 ^ E7 = 8 * 2 ^ E6 := by decide +kernel
theorem pLog : 2 ^ E3 < 2 ^ 1201 := by decide +kernel
theorem pW : (1099511627776 : Nat) * 2 ^ E1 ≤ 2 ^ (40 + E1) := by decide +kernel

/-- the quotient's digits are next to the quotient, and not above 1 -/
theorem quoQ_near (p w : Nat) (hp : 0 < p) (hpw : p ≤ w) (hw : w ≤ 1099511627776) :
    ¬ ofNat p < 4503599627370496 ∧ ¬ ofNat w < 4503599627370496 ∧ pl (ofNat w) ≤ 1145 + pl (ofNat p) ∧
    quoQ (ofNat p) (ofNat w) ≤ 2 ^ E3 ∧
    quoQ (ofNat p) (ofNat w) * w ≤ p * 2 ^ E3 + w * 2 ^ E6 ∧ p * 2 ^ E3 ≤ quoQ (ofNat p) (ofNat w) * w + w * 2 ^ E6 := by
  obtain ⟨a1, ra⟩ := rv_ofNat (n := p) (by omega)
  obtain ⟨b1, rb⟩ := rv_ofNat (n := w) (by omega)
  have hab := ofNat_mono hpw
  obtain ⟨a, ea⟩ : ∃ a, a = ofNat p := ⟨_, rfl⟩
  obtain ⟨b, eb⟩ : ∃ b, b = ofNat w := ⟨_, rfl⟩
  rw [← ea] at a1 ra hab ⊢
  rw [← eb] at b1 rb hab ⊢
  clear ea eb
  have hE := big_E1
  have na : ¬ a < 4503599627370496 := fun h => by
    rw [rv_small h] at ra
    have : 1 * 2 ^ E1 ≤ p * 2 ^ E1 := Nat.mul_le_mul_right _ hp
    omega
  have nb : ¬ b < 4503599627370496 := by omega
  obtain ⟨m1, m2⟩ := norm_mg na
  obtain ⟨n1, n2⟩ := norm_mg nb
  have hpl := pl_mono hab
  unfold rv at ra rb
  obtain ⟨m, em⟩ : ∃ m, m = mg a := ⟨_, rfl⟩
  obtain ⟨n, en⟩ : ∃ n, n = mg b := ⟨_, rfl⟩
  unfold quoQ
  rw [← em] at m1 m2 ra ⊢
  rw [← en] at n1 n2 rb ⊢
  obtain ⟨i, ei⟩ : ∃ i, i = pl a := ⟨_, rfl⟩
  obtain ⟨j, ej⟩ : ∃ j, j = pl b := ⟨_, rfl⟩
  rw [← ei] at hpl ra ⊢
  rw [← ej] at hpl rb ⊢
  clear em en ei ej
  have hjb : j ≤ 1145 + i := by
    have h1 : n * 2 ^ j ≤ 1099511627776 * 2 ^ E1 := by rw [rb]; exact Nat.mul_le_mul_right _ hw
    have h2 : 4503599627370496 * 2 ^ j ≤ n * 2 ^ j := Nat.mul_le_mul_right _ n1
    have h3 := pW
    have h4 : 2 ^ (52 + j) ≤ 2 ^ (40 + E1) := by
      rw [Nat.pow_add, show (2 : Nat) ^ 52 = 4503599627370496 from rfl]; omega
    have h5 := (Nat.pow_le_pow_iff_right (by omega : 1 < 2)).mp h4
    unfold E1 at h5
    omega
  refine ⟨na, nb, hjb, ?_⟩
  obtain ⟨c, ec⟩ : ∃ c, c = 1145 + i - j := ⟨_, rfl⟩
  rw [← ec]
  have hc : c + j = E6 + i := by unfold E6; omega
  have hcE : c ≤ E6 := by unfold E6; omega
  clear ec
  obtain ⟨M, eM⟩ : ∃ M, M = 2 * (m * 2 ^ 54 / n) + (m * 2 ^ 54 % n != 0).toNat := ⟨_, rfl⟩
  have hd := quot_digits (m * 2 ^ 54) n (by omega)
  have ht := fun k => quot_top (m * 2 ^ 54) n k
  rw [← eM] at hd ht ⊢
  clear eM
  have hj0 : 0 < 2 ^ j := Nat.two_pow_pos j
  have hi0 : 0 < 2 ^ i := Nat.two_pow_pos i
  have hT : 2 ^ c ≤ 2 ^ E6 := Nat.pow_le_pow_right (by omega) hcE
  refine ⟨?_, ?_⟩
  · have h1 : m * 2 ^ i ≤ n * 2 ^ j := by rw [ra, rb]; exact Nat.mul_le_mul_right _ hpw
    have h2 : m ≤ n * 2 ^ (j - i) := by
      have : m * 2 ^ i ≤ (n * 2 ^ (j - i)) * 2 ^ i := by
        rw [Nat.mul_assoc, ← Nat.pow_add, show j - i + i = j from by omega]; exact h1
      exact Nat.le_of_mul_le_mul_right this hi0
    have h3 := ht (2 ^ (54 + (j - i))) (by
      rw [Nat.pow_add, ← Nat.mul_assoc, Nat.mul_comm n, Nat.mul_assoc, Nat.mul_comm m]
      exact Nat.mul_le_mul_left _ h2)
    have h4 : M * 2 ^ c ≤ 2 * 2 ^ (54 + (j - i)) * 2 ^ c := Nat.mul_le_mul_right _ h3
    have h5 : 2 * 2 ^ (54 + (j - i)) * 2 ^ c = 2 ^ E3 := by
      rw [← pE36', Nat.mul_comm 2, ← Nat.pow_succ, ← Nat.pow_add]
      congr 1
      omega
    omega
  · have hn2 : ∀ X : Nat, X * n * 2 ^ (c + j) = X * 2 ^ c * w * 2 ^ E1 := fun X => by
      rw [Nat.mul_assoc (X * 2 ^ c), ← rb, Nat.pow_add]
      simp only [Nat.mul_assoc, Nat.mul_left_comm, Nat.mul_comm]
    have hm2 : 2 * (m * 2 ^ 54) * 2 ^ (c + j) = p * 2 ^ E3 * 2 ^ E1 := by
      rw [hc, Nat.mul_right_comm p, ← ra, ← pE36', Nat.pow_add 2 E6 i, Nat.pow_add 2 55 E6, show (2 : Nat) ^ 55 = 2 * 2 ^ 54 from rfl]
      simp only [Nat.mul_assoc, Nat.mul_left_comm, Nat.mul_comm]
    have hE0 : 0 < 2 ^ E1 := Nat.two_pow_pos _
    have e1 := hn2 M
    have e2 := hn2 1
    rw [Nat.one_mul, Nat.one_mul] at e2
    have u1 : M * 2 ^ c * w * 2 ^ E1 ≤ (p * 2 ^ E3 + 2 ^ c * w) * 2 ^ E1 := by
      rw [Nat.add_mul, ← e1, ← e2, ← hm2, ← Nat.add_mul]
      exact Nat.mul_le_mul_right _ hd.1
    have u2 : p * 2 ^ E3 * 2 ^ E1 ≤ (M * 2 ^ c * w + 2 ^ c * w) * 2 ^ E1 := by
      rw [Nat.add_mul, ← e1, ← e2, ← hm2, ← Nat.add_mul]
      exact Nat.mul_le_mul_right _ hd.2
    have v1 := Nat.le_of_mul_le_mul_right u1 hE0
    have v2 := Nat.le_of_mul_le_mul_right u2 hE0
    have v3 : 2 ^ c * w ≤ w * 2 ^ E6 := by rw [Nat.mul_comm]; exact Nat.mul_le_mul_left _ hT
    omega

theorem rne_lowq (L : Nat) (h : 0 < L) : rne ((4 * L - 1) * 2 ^ E5) E1 = L := by
  have e : E1 = 2 + E5 := by decide
  rw [e, rne_scale]
  unfold rne
  rw [show (2 : Nat) ^ 2 = 4 from rfl, if_pos (by omega)]
  omega
theorem rne_highq (L : Nat) : rne ((4 * L + 5) * 2 ^ E5) E1 = L + 1 := by
  have e : E1 = 2 + E5 := by decide
  rw [e, rne_scale]
  unfold rne
  rw [show (2 : Nat) ^ 2 = 4 from rfl, if_neg (by omega)]
  omega

/-- the rung of so many quarters -/
theorem rv_quarter {k : Nat} (h : k < 50000) : nrs (k * 2 ^ E4) < infR ∧ rv (nrs (k * 2 ^ E4)) = k * 2 ^ E5 := by
  have h1 := nr0_exact (k := k) (j := E4) (by omega) (by decide)
  have h2 : nr0 (k * 2 ^ E4) < infR := by
    refine Nat.lt_of_le_of_lt (nr0_mono (Q := 9007199254740992 * 2 ^ E3) ?_) ofNat_top
    refine Nat.mul_le_mul (by omega) ?_
    exact Nat.pow_le_pow_right (by omega) (by decide)
  have e : nrs (k * 2 ^ E4) = nr0 (k * 2 ^ E4) := by unfold nrs; omega
  rw [e]
  refine ⟨h2, ?_⟩
  rw [pE45, ← Nat.mul_assoc] at h1 ⊢
  exact Nat.eq_of_mul_eq_mul_right (Nat.two_pow_pos _) h1

/-- the quotient's rate -/
theorem quo_rate (p w : Nat) (hp : 0 < p) (hpw : p ≤ w) (hw : w ≤ 1099511627776) :
    ∃ x, 0 < x ∧ x < infR ∧ double.div (wd false (ofNat p)) (wd false (ofNat w)) = some (wd false x) ∧ ¬ 10000 < Np x ∧ p * 10000 / w ≤ Np x ∧ Np x ≤ p * 10000 / w + 1 := by
  obtain ⟨na, nb, hpl, hQ, hu, hl⟩ := quoQ_near p w hp hpw hw
  have hdiv := div_norm (ofNat p) (ofNat w) (rv_ofNat (by omega)).1 (rv_ofNat (by omega)).1 na nb hpl
  obtain ⟨Q, eQ⟩ : ∃ Q, Q = quoQ (ofNat p) (ofNat w) := ⟨_, rfl⟩
  rw [← eQ] at hQ hu hl hdiv
  clear eQ na nb hpl
  have hfin : nr0 Q < infR := Nat.lt_of_le_of_lt (nr0_mono hQ) one_top
  have ex : nrs Q = nr0 Q := by unfold nrs; omega
  rw [ex] at hdiv
  obtain ⟨x, hx⟩ : ∃ x, x = nr0 Q := ⟨_, rfl⟩
  rw [← hx] at hdiv hfin
  obtain ⟨er1, er2⟩ := nr0_err Q
  rw [← hx] at er1 er2
  have hnd : 2 ^ nd Q ≤ 8 * 2 ^ E6 := by
    rw [← pTop]
    refine Nat.pow_le_pow_right (by omega) ?_
    unfold nd E7
    have : Q.log2 < 1201 := by
      by_cases h0 : Q = 0
      · subst h0; decide
      · exact (Nat.log2_lt h0).mpr (Nat.lt_of_le_of_lt hQ pLog)
    omega
  -- not above 1
  have hx1 : x ≤ ofNat 1 := by
    have := nrs_mono hQ
    rw [ex, ← hx] at this
    unfold ofNat
    rw [Nat.one_mul]
    exact this
  have hV1 : rv x * 2 ^ 126 ≤ 2 ^ E3 := by
    have h1 := rv_mono hx1
    rw [(rv_ofNat (n := 1) (by omega)).2, Nat.one_mul] at h1
    rw [pE3]
    exact Nat.mul_le_mul_right _ h1
  obtain ⟨V, hV⟩ : ∃ V, V = rv x * 2 ^ 126 := ⟨_, rfl⟩
  rw [← hV] at er1 er2 hV1
  have hprod : prod x = nrs (V * 10000) := by unfold prod; rw [hV, Nat.mul_right_comm]
  obtain ⟨T, hT⟩ : ∃ T, T = 2 ^ E6 := ⟨_, rfl⟩
  have hT0 : 0 < T := by rw [hT]; exact Nat.two_pow_pos _
  have p3 := pE36
  have p4 := pE46
  rw [← hT] at hu hl hnd p3 p4
  -- w times what is said
  have c1 : V * w ≤ Q * w + 4 * T * w := by rw [← Nat.add_mul]; exact Nat.mul_le_mul_right _ (by omega)
  have c2 : Q * w ≤ V * w + 4 * T * w := by rw [← Nat.add_mul]; exact Nat.mul_le_mul_right _ (by omega)
  obtain ⟨L, hL⟩ : ∃ L, L = p * 10000 / w := ⟨_, rfl⟩
  have hdm := Nat.div_add_mod (p * 10000) w
  have hml := Nat.mod_lt (p * 10000) (show 0 < w by omega)
  rw [← hL] at hdm ⊢
  have e1 : V * 10000 * w = 10000 * (V * w) := by rw [Nat.mul_right_comm, Nat.mul_comm]
  have e2 : p * 10000 * 2 ^ E3 = 10000 * (p * 2 ^ E3) := by rw [Nat.mul_right_comm, Nat.mul_comm]
  have e4 : 4 * T * w = 4 * (w * T) := by rw [Nat.mul_assoc, Nat.mul_comm T]
  have up : V * 10000 ≤ (4 * L + 5) * 2 ^ E4 := by
    have h1 : p * 10000 * 2 ^ E3 ≤ w * (L + 1) * 2 ^ E3 := Nat.mul_le_mul_right _ (by rw [Nat.mul_add]; omega)
    have h2 : w * (L + 1) * 2 ^ E3 = ((L + 1) * 2 ^ E3) * w := by rw [Nat.mul_comm w, Nat.mul_right_comm]
    have h3 : V * 10000 * w ≤ ((L + 1) * 2 ^ E3 + 50000 * T) * w := by
      rw [Nat.add_mul, e1, show 50000 * T * w = 50000 * (w * T) from by rw [Nat.mul_assoc, Nat.mul_comm T]]
      omega
    have h4 := Nat.le_of_mul_le_mul_right h3 (by omega)
    rw [p4]
    rw [p3] at h4
    have g1 : (L + 1) * (36028797018963968 * T) = 36028797018963968 * (L * T) + 36028797018963968 * T := by rw [Nat.add_mul, Nat.mul_left_comm]; omega
    have g2 : (4 * L + 5) * (9007199254740992 * T) = 36028797018963968 * (L * T) + 45035996273704960 * T := by
      rw [Nat.add_mul, Nat.mul_assoc 4, Nat.mul_left_comm L]; omega
    omega
  have lo : 4 * L * 2 ^ E4 ≤ V * 10000 + 2 ^ E4 := by
    have h1 : w * L * 2 ^ E3 ≤ p * 10000 * 2 ^ E3 := Nat.mul_le_mul_right _ (by omega)
    have h2 : w * L * 2 ^ E3 = (L * 2 ^ E3) * w := by rw [Nat.mul_comm w, Nat.mul_right_comm]
    have h3 : (L * 2 ^ E3) * w ≤ (V * 10000 + 50000 * T) * w := by
      rw [Nat.add_mul, e1, show 50000 * T * w = 50000 * (w * T) from by rw [Nat.mul_assoc, Nat.mul_comm T]]
      omega
    have h4 := Nat.le_of_mul_le_mul_right h3 (by omega)
    rw [p4]
    rw [p3] at h4
    have g1 : L * (36028797018963968 * T) = 36028797018963968 * (L * T) := by rw [Nat.mul_left_comm]
    have g2 : 4 * L * (9007199254740992 * T) = 36028797018963968 * (L * T) := by
      rw [Nat.mul_assoc 4, Nat.mul_left_comm L]; omega
    omega
  have hL10 : L ≤ 10000 := by rw [hL]; exact Nat.div_le_of_le_mul (Nat.mul_le_mul_right _ hpw)
  have hpr : prod x ≤ ofNat 10000 := by
    rw [hprod]; unfold ofNat
    exact nrs_mono (by rw [Nat.mul_comm]; exact Nat.mul_le_mul_left _ hV1)
  obtain ⟨t1, t2⟩ := rv_ofNat (n := 10000) (by omega)
  have hpf : prod x < infR := by omega
  have eN : Np x = rne (rv (prod x)) E1 := by unfold Np; rw [if_pos hpf]
  refine ⟨x, ?_, hfin, hdiv, ?_, ?_, ?_⟩
  · rcases Nat.eq_zero_or_pos x with h0 | h0
    · rw [h0, show rv 0 = 0 from by decide, Nat.zero_mul] at hV
      rw [hV, Nat.zero_mul] at c2
      have : 1 * 2 ^ E3 ≤ p * 2 ^ E3 := Nat.mul_le_mul_right _ hp
      have hwT : w * T ≤ 1099511627776 * T := Nat.mul_le_mul_right _ hw
      omega
    · exact h0
  · have h1 := rne_mono (rv_mono hpr) E1
    rw [t2, rne_exact] at h1
    omega
  · rw [eN]
    by_cases h0 : L = 0
    · omega
    · have h1 : nrs ((4 * L - 1) * 2 ^ E4) ≤ prod x := by
        rw [hprod]
        refine nrs_mono ?_
        rw [Nat.sub_mul, Nat.one_mul]
        omega
      have h2 := rne_mono (rv_mono h1) E1
      rw [(rv_quarter (by omega)).2, rne_lowq L (by omega)] at h2
      exact h2
  · rw [eN]
    have h1 : prod x ≤ nrs ((4 * L + 5) * 2 ^ E4) := by rw [hprod]; exact nrs_mono up
    have h2 := rne_mono (rv_mono h1) E1
    rw [(rv_quarter (by omega)).2, rne_highq L] at h2
    exact h2
end Go.Proofs.YtagailghjfkafaaDoor
