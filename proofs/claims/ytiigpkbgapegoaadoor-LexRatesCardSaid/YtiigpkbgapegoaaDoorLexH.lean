/-
  The rates that the law writes: their tokens, and what Tokens answers of them.
-/
import Derived.Test.YtiigpkbgapegoaaDoorLexG
namespace Go.Proofs.YtiigpkbgapegoaaDoor
open Go.RowKit

/-- a number of hundredths, with two figures behind the point -/
def twoL (m : Nat) : List UInt8 := digL (m / 100) ++ 46 :: ([figL (m / 10 % 10), figL (m % 10)] ++ [37])
/-- with one -/
def oneF (m : Nat) : List UInt8 := digL (m / 10) ++ 46 :: ([figL (m % 10)] ++ [37])

theorem two_toks {m : Nat} (h : m < 100000000) : tokL (twoL m) = .ok [((2, twoL m, m), 0)] := by
  have h1 := digL_len 5 (m / 100) (by omega)
  have hf1 := figL_fig (d := m / 10 % 10) (by omega)
  have hf2 := figL_fig (d := m % 10) (by omega)
  have h2 := tokL_rate (digL (m / 100)) [figL (m / 10 % 10), figL (m % 10)] (digL_fig _ _ (Nat.le_refl _)) (by
    intro c hc
    simp only [List.mem_cons, List.mem_nil_iff, or_false] at hc
    rcases hc with rfl | rfl
    · exact hf1
    · exact hf2) h1.1 (by omega) (by simp) (by simp)
  rw [digL_wo _ _ (Nat.le_refl _), if_neg (by omega)] at h2
  have e1 : m / 100 * 100 + woL (([figL (m / 10 % 10), figL (m % 10)] ++ [48, 48]).take 2) = m := by
    show m / 100 * 100 + ((0 * 10 + ((figL (m / 10 % 10)).toNat - 48)) * 10 + ((figL (m % 10)).toNat - 48)) = m
    rw [figL_nat (by omega), figL_nat (by omega)]
    omega
  rw [e1] at h2
  exact h2

theorem one_toks {m : Nat} (h : m < 100000000) : tokL (oneF m) = if 1000000 < m / 10 then .error (0, 2) else .ok [((2, oneF m, 10 * m), 0)] := by
  have h1 := digL_len 6 (m / 10) (by omega)
  have hf2 := figL_fig (d := m % 10) (by omega)
  have h2 := tokL_rate (digL (m / 10)) [figL (m % 10)] (digL_fig _ _ (Nat.le_refl _)) (by
    intro c hc
    rw [List.mem_singleton.1 hc]
    exact hf2) h1.1 (by omega) (by simp) (by simp)
  rw [digL_wo _ _ (Nat.le_refl _)] at h2
  have e1 : m / 10 * 100 + woL (([figL (m % 10)] ++ [48, 48]).take 2) = 10 * m := by
    show m / 10 * 100 + ((0 * 10 + ((figL (m % 10)).toNat - 48)) * 10 + ((48 : UInt8).toNat - 48)) = 10 * m
    rw [figL_nat (by omega)]
    show m / 10 * 100 + ((0 * 10 + (48 + m % 10 - 48)) * 10 + (48 - 48)) = 10 * m
    omega
  rw [e1] at h2
  exact h2

theorem st_add (a b : List UInt8) : st a ++ st b = st (a ++ b) := by
  rw [st_append]

/-- what Tokens answers of a text that is one token -/
theorem tokens_one {l : List UInt8} {k N : Nat} (ht : tokL l = .ok [((k, l, N), 0)]) (hl : l.length ≤ 20) (W : World) :
    Calls Tryd.prog 6 #[.string (st l)] W fun e w' => ∃ g cap, e = .returned (.tuple #[.slice (some ⟨g, 0, none⟩) 1 cap, .int .i64 0, .int .i64 0]) ∧ w'.cell? ⟨g, 0, none⟩ = some (.int .i64 (k : Int)) ∧ w'.cell? ⟨g, 1, none⟩ = some (.string (st l)) ∧ w'.cell? ⟨g, 2, none⟩ = some (.int .i64 (N : Int)) ∧ g < w'.heap.size ∧ Below W.heap.size W w' := by
  refine (tokens_any l W (by omega)).mono ?_
  rintro e w' ⟨h, hb⟩
  rw [ht] at h
  obtain ⟨v, he, ho⟩ := h
  obtain ⟨g, cap, hv, hc⟩ := tok_row ho (by simp)
  have hg := (ho.lt g (by rw [hv]; rfl)).2
  exact ⟨g, cap, by rw [he, hv]; rfl, hc 0 _ rfl, hc 1 _ rfl, hc 2 _ rfl, hg, hb⟩

theorem tokens_bad {l : List UInt8} {p x : Nat} (ht : tokL l = .error (p, x)) (hl : l.length ≤ 20) (W : World) :
    Calls Tryd.prog 6 #[.string (st l)] W fun e w' => e = .returned (.tuple #[.slice none 0 0, .int .i64 (p : Int), .int .i64 (x : Int)]) ∧ Below W.heap.size W w' := by
  refine (tokens_any l W (by omega)).mono ?_
  rintro e w' ⟨h, hb⟩
  rw [ht] at h
  exact ⟨h, hb⟩
end Go.Proofs.YtiigpkbgapegoaaDoor
