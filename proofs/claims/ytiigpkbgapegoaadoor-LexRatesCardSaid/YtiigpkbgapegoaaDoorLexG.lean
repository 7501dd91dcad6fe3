/-
  Contracts of the law's own functions: digits, lives.
-/
import Derived.Test.YtiigpkbgapegoaaDoorLexD
import Derived.Test.YtiigpkbgapegoaaDoorLexF
namespace Go.Proofs.YtiigpkbgapegoaaDoor
open Go.RowKit

theorem enc_fig (n : Nat) : Utf8.encode (48 + (n : Int) % 10) = st [figL (n % 10)] := by
  obtain ⟨d, hd⟩ : ∃ d, d = n % 10 := ⟨_, rfl⟩
  have hl : d < 10 := by omega
  rw [show (n : Int) % 10 = (d : Int) by omega, ← hd]
  clear hd
  match d, hl with
  | 0, _ => rfl
  | 1, _ => rfl
  | 2, _ => rfl
  | 3, _ => rfl
  | 4, _ => rfl
  | 5, _ => rfl
  | 6, _ => rfl
  | 7, _ => rfl
  | 8, _ => rfl
  | 9, _ => rfl
  | d + 10, h => omega

set_option maxHeartbeats 1000000 in
set_option maxRecDepth 100000 in
theorem digits_any : ∀ (k n : Nat) (w : World), n ≤ k → n ≤ 100000000 →
    Calls Tryd.prog 5 #[.int .i64 (n : Int)] w fun e w' => e = .returned (.string (st (digL n))) ∧ w = w' := by
  have hlo : ∀ (n : Nat) (w : World), n < 10 → Calls Tryd.prog 5 #[.int .i64 (n : Int)] w fun e w' => e = .returned (.string (st (digL n))) ∧ w = w' := by
    intro n w h
    have HR : Hid (digL n = [figL (n % 10)]) := by show _ = _; rw [digL_lo h, Nat.mod_eq_of_lt h]
    have he := enc_fig n
    obtain ⟨y, hy⟩ : ∃ y, (48 : Int) + (n : Int) % 10 = y := ⟨_, rfl⟩
    rw [hy] at he
    have y0 : 48 ≤ y := by omega
    have y1 : y ≤ 57 := by omega
    obtain ⟨T, hT⟩ : ∃ T, T = st [figL (n % 10)] := ⟨_, rfl⟩
    rw [← hT] at he
    have HT := Lib.hid hT
    clear hT
    go_enter Tryd.func5, Tryd.ntmps5
    go_wp2_with (fail)
    go_ret
    exact ⟨by rw [HR.out, ← HT.out]; rfl, rfl⟩
  intro k
  induction k with
  | zero => intro n w hk hn; exact hlo n w (by omega)
  | succ k ih =>
    intro n w hk hn
    by_cases h : n < 10
    · exact hlo n w h
    · have HR : Hid (digL n = digL (n / 10) ++ [figL (n % 10)]) := digL_hi h
      have he := enc_fig n
      obtain ⟨y, hy⟩ : ∃ y, (48 : Int) + (n : Int) % 10 = y := ⟨_, rfl⟩
      rw [hy] at he
      have y0 : 48 ≤ y := by omega
      have y1 : y ≤ 57 := by omega
      have HI : ∀ W, Hid (Calls Tryd.prog 5 #[.int .i64 ((n : Int) / 10)] W fun e w' => e = .returned (.string (st (digL (n / 10)))) ∧ W = w') := fun W => ih (n / 10) W (by omega) (by omega)
      have hlen := (digL_len 8 (n / 10) (by omega)).2
      have hs1 := st_size (digL (n / 10))
      have hs2 : (st [figL (n % 10)]).size = 1 := by rw [st_size]; rfl
      have hsum := st_append (digL (n / 10)) [figL (n % 10)]
      rw [← HR.out] at hsum
      obtain ⟨T, hT⟩ : ∃ T, T = st [figL (n % 10)] := ⟨_, rfl⟩
      obtain ⟨U, hU⟩ : ∃ U, U = st (digL (n / 10)) := ⟨_, rfl⟩
      rw [← hT] at he hs2 hsum
      rw [← hU] at HI hs1 hsum
      have hz : ¬ 9223372036854775807 < U.size + T.size := by omega
      clear ih hT hU hs1 hs2 hlen HR
      go_enter Tryd.func5, Tryd.ntmps5
      go_wp2_with (first | (go_at_call 5; with_reducible refine (HI _).out.mono ?_; rintro e w' ⟨rfl, rfl⟩) | fail)
      go_ret
      exact ⟨rfl, rfl⟩

/-- what a text of tokens hands over: the row, and its cells -/
theorem tok_row {w : World} {B : Nat} {v : Value} {ts : List (Tk × Nat)} (h : w.ownsRow B 31 4 v ts.length (ts.flatMap tkC)) (hn : 0 < ts.length) :
    ∃ g cap, v = .slice (some ⟨g, 0, none⟩) ts.length cap ∧ ∀ j u, (ts.flatMap tkC)[j]? = some u → w.cell? ⟨g, j, none⟩ = some u := by
  obtain ⟨g, cap, hv, _⟩ := h.form hn
  refine ⟨g, cap, hv, fun j u hj => ?_⟩
  have := h.cells (g := g) (by rw [hv]; rfl) j u hj
  have e2 : (⟨g, 0, none⟩ : Addr).add j = ⟨g, j, none⟩ := by
    unfold Addr.add
    by_cases e0 : j = 0
    · subst e0; rfl
    · simp [e0]
  rw [← e2]
  exact this

theorem lives_toks : tokL [116, 105, 101, 114, 32, 48, 32, 50, 46, 57, 37, 59] = .ok [((0, [116, 105, 101, 114], 0), 0), ((1, [48], 0), 5), ((2, [50, 46, 57, 37], 290), 7), ((3, [59], 0), 11)] := by kernel_rfl

set_option maxHeartbeats 1000000 in
theorem lives_any (w : World) : Calls Tryd.prog 4 #[] w fun e w' => e = .returned (.bool true) ∧ Below w.heap.size w w' := by
  have HT : ∀ W, Hid (Calls Tryd.prog 6 #[.string ⟨#[116, 105, 101, 114, 32, 48, 32, 50, 46, 57, 37, 59]⟩] W fun e w' => ∃ g cap, e = .returned (.tuple #[.slice (some ⟨g, 0, none⟩) 4 cap, .int .i64 0, .int .i64 0]) ∧ w'.cell? ⟨g, 10, none⟩ = some (.int .i64 290) ∧ w'.cell? ⟨g, 8, none⟩ = some (.int .i64 2) ∧ w'.cell? ⟨g, 12, none⟩ = some (.int .i64 3) ∧ Below W.heap.size W w') := fun W => by
    refine (tokens_any [116, 105, 101, 114, 32, 48, 32, 50, 46, 57, 37, 59] W (by decide)).mono ?_
    rintro e w' ⟨h, hb⟩
    rw [lives_toks] at h
    obtain ⟨v, he, ho⟩ := h
    obtain ⟨g, cap, hv, hc⟩ := tok_row ho (by decide)
    exact ⟨g, cap, by rw [he, hv]; rfl, hc 10 _ rfl, hc 8 _ rfl, hc 12 _ rfl, hb⟩
  go_enter Tryd.func4, Tryd.ntmps4
  go_wp2_with (first | (go_at_call 6; with_reducible refine (HT _).out.mono ?_; rintro e w1 ⟨g, cap, rfl, c0, c1, c2, hb⟩; have HB := Lib.hid hb; clear hb) | fail)
  go_ret
  exact ⟨rfl, HB.out⟩
end Go.Proofs.YtiigpkbgapegoaaDoor
