/-
  Contract of lex.hundredths; what a rate's end is.
-/
import Derived.Test.YtjegfoeempojiaaDoorLexB
namespace Go.Proofs.YtjegfoeempojiaaDoor
open Go.RowKit

theorem trimS_fig (f : List UInt8) (hf : ∀ c ∈ f, isFig c = true) (h1 : 1 ≤ f.length) : Go.Lib.trimS (46 :: (f ++ [37])) [46, 37] = f := by
  have hnc : ∀ c, isFig c = true → ([46, 37] : List UInt8).contains c = false := by
    intro c hc
    simp only [isFig, Bool.and_eq_true, decide_eq_true_eq] at hc
    have k1 : ¬ c = 46 := by intro e; subst e; exact absurd hc.1 (by decide)
    have k2 : ¬ c = 37 := by intro e; subst e; exact absurd hc.1 (by decide)
    simp [k1, k2]
  have hrev : f.reverse ≠ [] := by intro e; have := congrArg List.length e; simp at this; rw [this] at h1; simp at h1
  have e1 : Go.Lib.trimRightS (46 :: (f ++ [37])) [46, 37] = 46 :: f := by
    unfold Go.Lib.trimRightS
    rw [show (46 :: (f ++ [37])).reverse = 37 :: (f.reverse ++ [46]) by simp]
    rw [List.dropWhile_cons, if_pos (by decide)]
    cases hr : f.reverse with
    | nil => exact absurd hr hrev
    | cons c q =>
      rw [List.cons_append, List.dropWhile_cons, hnc c (hf c (by rw [← List.mem_reverse, hr]; exact List.mem_cons_self)), if_neg (by simp)]
      rw [← List.cons_append, ← hr]
      simp
  unfold Go.Lib.trimS
  rw [e1]
  unfold Go.Lib.trimLeftS
  rw [List.dropWhile_cons, if_pos (by decide)]
  cases f with
  | nil => rfl
  | cons c q => rw [List.dropWhile_cons, hnc c (hf c List.mem_cons_self), if_neg (by simp)]

theorem mem_takeWhile_fig {p : UInt8 → Bool} : ∀ {l : List UInt8} {c : UInt8}, c ∈ l.takeWhile p → p c = true
  | [], _, h => by simp at h
  | x :: r, c, h => by
    rw [List.takeWhile_cons] at h
    cases hx : p x with
    | true =>
      rw [hx] at h
      simp at h
      rcases h with rfl | h
      · exact hx
      · exact mem_takeWhile_fig h
    | false => rw [hx] at h; simp at h

theorem drop_takeWhile {p : UInt8 → Bool} : ∀ (l : List UInt8), l.drop (l.takeWhile p).length = l.dropWhile p
  | [] => rfl
  | c :: r => by
    rw [List.takeWhile_cons, List.dropWhile_cons]
    cases p c with
    | true => exact drop_takeWhile r
    | false => rfl

theorem take_one_more (f q : List UInt8) (x : UInt8) : (f ++ x :: q).take (f.length + 1) = f ++ [x] := by
  rw [List.take_append, List.take_of_length_le (by omega)]
  simp

/-- what a rate's end is -/
theorem rEnd_cases (l : List UInt8) (h : rEnd l ≠ []) : ∃ f : List UInt8, (∀ c ∈ f, isFig c = true) ∧ f.length ≤ 2 ∧ Go.Lib.trimS (rEnd l) [46, 37] = f ∧ (rEnd l).length ≤ 4 ∧ (rEnd l).length ≤ l.length ∧ rEnd l = l.take (rEnd l).length := by
  cases l with
  | nil => exact absurd rfl h
  | cons c r =>
    by_cases h1 : c = 37
    · subst h1
      exact ⟨[], by simp, by simp, by show Go.Lib.trimS [37] [46, 37] = []; decide, by show (1 : Nat) ≤ 4; decide, by show (1 : Nat) ≤ _; simp, rfl⟩
    by_cases h2 : c = 46
    · subst h2
      obtain ⟨f, hf⟩ : ∃ f, f = r.takeWhile isFig := ⟨_, rfl⟩
      have e0 : rEnd (46 :: r) = if f.length < 1 ∨ 2 < f.length ∨ (r.drop f.length).head? ≠ some 37 then [] else (46 :: r).take (f.length + 2) := by rw [hf]; rfl
      by_cases hc : f.length < 1 ∨ 2 < f.length ∨ (r.drop f.length).head? ≠ some 37
      · rw [if_pos hc] at e0; exact absurd e0 h
      · rw [if_neg hc] at e0
        have c1 : 1 ≤ f.length := by omega
        have c2 : f.length ≤ 2 := by omega
        have c3 : (r.drop f.length).head? = some 37 := by
          rcases Decidable.em ((r.drop f.length).head? = some 37) with k | k
          · exact k
          · exact absurd (.inr (.inr k)) hc
        have hfig : ∀ c ∈ f, isFig c = true := by intro c hc; rw [hf] at hc; exact mem_takeWhile_fig hc
        have hd : r = f ++ r.drop f.length := by
          have := List.takeWhile_append_dropWhile (p := isFig) (l := r)
          have e2 : r.drop f.length = r.dropWhile isFig := by rw [hf]; exact drop_takeWhile r
          rw [e2, hf]; exact this.symm
        cases hq : r.drop f.length with
        | nil => rw [hq] at c3; simp at c3
        | cons x q =>
          rw [hq] at c3 hd
          simp at c3
          subst c3
          have e3 : rEnd (46 :: r) = 46 :: (f ++ [37]) := by
            rw [e0, hd, List.take_succ_cons]
            congr 1
            exact take_one_more f q 37
          refine ⟨f, hfig, c2, by rw [e3]; exact trimS_fig f hfig c1, by rw [e3]; simp; omega, by rw [e3, hd]; simp, ?_⟩
          rw [e3, hd]
          show 46 :: (f ++ [37]) = (46 :: (f ++ 37 :: q)).take ((f ++ [37]).length + 1)
          rw [List.take_succ_cons, List.length_append]
          exact congrArg _ (take_one_more f q 37).symm
    · exact absurd (show (if c = 37 then _ else if c = 46 then _ else _) = _ by rw [if_neg h1, if_neg h2]) h

theorem huL_lt (l : List UInt8) (h : rEnd l ≠ []) : huL (rEnd l) < 100 := by
  obtain ⟨f, hf, h2, e, _⟩ := rEnd_cases l h
  unfold huL
  rw [e]
  have := woL_lt _ ((f ++ [48, 48]).take 2) rfl (fun c hc => by
    have := List.mem_of_mem_take hc
    rcases List.mem_append.1 this with k | k
    · exact hf c k
    · simp at k; subst k; decide)
  have e2 : ((f ++ [48, 48]).take 2).length = 2 := by simp
  rw [e2] at this
  exact this

set_option maxHeartbeats 1000000 in
/-- hundredths: how many of them a rate's end says -/
theorem hund_any (e f : List UInt8) (w : World) (hf : ∀ c ∈ f, isFig c = true) (h2 : f.length ≤ 2) (ht : Go.Lib.trimS e [46, 37] = f) (hl : e.length ≤ 4) :
    Calls Tryd.prog 41 #[.string (st e)] w fun x w' => x = .returned (.int .i64 ((huL e : Nat) : Int)) ∧ Below w.heap.size w w' := by
  have HT : ∀ W, Hid (Calls Tryd.prog 50 #[.string (st e), .string ⟨#[46, 37]⟩] W fun x w' => x = .returned (.string (st f)) ∧ Below W.heap.size W w') := fun W => by
    have := Any.strings_Trim_laid Tryd.lays160 (by kernel_rfl) (st e) ⟨#[46, 37]⟩ W (by rw [st_size]; omega) (by decide) (ascii_of_all (by decide))
    rw [st_toList, show (ByteArray.mk #[46, 37]).data.toList = [46, 37] from rfl, ht] at this
    exact this
  have hex : (st f ++ ⟨#[48, 48]⟩ : ByteArray).extract 0 2 = st ((f ++ [48, 48]).take 2) := by
    rw [show (⟨#[48, 48]⟩ : ByteArray) = st [48, 48] from rfl, st_append, st_extract]; rfl
  have hsz : (st f ++ ⟨#[48, 48]⟩ : ByteArray).size = f.length + 2 := by
    rw [show (⟨#[48, 48]⟩ : ByteArray) = st [48, 48] from rfl, st_append, st_size]; simp
  have hsf := st_size f
  have HW : ∀ W, Hid (Calls Tryd.prog 39 #[.string (st ((f ++ [48, 48]).take 2))] W fun x w' => x = .returned (.int .i64 ((huL e : Nat) : Int)) ∧ W = w') := fun W => by
    have := worth_any ((f ++ [48, 48]).take 2) W (by simp) (fun c hc => by
      have := List.mem_of_mem_take hc
      rcases List.mem_append.1 this with k | k
      · exact hf c k
      · simp at k; subst k; decide)
    rw [← ht] at this
    rw [← ht]
    exact this
  clear ht hl hf
  generalize f.length = n at hsz hsf h2
  go_enter Tryd.func41, Tryd.ntmps41
  go_wp2_with (first | (go_at_call 50; refine (HT _).out.mono ?_; rintro x w1 ⟨rfl, B1⟩) | (go_at_call 39; with_reducible refine (HW _).out.mono ?_; rintro x w2 ⟨rfl, rfl⟩) | fail)
  go_ret
  exact ⟨rfl, B1⟩
end Go.Proofs.YtjegfoeempojiaaDoor
