/-
  Plain: a payout with a gateway, tick by tick.
-/
import Derived.Test.YtdahgmkbpiklpaaAtP
import Derived.Test.YtdahgmkbpiklpaaGtU
namespace Go.Proofs.Ytdahgmkbpiklpaa
open Go.RowKit

/-- a payout, the records, the late replies -/
structure Rn where
  p : Py
  L : List Rc
  Q : List Rp

/-- the late reply that is taken, and is there one? -/
def lateX (i : Nat) (Q : List Rp) : Rp := Q.getD i ([], [], 0)
def lateB (i : Nat) (Q : List Rp) : Bool := decide (i < Q.length)
def lateP (p : Py) (Q : List Rp) (now : Int) (c : Nat) : Py :=
  if lateB (c / 8 % 4) Q = true ∧ 128 ≤ c then hearP p (lateX (c / 8 % 4) Q).2.1 (lateX (c / 8 % 4) Q).2.2 now else p
def heardP (p : Py) (now : Int) (A : List Rp) : Py := A.foldl (fun p x => hearP p x.2.1 x.2.2 now) p
def roundR (now : Int) (c : Nat) (s : Rn) : Rn :=
  if idleB (lateP s.p s.Q now c) now then ⟨lateP s.p s.Q now c, s.L, s.Q.eraseIdx (c / 8 % 4)⟩
  else ⟨heardP (goP (lateP s.p s.Q now c) now) now (askA (goR (lateP s.p s.Q now c)) (c % 8) s.L), askL (goR (lateP s.p s.Q now c)) (c % 8) s.L, askQ (goR (lateP s.p s.Q now c)) (c % 8) s.L (s.Q.eraseIdx (c / 8 % 4))⟩
def runR (f : Nat → Nat) (from' : Int) (s : Rn) : Nat → Rn
  | 0 => s
  | k + 1 => roundR (from' + (k : Int)) (f k) (runR f from' s k)

theorem round_idle {now : Int} {c : Nat} {p p1 : Py} {L : List Rc} {Q : List Rp} (h1 : p1 = lateP p Q now c) (h : idleB p1 now = true) : roundR now c ⟨p, L, Q⟩ = ⟨p1, L, Q.eraseIdx (c / 8 % 4)⟩ := by
  subst h1
  unfold roundR
  simp only
  rw [if_pos h]
theorem round_go {now : Int} {c : Nat} {p p1 : Py} {L : List Rc} {Q : List Rp} (h1 : p1 = lateP p Q now c) (h : idleB p1 now = false) :
    roundR now c ⟨p, L, Q⟩ = ⟨heardP (goP p1 now) now (askA (goR p1) (c % 8) L), askL (goR p1) (c % 8) L, askQ (goR p1) (c % 8) L (Q.eraseIdx (c / 8 % 4))⟩ := by
  subst h1
  unfold roundR
  simp only
  rw [if_neg (by rw [h]; decide)]

/-- its numbers are no more than that -/
def Bd (M : Int) (p : Py) : Prop := 0 ≤ p.tries ∧ p.tries ≤ M ∧ 0 ≤ p.att ∧ p.att ≤ M
theorem Bd.less {M M' : Int} {p : Py} (h : Bd M p) (hm : M ≤ M') : Bd M' p := by unfold Bd at *; omega
theorem Bd.hear {M : Int} {p : Py} (h : Bd M p) (k : List UInt8) (a now : Int) : Bd (M + 1) (hearP p k a now) := by
  unfold Bd at *
  unfold hearP
  repeat' split
  all_goals (try simp only) <;> omega
theorem Bd.go {M : Int} {p : Py} (h : Bd M p) (now : Int) : Bd (M + 1) (goP p now) := by
  unfold Bd at *
  unfold goP
  repeat' split
  all_goals (try simp only) <;> omega
theorem Bd.late {M : Int} {p : Py} (h : Bd M p) (Q : List Rp) (now : Int) (c : Nat) : Bd (M + 1) (lateP p Q now c) := by
  unfold lateP
  split
  · exact h.hear _ _ _
  · exact h.less (by omega)
theorem Bd.heard {now : Int} : ∀ {A : List Rp} {M : Int} {p : Py}, Bd M p → Bd (M + A.length) (heardP p now A)
  | [], M, p, h => by unfold heardP; simpa using h
  | x :: r, M, p, h => by
    have h1 := Bd.heard (now := now) (A := r) (h.hear x.2.1 x.2.2 now)
    rw [List.length_cons]
    unfold heardP at h1 ⊢
    rw [List.foldl_cons]
    exact h1.less (by omega)
theorem Bd.round {M : Int} {s : Rn} (h : Bd M s.p) (now : Int) (c : Nat) : Bd (M + 4) (roundR now c s).p := by
  unfold roundR
  split
  · exact (h.late _ _ _).less (by omega)
  · have h1 := askA_len (goR (lateP s.p s.Q now c)) (c % 8) s.L
    exact (((h.late s.Q now c).go now).heard (now := now) (A := askA (goR (lateP s.p s.Q now c)) (c % 8) s.L)).less (by omega)
theorem out_le (Q : List Rp) (i : Nat) : (Q.eraseIdx i).length ≤ Q.length := List.length_eraseIdx_le _ _
theorem round_len (now : Int) (c : Nat) (s : Rn) : (roundR now c s).L.length ≤ s.L.length + 1 ∧ (roundR now c s).Q.length ≤ s.Q.length + 1 := by
  have hq := out_le s.Q (c / 8 % 4)
  unfold roundR
  split
  · exact ⟨by simp only; omega, by simp only; omega⟩
  · have h1 := (askL_len (goR (lateP s.p s.Q now c)) (c % 8) s.L).2
    have h2 := askQ_len (goR (lateP s.p s.Q now c)) (c % 8) s.L (s.Q.eraseIdx (c / 8 % 4))
    exact ⟨by simp only; omega, by simp only; omega⟩
theorem run_few {f : Nat → Nat} {fr M : Int} {s : Rn} (h : Bd M s.p) : ∀ k : Nat, Bd (M + 4 * (k : Int)) (runR f fr s k).p ∧ (runR f fr s k).L.length ≤ s.L.length + k ∧ (runR f fr s k).Q.length ≤ s.Q.length + k
  | 0 => ⟨h.less (by omega), by unfold runR; omega, by unfold runR; omega⟩
  | k + 1 => by
    obtain ⟨h1, h2, h3⟩ := run_few h k
    obtain ⟨g1, g2⟩ := round_len (fr + (k : Int)) (f k) (runR f fr s k)
    unfold runR
    exact ⟨(h1.round (fr + (k : Int)) (f k)).less (by omega), by omega, by omega⟩

theorem heard_more {p : Py} {now : Int} {A : List Rp} {q : Nat} {x : Rp} (h : A[q]? = some x) : heardP p now (A.take (q + 1)) = hearP (heardP p now (A.take q)) x.2.1 x.2.2 now := by
  rw [take_at h]
  unfold heardP
  rw [List.foldl_append]
  rfl
theorem heard_all {p : Py} {now : Int} {A : List Rp} {q : Nat} (h : A.length ≤ q) : heardP p now (A.take q) = heardP p now A := by rw [List.take_of_length_le h]
end Go.Proofs.Ytdahgmkbpiklpaa
