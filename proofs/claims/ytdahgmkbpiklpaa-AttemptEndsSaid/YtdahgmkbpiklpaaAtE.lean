/-
  Plain: a payout is over thirty ticks on, if its gateway accepts, and tells at once.
-/
import Derived.Test.YtdahgmkbpiklpaaAtK
namespace Go.Proofs.Ytdahgmkbpiklpaa
open Go.RowKit

/-- something is done ten ticks on, at most -/
theorem next_hear {p : Py} {now : Int} (h : p.next ≤ now + 10) (k : List UInt8) (a : Int) : (hearP p k a now).next ≤ now + 10 := by
  have hb := bkoI_le p.tries
  unfold hearP
  repeat' split
  all_goals (try simp only) <;> omega
theorem next_go {p : Py} {now : Int} : (goP p now).next ≤ now + 10 := by
  have hb := bkoI_le p.tries
  unfold goP
  repeat' split
  all_goals (try simp only) <;> omega
theorem next_late {p : Py} {now : Int} (h : p.next ≤ now + 10) (Q : List Rp) (c : Nat) : (lateP p Q now c).next ≤ now + 10 := by
  unfold lateP
  split
  · exact next_hear h _ _
  · exact h
theorem next_heard {now : Int} : ∀ {A : List Rp} {p : Py}, p.next ≤ now + 10 → (heardP p now A).next ≤ now + 10
  | [], p, h => h
  | x :: r, p, h => by
    have h1 := next_heard (now := now) (A := r) (next_hear h x.2.1 x.2.2)
    unfold heardP at h1 ⊢
    rw [List.foldl_cons]
    exact h1
theorem next_round {s : Rn} {now : Int} (h : s.p.next ≤ now + 10) (c : Nat) : (roundR now c s).p.next ≤ now + 10 := by
  unfold roundR
  split
  · exact next_late h _ _
  · exact next_heard next_go
theorem next_run {f : Nat → Nat} {s : Rn} (h : s.p.next ≤ 0) : ∀ k : Nat, (runR f 0 s k).p.next ≤ (k : Int) + 9
  | 0 => by unfold runR; omega
  | k + 1 => by
    have h1 := next_run (f := f) h k
    unfold runR
    have h2 := next_round (s := runR f 0 s k) (now := 0 + (k : Int)) (by omega) (f k)
    omega

theorem told_one (x : Rp) : told 1 x = [x] := rfl
theorem late_one (p : Py) (Q : List Rp) (now : Int) : lateP p Q now 1 = p := by
  unfold lateP
  rw [if_neg (fun h => absurd h.2 (by decide))]
theorem off_one {r : Rq} (h : r.1 = kPay ∨ r.1 = kQuery) : offB r 1 = false := by
  unfold offB
  rcases h with h | h <;> rw [h] <;> decide
theorem goR_kind (p : Py) : (goR p).1 = kPay ∨ (goR p).1 = kQuery := by
  unfold goR
  split
  · exact .inl rfl
  · exact .inr rfl
theorem ask_one {r : Rq} {L : List Rc} (h : r.1 = kPay ∨ r.1 = kQuery) : askA r (1 % 8) L = [repl r 1 L] ∧ askL r (1 % 8) L = recs r 1 L := by
  unfold askA askL
  rw [show 1 % 8 = 1 from rfl, off_one h]
  exact ⟨rfl, rfl⟩

theorem hear_over {p : Py} (ho : overB p.state = false) {k : List UInt8} (hk : k = kAcc ∨ k = kDec) (a now : Int) : overB (hearP p k a now).state = true := by
  unfold hearP
  rw [ho]
  simp only [Bool.false_eq_true, if_false]
  rcases hk with rfl | rfl
  · rfl
  · rfl
theorem kn_some {A : Int} {L : List Rc} (hL : L = [] ∨ ∃ mv, L = [recA A mv]) (hn : L ≠ []) : kn L = kAcc ∨ kn L = kDec := by
  rcases hL with h | ⟨mv, rfl⟩
  · exact absurd h hn
  · rw [kn_one]
    cases mv
    · exact .inr rfl
    · exact .inl rfl

/-- what a tick does, if it is not too early, and the gateway accepts, and tells at once -/
theorem tick_one {A : Int} {p : Py} {L : List Rc} {Q : List Rp} (h : Inv A p L Q) {now : Int} (ho : overB p.state = false) (hn : p.next ≤ now) :
    (p.state = kReady → overB (roundR now 1 ⟨p, L, Q⟩).p.state = true) ∧ (overB (roundR now 1 ⟨p, L, Q⟩).p.state = true ∨ ((roundR now 1 ⟨p, L, Q⟩).p.state = kReady ∧ (roundR now 1 ⟨p, L, Q⟩).p.next ≤ now + 8)) := by
  have hid : idleB p now = false := by unfold idleB; rw [ho, decide_eq_false (by omega)]; rfl
  obtain ⟨e1, e2⟩ := ask_one (L := L) (goR_kind p)
  rw [round_go (late_one p Q now).symm hid, e1]
  simp only
  have hh : heardP (goP p now) now [repl (goR p) 1 L] = hearP (goP p now) (repl (goR p) 1 L).2.1 (repl (goR p) 1 L).2.2 now := rfl
  rw [hh]
  have hk : (repl (goR p) 1 L).2.1 = kn (recs (goR p) 1 L) := by unfold repl kn; rw [h.ofK.1]
  have ha : (repl (goR p) 1 L).2.2 = p.att + 1 := rfl
  obtain ⟨g1, g2, g3, g4⟩ := recs_kn h.ofK h.rc 1
  obtain ⟨i1, i2⟩ := h.go ho now
  have hgo : overB (goP p now).state = false := by
    rcases i2 with e | e <;> rw [e] <;> rfl
  have hsome : recs (goR p) 1 L ≠ [] → overB (hearP (goP p now) (repl (goR p) 1 L).2.1 (repl (goR p) 1 L).2.2 now).state = true := fun hne => by
    refine hear_over hgo ?_ _ _
    rw [hk]
    exact kn_some g1 hne
  by_cases hr : p.state = kReady
  · have hp : (goR p).1 = kPay := by unfold goR; rw [if_pos hr]
    exact ⟨fun _ => hsome (g3 hp), .inl (hsome (g3 hp))⟩
  · refine ⟨fun e => absurd e hr, ?_⟩
    by_cases hne : recs (goR p) 1 L = []
    · right
      have hkn : (repl (goR p) 1 L).2.1 = kUnk := by rw [hk, hne]; rfl
      rw [hkn, ha]
      have hst : (goP p now).state = kQueried ∧ (goP p now).att = p.att + 1 := by
        have hs := i2
        unfold goP at hs ⊢
        rw [if_neg hr] at hs ⊢
        split
        · exact ⟨rfl, rfl⟩
        · rename_i h2
          rw [if_neg h2] at hs
          refine ⟨?_, rfl⟩
          rcases hs with e | e
          · exact absurd e h2
          · exact e
      have hb := bkoI_le (goP p now).tries
      have hredo : redoB (goP p now) kUnk (p.att + 1) = true := by
        unfold redoB
        rw [hst.1, hst.2, decide_eq_true rfl, decide_eq_true rfl, decide_eq_true rfl]; rfl
      unfold hearP
      rw [hgo, if_neg (by decide), if_neg (by decide), if_neg (by decide), hredo, if_pos rfl]
      exact ⟨rfl, by simp only; omega⟩
    · exact .inl (hsome hne)

/-- where a payout stands, so many ticks on -/
def EndP (n j : Nat) (p : Py) : Prop := overB p.state = true ∨ (p.state = kReady ∧ p.next ≤ (n : Int) + 17 ∧ j ≤ 17) ∨ (p.next ≤ (n : Int) + 9 ∧ j ≤ 9)

theorem end_step {A : Int} {p : Py} {L : List Rc} {Q : List Rp} (h : Inv A p L Q) {n j : Nat} (he : EndP n j p) : EndP n (j + 1) (roundR ((n : Int) + (j : Int)) 1 ⟨p, L, Q⟩).p := by
  cases ho : overB p.state with
  | true =>
    have hid : idleB p ((n : Int) + (j : Int)) = true := by unfold idleB; rw [ho]; rfl
    rw [round_idle (late_one p Q _).symm hid]
    exact .inl ho
  | false =>
    by_cases hn : p.next ≤ (n : Int) + (j : Int)
    · obtain ⟨t1, t2⟩ := tick_one h ho hn
      rcases he with e | ⟨e1, e2, e3⟩ | ⟨e1, e2⟩
      · rw [ho] at e; cases e
      · exact .inl (t1 e1)
      · rcases t2 with t | ⟨t, t3⟩
        · exact .inl t
        · exact .inr (.inl ⟨t, by omega, by omega⟩)
    · have hid : idleB p ((n : Int) + (j : Int)) = true := by unfold idleB; rw [decide_eq_true (by omega)]; simp
      rw [round_idle (late_one p Q _).symm hid]
      simp only
      rcases he with e | ⟨e1, e2, e3⟩ | ⟨e1, e2⟩
      · exact .inl e
      · exact .inr (.inl ⟨e1, e2, by omega⟩)
      · exact .inr (.inr ⟨e1, by omega⟩)

theorem end_run {A : Int} {f : Nat → Nat} {n : Nat} {s : Rn} (h : Inv A s.p s.L s.Q) (hn : s.p.next ≤ (n : Int) + 9) : ∀ k : Nat, (∀ i, i < k → f i = 1) → EndP n k (runR f n s k).p
  | 0, _ => .inr (.inr ⟨hn, by omega⟩)
  | k + 1, hf => by
    have h1 := end_run (f := f) h hn k (fun i hi => hf i (by omega))
    unfold runR
    rw [hf k (by omega)]
    exact end_step (Inv.run h k) h1

/-- whatever the gateway decides from then on, it accepts -/
def NewP (A : Int) (L : List Rc) : Prop := L = [] ∨ L = [recA A true]
theorem new_round {A : Int} {p : Py} {L : List Rc} {Q : List Rp} (h : Inv A p L Q) (hl : NewP A L) (now : Int) : NewP A (roundR now 1 ⟨p, L, Q⟩).L := by
  cases hid : idleB p now with
  | true =>
    rw [round_idle (late_one p Q _).symm hid]
    exact hl
  | false =>
    rw [round_go (late_one p Q now).symm hid]
    simp only
    rw [(ask_one (L := L) (goR_kind p)).2]
    rcases hl with rfl | rfl
    · exact (recs_kn h.ofK (.inl rfl) 1).2.2.2 rfl
    · rw [recs_has (by rw [h.ofK.1]; rfl)]
      exact .inr rfl
theorem new_run {A : Int} {f : Nat → Nat} {fr : Int} {s : Rn} (h : Inv A s.p s.L s.Q) (hl : NewP A s.L) : ∀ k : Nat, (∀ i, i < k → f i = 1) → NewP A (runR f fr s k).L
  | 0, _ => hl
  | k + 1, hf => by
    have h1 := new_run (f := f) (fr := fr) h hl k (fun i hi => hf i (by omega))
    unfold runR
    rw [hf k (by omega)]
    exact new_round (Inv.run h k) h1 _

/-- thirty ticks on -/
theorem end_all {A : Int} {f : Nat → Nat} {n : Nat} {s : Rn} (h : Inv A s.p s.L s.Q) (hn : s.p.next ≤ (n : Int) + 9) (hf : ∀ i, i < 30 → f i = 1) (T : Rn) (hT : T = runR f n s 30) :
    Inv A T.p T.L T.Q ∧ ((T.p.state = kPaid ∧ T.L = [recA A true]) ∨ (T.p.state = kBack ∧ T.L = [recA A false] ∧ s.L ≠ [])) := by
  have h1 := Inv.run (f := f) (fr := n) h 30
  have h2 := end_run (f := f) h hn 30 hf
  have h3 := fun hl => new_run (f := f) (fr := n) h hl 30 hf
  rw [← hT] at h1 h2 h3
  refine ⟨h1, ?_⟩
  rcases h2 with e | ⟨_, _, e⟩ | ⟨_, e⟩
  · rcases overB_eq.1 e with e | e
    · exact .inl ⟨e, h1.acc (h1.paid e)⟩
    · have hL := h1.dec (h1.back e)
      refine .inr ⟨e, hL, fun h0 => ?_⟩
      rcases h3 (.inl h0) with e2 | e2
      · rw [hL] at e2; cases e2
      · rw [hL] at e2
        simp [recA] at e2
  · omega
  · omega
end Go.Proofs.Ytdahgmkbpiklpaa
