/-
  Plain: one payout with its gateway: what is told says what was decided; paid, or back, only so.
-/
import Derived.Test.YtdahgmkbpiklpaaAtG
namespace Go.Proofs.Ytdahgmkbpiklpaa
open Go.RowKit

def kK : List UInt8 := [107]
def kAnn : List UInt8 := [97, 110, 110]
def kEur : List UInt8 := [69, 85, 82]
/-- the payout's record -/
def recA (A : Int) (mv : Bool) : Rc := (kK, kAnn, kEur, A, mv)
/-- what is known of its key -/
def kn (L : List Rc) : List UInt8 := knd kK L
theorem kn_nil : kn [] = kUnk := rfl
theorem kn_one (A : Int) (mv : Bool) : kn [recA A mv] = if mv then kAcc else kDec := by cases mv <;> rfl

structure Inv (A : Int) (p : Py) (L : List Rc) (Q : List Rp) : Prop where
  key : p.key = kK
  party : p.party = kAnn
  cur : p.cur = kEur
  amt : p.amt = A
  five : p.state = kReady ∨ p.state = kAsked ∨ p.state = kQueried ∨ p.state = kPaid ∨ p.state = kBack
  rc : L = [] ∨ ∃ mv, L = [recA A mv]
  late : ∀ x ∈ Q, x.2.1 = kUnk ∨ x.2.1 = kn L
  paid : p.state = kPaid → kn L = kAcc
  back : p.state = kBack → kn L = kDec

theorem overB_eq {s : List UInt8} : overB s = true ↔ s = kPaid ∨ s = kBack := by
  unfold overB
  rw [Bool.or_eq_true, decide_eq_true_eq, decide_eq_true_eq]

section
variable {A : Int} {p : Py} {L : List Rc} {Q : List Rp}

theorem Inv.hear (h : Inv A p L Q) {k : List UInt8} (hk : k = kUnk ∨ k = kn L) (a now : Int) : Inv A (hearP p k a now) L Q := by
  unfold hearP
  split
  · exact h
  · split
    · rename_i h1
      refine ⟨h.key, h.party, h.cur, h.amt, .inr (.inr (.inr (.inl rfl))), h.rc, h.late, fun _ => ?_, (fun e => absurd (show kPaid = kBack from e) (by decide))⟩
      rcases hk with e | e
      · rw [h1] at e; exact absurd e (by decide)
      · rw [← e, h1]
    · split
      · rename_i h1
        refine ⟨h.key, h.party, h.cur, h.amt, .inr (.inr (.inr (.inr rfl))), h.rc, h.late, (fun e => absurd (show kBack = kPaid from e) (by decide)), fun _ => ?_⟩
        rcases hk with e | e
        · rw [h1] at e; exact absurd e (by decide)
        · rw [← e, h1]
      · split
        · exact ⟨h.key, h.party, h.cur, h.amt, .inl rfl, h.rc, h.late, (fun e => absurd (show kReady = kPaid from e) (by decide)), (fun e => absurd (show kReady = kBack from e) (by decide))⟩
        · exact h

theorem Inv.less (h : Inv A p L Q) {Q' : List Rp} (hq : ∀ x ∈ Q', x ∈ Q) : Inv A p L Q' := ⟨h.key, h.party, h.cur, h.amt, h.five, h.rc, fun x hx => h.late x (hq x hx), h.paid, h.back⟩

theorem Inv.taken (h : Inv A p L Q) (now : Int) (c : Nat) : Inv A (lateP p Q now c) L (Q.eraseIdx (c / 8 % 4)) := by
  have hq : ∀ x ∈ Q.eraseIdx (c / 8 % 4), x ∈ Q := fun x hx => List.mem_of_mem_eraseIdx hx
  unfold lateP
  split
  · rename_i hc
    have hi : c / 8 % 4 < Q.length := by
      have h1 := hc.1
      unfold lateB at h1
      exact of_decide_eq_true h1
    have hm : lateX (c / 8 % 4) Q ∈ Q := by
      unfold lateX
      rw [List.getD_eq_getElem?_getD, List.getElem?_eq_getElem hi]
      exact List.getElem_mem _
    exact (h.hear (h.late _ hm) _ _).less hq
  · exact h.less hq

theorem Inv.go (h : Inv A p L Q) (ho : overB p.state = false) (now : Int) : Inv A (goP p now) L Q ∧ ((goP p now).state = kAsked ∨ (goP p now).state = kQueried) := by
  have n1 : ¬ (p.state = kPaid ∨ p.state = kBack) := fun e => by rw [overB_eq.2 e] at ho; cases ho
  unfold goP
  split
  · exact ⟨⟨h.key, h.party, h.cur, h.amt, .inr (.inl rfl), h.rc, h.late, (fun e => absurd (show kAsked = kPaid from e) (by decide)), (fun e => absurd (show kAsked = kBack from e) (by decide))⟩, .inl rfl⟩
  · split
    · exact ⟨⟨h.key, h.party, h.cur, h.amt, .inr (.inr (.inl rfl)), h.rc, h.late, (fun e => absurd (show kQueried = kPaid from e) (by decide)), (fun e => absurd (show kQueried = kBack from e) (by decide))⟩, .inr rfl⟩
    · rename_i h1 h2
      refine ⟨⟨h.key, h.party, h.cur, h.amt, h.five, h.rc, h.late, h.paid, h.back⟩, .inr ?_⟩
      rcases h.five with e | e | e | e | e
      · exact absurd e h1
      · exact absurd e h2
      · exact e
      · exact absurd (.inl e) n1
      · exact absurd (.inr e) n1

/-- a request of this payout -/
def OfK (A : Int) (r : Rq) : Prop := r.2.1 = kK ∧ r.2.2.1 = kAnn ∧ r.2.2.2.1 = kEur ∧ r.2.2.2.2.1 = A
theorem Inv.ofK (h : Inv A p L Q) : OfK A (goR p) := ⟨h.key, h.party, h.cur, h.amt⟩

theorem has_rec (A : Int) (mv : Bool) : hasK kK [recA A mv] = true := rfl

theorem recs_kn {r : Rq} (hr : OfK A r) (hL : L = [] ∨ ∃ mv, L = [recA A mv]) (c : Nat) :
    (recs r c L = [] ∨ ∃ mv, recs r c L = [recA A mv]) ∧ (kn L = kUnk ∨ kn (recs r c L) = kn L) ∧ (r.1 = kPay → recs r c L ≠ []) ∧ (L = [] → recs r c L = [] ∨ recs r c L = [recA A (mvB c)]) := by
  obtain ⟨k, q, pa, cu, m, a⟩ := r
  obtain ⟨h1, h2, h3, h4⟩ := hr
  simp only at h1 h2 h3 h4
  subst h1 h2 h3 h4
  unfold recs
  rcases hL with rfl | ⟨mv, rfl⟩
  · split
    · exact ⟨.inr ⟨_, rfl⟩, .inl rfl, fun _ => by simp, fun _ => .inr rfl⟩
    · rename_i hn
      exact ⟨.inl rfl, .inl rfl, fun e => absurd ⟨e, rfl⟩ hn, fun _ => .inl rfl⟩
  · rw [if_neg (fun e => by have h := e.2; simp only at h; rw [has_rec] at h; cases h)]
    exact ⟨.inr ⟨_, rfl⟩, .inr rfl, fun _ => by simp, fun e => by cases e⟩

theorem told_mem {c : Nat} {x y : Rp} (h : y ∈ told c x) : y = x := by
  unfold told at h
  split at h
  · simpa using h
  · split at h
    · simpa using h
    · cases h
theorem late_mem {c : Nat} {x y : Rp} (h : y ∈ lateL c x Q) : y ∈ Q ∨ y = x := by
  unfold lateL at h
  split at h
  · rw [List.mem_append, List.mem_singleton] at h; exact h
  · exact .inl h

theorem Inv.ask (h : Inv A p L Q) (ho : p.state = kAsked ∨ p.state = kQueried) {r : Rq} (hr : OfK A r) (c : Nat) :
    Inv A p (askL r c L) (askQ r c L Q) ∧ ∀ y ∈ askA r c L, y.2.1 = kn (askL r c L) := by
  have n1 : p.state ≠ kPaid := fun e => by rcases ho with e2 | e2 <;> (rw [e] at e2; exact absurd e2 (by decide))
  have n2 : p.state ≠ kBack := fun e => by rcases ho with e2 | e2 <;> (rw [e] at e2; exact absurd e2 (by decide))
  unfold askL askQ askA
  split
  · exact ⟨h, fun y hy => by cases hy⟩
  · obtain ⟨g1, g2, _, _⟩ := recs_kn hr h.rc c
    have hkr : (repl r c L).2.1 = kn (recs r c L) := by unfold repl kn; rw [hr.1]
    refine ⟨⟨h.key, h.party, h.cur, h.amt, h.five, g1, fun x hx => ?_, fun e => absurd e n1, fun e => absurd e n2⟩, fun y hy => ?_⟩
    · rcases late_mem hx with hx | hx
      · rcases h.late x hx with e | e
        · exact .inl e
        · rcases g2 with e2 | e2
          · exact .inl (e.trans e2)
          · exact .inr (e.trans e2.symm)
      · rw [hx]; exact .inr hkr
    · rw [told_mem hy]; exact hkr

theorem Inv.heard {now : Int} : ∀ {Y : List Rp} {p : Py}, Inv A p L Q → (∀ y ∈ Y, y.2.1 = kn L) → Inv A (heardP p now Y) L Q
  | [], p, h, _ => h
  | y :: r, p, h, hy => by
    have h1 := Inv.heard (now := now) (Y := r) (h.hear (.inr (hy y (by simp))) y.2.2 now) (fun z hz => hy z (by simp [hz]))
    unfold heardP at h1 ⊢
    rw [List.foldl_cons]
    exact h1

theorem Inv.round (h : Inv A p L Q) (now : Int) (c : Nat) : Inv A (roundR now c ⟨p, L, Q⟩).p (roundR now c ⟨p, L, Q⟩).L (roundR now c ⟨p, L, Q⟩).Q := by
  have h1 := h.taken now c
  cases hid : idleB (lateP p Q now c) now with
  | true => rw [round_idle rfl hid]; exact h1
  | false =>
    rw [round_go rfl hid]
    have ho : overB (lateP p Q now c).state = false := by
      unfold idleB at hid
      rw [Bool.or_eq_false_iff] at hid
      exact hid.1
    obtain ⟨h2, h3⟩ := h1.go ho now
    obtain ⟨h4, h5⟩ := h2.ask h3 h1.ofK (c % 8)
    exact h4.heard h5
end

theorem Inv.run {A : Int} {f : Nat → Nat} {fr : Int} {s : Rn} (h : Inv A s.p s.L s.Q) : ∀ k : Nat, Inv A (runR f fr s k).p (runR f fr s k).L (runR f fr s k).Q
  | 0 => h
  | k + 1 => (Inv.run h k).round _ _

/-- a payout as it begins -/
def py0 (A : Int) : Py := ⟨kK, kAnn, kEur, A, kReady, 0, 0, 0⟩
theorem Inv.start (A : Int) : Inv A (py0 A) [] [] := ⟨rfl, rfl, rfl, rfl, .inl rfl, .inl rfl, (fun x hx => by cases hx), (fun e => absurd (show kReady = kPaid from e) (by decide)), (fun e => absurd (show kReady = kBack from e) (by decide))⟩

/-- how much was moved, and how often -/
def mvS (L : List Rc) : Int := match L with | x :: _ => if x.2.2.2.2 then x.2.2.2.1 else 0 | [] => 0
def mvN (L : List Rc) : Int := match L with | x :: _ => if x.2.2.2.2 then 1 else 0 | [] => 0

theorem Inv.acc {A : Int} {p : Py} {L : List Rc} {Q : List Rp} (h : Inv A p L Q) (e : kn L = kAcc) : L = [recA A true] := by
  rcases h.rc with rfl | ⟨mv, rfl⟩
  · exact absurd e (by decide)
  · rw [kn_one] at e
    cases mv with
    | true => rfl
    | false => exact absurd e (by decide)
theorem Inv.dec {A : Int} {p : Py} {L : List Rc} {Q : List Rp} (h : Inv A p L Q) (e : kn L = kDec) : L = [recA A false] := by
  rcases h.rc with rfl | ⟨mv, rfl⟩
  · exact absurd e (by decide)
  · rw [kn_one] at e
    cases mv with
    | false => rfl
    | true => exact absurd e (by decide)
end Go.Proofs.Ytdahgmkbpiklpaa
