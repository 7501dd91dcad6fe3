/-
  A disk, plain: what stands, what is pending, the fuse, whether it is dead; what its calls make of it.
-/
import Derived.Test.YtbpklikmldpeiaaOctP
namespace Go.Proofs.Ytbpklikmldpeiaa

structure DS where
  bl : List (List UInt8)
  pe : List (Nat × List UInt8)
  fu : Int
  dead : Bool

structure DS.Ok (s : DS) : Prop where
  bl : ∀ x ∈ s.bl, x.length = 64
  pe : ∀ p ∈ s.pe, p.1 < s.bl.length ∧ p.2.length = 64
  fu : -1 ≤ s.fu ∧ s.fu ≤ 9223372036854775807
  len : s.bl.length ≤ 65536

def z64 : List UInt8 := List.replicate 64 0
theorem z64_length : z64.length = 64 := by simp [z64]
def newDS (n : Nat) : DS := ⟨List.replicate n z64, [], -1, false⟩

theorem newDS_ok {n : Nat} (h : n ≤ 65536) : (newDS n).Ok :=
  ⟨fun x hx => by rw [(List.mem_replicate.1 hx).2, z64_length], fun p hp => (by cases hp), by simp [newDS], by simpa [newDS] using h⟩

/-! what is read -/

/-- of the writes, the newest first: the place, from 1 on, of the first of this block; 0, if there is none -/
def lastR (k : Nat) : List (Nat × List UInt8) → Nat
  | [] => 0
  | p :: r => if p.1 = k then r.length + 1 else lastR k r
def lastOf (pe : List (Nat × List UInt8)) (k : Nat) : Nat := lastR k pe.reverse
def curR (s0 : List UInt8) (k : Nat) : List (Nat × List UInt8) → List UInt8
  | [] => s0
  | p :: r => if p.1 = k then p.2 else curR s0 k r
def curF (s0 : List UInt8) (pe : List (Nat × List UInt8)) (k : Nat) : List UInt8 := curR s0 k pe.reverse

theorem lastOf_snoc (pe : List (Nat × List UInt8)) (p : Nat × List UInt8) (k : Nat) : lastOf (pe ++ [p]) k = if p.1 = k then pe.length + 1 else lastOf pe k := by
  simp [lastOf, lastR]
theorem curF_snoc (s0 : List UInt8) (pe : List (Nat × List UInt8)) (p : Nat × List UInt8) (k : Nat) : curF s0 (pe ++ [p]) k = if p.1 = k then p.2 else curF s0 pe k := by
  simp [curF, curR]

theorem lastR_le (k : Nat) : ∀ r : List (Nat × List UInt8), lastR k r ≤ r.length
  | [] => Nat.le_refl _
  | p :: r => by
    have := lastR_le k r
    simp only [lastR, List.length_cons]
    split <;> omega
theorem lastOf_le (pe : List (Nat × List UInt8)) (k : Nat) : lastOf pe k ≤ pe.length := by
  have := lastR_le k pe.reverse
  simpa [lastOf] using this

theorem lastR_get (k : Nat) : ∀ r : List (Nat × List UInt8), 0 < lastR k r → ∃ d, r.reverse[lastR k r - 1]? = some (k, d)
  | [], h => by simp [lastR] at h
  | p :: r, h => by
    by_cases e : p.1 = k
    · refine ⟨p.2, ?_⟩
      simp only [lastR, if_pos e, List.reverse_cons]
      rw [List.getElem?_append_right (by simp)]
      simp [← e]
    · simp only [lastR, if_neg e] at h ⊢
      obtain ⟨d, hd⟩ := lastR_get k r h
      refine ⟨d, ?_⟩
      rw [List.reverse_cons, List.getElem?_append_left (by have := (List.getElem?_eq_some_iff.1 hd).1; exact this)]
      exact hd
theorem lastOf_get {pe : List (Nat × List UInt8)} {k : Nat} (h : 0 < lastOf pe k) : ∃ d, pe[lastOf pe k - 1]? = some (k, d) := by
  have := lastR_get k pe.reverse h
  rwa [List.reverse_reverse] at this

theorem curR_last (s0 : List UInt8) (k : Nat) : ∀ r : List (Nat × List UInt8), (lastR k r = 0 → curR s0 k r = s0) ∧ (∀ q, r.reverse[lastR k r - 1]? = some q → 0 < lastR k r → curR s0 k r = q.2)
  | [] => ⟨fun _ => rfl, fun q h => by simp at h⟩
  | p :: r => by
    by_cases e : p.1 = k
    · simp only [lastR, curR, if_pos e]
      refine ⟨fun h => by omega, fun q h _ => ?_⟩
      rw [List.reverse_cons, List.getElem?_append_right (by simp)] at h
      simp at h
      rw [h]
    · simp only [lastR, curR, if_neg e]
      obtain ⟨h1, h2⟩ := curR_last s0 k r
      refine ⟨h1, fun q h hp => ?_⟩
      refine h2 q ?_ hp
      have hl := lastR_le k r
      rw [List.reverse_cons, List.getElem?_append_left (by simp; omega)] at h
      exact h
theorem curF_zero {s0 : List UInt8} {pe : List (Nat × List UInt8)} {k : Nat} (h : lastOf pe k = 0) : curF s0 pe k = s0 := (curR_last s0 k pe.reverse).1 h
theorem curF_last {s0 : List UInt8} {pe : List (Nat × List UInt8)} {k : Nat} {q : Nat × List UInt8} (h : 0 < lastOf pe k) (hq : pe[lastOf pe k - 1]? = some q) : curF s0 pe k = q.2 :=
  (curR_last s0 k pe.reverse).2 q (by rw [List.reverse_reverse]; exact hq) h

/-! what stands -/

/-- a write's first bytes stand -/
def settle1 (bl : List (List UInt8)) (p : Nat × List UInt8) (k : Nat) : List (List UInt8) := bl.set p.1 (p.2.take k ++ (bl.getD p.1 []).drop k)
def settleN (bl : List (List UInt8)) (pe : List (Nat × List UInt8)) (kf : Nat → Nat) : Nat → List (List UInt8)
  | 0 => bl
  | n + 1 => settle1 (settleN bl pe kf n) (pe.getD n (0, [])) (kf n)

theorem settle1_length (bl : List (List UInt8)) (p : Nat × List UInt8) (k : Nat) : (settle1 bl p k).length = bl.length := by simp [settle1]
theorem settleN_length (bl : List (List UInt8)) (pe : List (Nat × List UInt8)) (kf : Nat → Nat) : ∀ n, (settleN bl pe kf n).length = bl.length
  | 0 => rfl
  | n + 1 => by rw [settleN, settle1_length, settleN_length]

theorem settle1_ok {bl : List (List UInt8)} (h : ∀ x ∈ bl, x.length = 64) {p : Nat × List UInt8} (hp : p.2.length = 64) (hlt : p.1 < bl.length) {k : Nat} (hk : k ≤ 64) : ∀ x ∈ settle1 bl p k, x.length = 64 := by
  intro x hx
  rcases List.mem_or_eq_of_mem_set hx with hx | rfl
  · exact h x hx
  · rw [List.getD_eq_getElem?_getD, List.getElem?_eq_getElem hlt]
    have := h _ (List.getElem_mem hlt)
    simp [hp, this]
    omega
theorem settleN_ok {bl : List (List UInt8)} {pe : List (Nat × List UInt8)} {kf : Nat → Nat} (h : ∀ x ∈ bl, x.length = 64) (hp : ∀ p ∈ pe, p.1 < bl.length ∧ p.2.length = 64) (hk : ∀ i, kf i ≤ 64) : ∀ n, n ≤ pe.length → ∀ x ∈ settleN bl pe kf n, x.length = 64
  | 0, _ => h
  | n + 1, hn => by
    have hm : pe.getD n (0, []) ∈ pe := by
      rw [List.getD_eq_getElem?_getD, List.getElem?_eq_getElem (by omega)]
      exact List.getElem_mem _
    exact settle1_ok (settleN_ok h hp hk n (by omega)) (hp _ hm).2 (by rw [settleN_length]; exact (hp _ hm).1) (hk n)

/-- how many bytes are kept -/
def kOf (keep : List Nat) (i : Nat) : Nat := min (keep.getD i 0) 64
theorem kOf_le (keep : List Nat) (i : Nat) : kOf keep i ≤ 64 := Nat.min_le_right _ _

/-! the calls -/

def DS.thing (s : DS) : DS × Bool := if s.fu < 0 then (s, true) else if s.fu = 0 then ({ s with dead := true }, false) else ({ s with fu := s.fu - 1 }, true)
def DS.refusal (s : DS) (k : Int) : Int := if s.dead = true then 7 else if k < 0 ∨ (s.bl.length : Int) ≤ k then 8 else 0
def DS.pend (s : DS) (k : Nat) (d : List UInt8) : DS := { s with pe := s.pe ++ [(k, d)] }
def bit7 (b : Bool) : Int := if b then 0 else 7
def DS.write (s : DS) (k : Int) (d : List UInt8) : DS × Int :=
  if s.refusal k ≠ 0 then (s, s.refusal k) else if d.length ≠ 64 then (s, 1) else ((s.pend k.toNat d).thing.1, bit7 (s.pend k.toNat d).thing.2)
def DS.synced (s : DS) : DS := { s with bl := settleN s.bl s.pe (fun _ => 64) s.pe.length, pe := [] }
def DS.sync (s : DS) : DS × Int := if s.dead = true then (s, 7) else if s.thing.2 = true then (s.thing.1.synced, 0) else (s.thing.1, 7)
def DS.read (s : DS) (k : Int) : List UInt8 × Int := if s.refusal k ≠ 0 then ([], s.refusal k) else (curF (s.bl.getD k.toNat []) s.pe k.toNat, 0)
def DS.fail (s : DS) (n : Int) : DS := { s with fu := max n (-1) }
def DS.restart (s : DS) (keep : List Nat) : DS := ⟨settleN s.bl s.pe (kOf keep) s.pe.length, [], -1, false⟩

theorem DS.thing_bl (s : DS) : s.thing.1.bl = s.bl := by
  unfold DS.thing
  split
  · rfl
  · split <;> rfl
theorem DS.thing_pe (s : DS) : s.thing.1.pe = s.pe := by
  unfold DS.thing
  split
  · rfl
  · split <;> rfl
theorem DS.Ok.thing {s : DS} (h : s.Ok) : s.thing.1.Ok := by
  refine ⟨by rw [s.thing_bl]; exact h.bl, by rw [s.thing_bl, s.thing_pe]; exact h.pe, ?_, by rw [s.thing_bl]; exact h.len⟩
  have := h.fu
  unfold DS.thing
  split
  · exact this
  · split
    · exact this
    · simp only; omega
theorem DS.Ok.pend {s : DS} (h : s.Ok) {k : Nat} (hk : k < s.bl.length) {d : List UInt8} (hd : d.length = 64) : (s.pend k d).Ok :=
  ⟨h.bl, fun p hp => by
    rcases List.mem_append.1 hp with hp | hp
    · exact h.pe p hp
    · rw [List.mem_singleton] at hp; rw [hp]; exact ⟨hk, hd⟩, h.fu, h.len⟩
theorem DS.Ok.synced {s : DS} (h : s.Ok) : s.synced.Ok :=
  ⟨settleN_ok h.bl h.pe (fun _ => Nat.le_refl _) _ (Nat.le_refl _), fun p hp => (by cases hp), h.fu, by show (settleN _ _ _ _).length ≤ _; rw [settleN_length]; exact h.len⟩
theorem DS.Ok.restart {s : DS} (h : s.Ok) (keep : List Nat) : (s.restart keep).Ok :=
  ⟨settleN_ok h.bl h.pe (kOf_le keep) _ (Nat.le_refl _), fun p hp => (by cases hp), (by simp [DS.restart]), by show (settleN _ _ _ _).length ≤ _; rw [settleN_length]; exact h.len⟩
theorem DS.Ok.fail {s : DS} (h : s.Ok) {n : Int} (hn : n ≤ 9223372036854775807) : (s.fail n).Ok := ⟨h.bl, h.pe, by simp only [DS.fail]; omega, h.len⟩

theorem DS.refusal_zero {s : DS} {k : Int} (h : s.refusal k = 0) : s.dead = false ∧ 0 ≤ k ∧ k < (s.bl.length : Int) := by
  unfold DS.refusal at h
  split at h
  · omega
  · split at h
    · omega
    · rename_i h1 h2
      exact ⟨by simpa using h1, by omega, by omega⟩
theorem DS.Ok.write {s : DS} (h : s.Ok) (k : Int) (d : List UInt8) : (s.write k d).1.Ok := by
  unfold DS.write
  split
  · exact h
  · rename_i hr
    have hr' : s.refusal k = 0 := by simpa using hr
    obtain ⟨_, h0, h1⟩ := DS.refusal_zero hr'
    split
    · exact h
    · rename_i hl
      exact (h.pend (by omega) (by simpa using hl)).thing
theorem DS.Ok.sync {s : DS} (h : s.Ok) : s.sync.1.Ok := by
  unfold DS.sync
  split
  · exact h
  · split
    · exact h.thing.synced
    · exact h.thing

/-! rows of pieces of one length -/

theorem flatMap_length {α β : Type} (f : α → List β) (c : Nat) : ∀ l : List α, (∀ x ∈ l, (f x).length = c) → (l.flatMap f).length = l.length * c
  | [], _ => by simp
  | x :: r, hf => by
    rw [List.flatMap_cons, List.length_append, hf x List.mem_cons_self, flatMap_length f c r (fun y hy => hf y (List.mem_cons_of_mem _ hy)), List.length_cons, Nat.succ_mul, Nat.add_comm]

theorem flatMap_get {α β : Type} (f : α → List β) (c : Nat) : ∀ (l : List α), (∀ x ∈ l, (f x).length = c) → ∀ (i j : Nat) (x : α), l[i]? = some x → j < c → (l.flatMap f)[i * c + j]? = (f x)[j]?
  | [], _, _, _, _, h, _ => by simp at h
  | y :: r, hf, 0, j, x, h, hj => by
    simp at h
    subst h
    rw [List.flatMap_cons, Nat.zero_mul, Nat.zero_add, List.getElem?_append_left (by rw [hf y List.mem_cons_self]; exact hj)]
  | y :: r, hf, i + 1, j, x, h, hj => by
    have h0 := hf y List.mem_cons_self
    rw [List.flatMap_cons, List.getElem?_append_right (by rw [h0, Nat.succ_mul]; omega), h0, show (i + 1) * c + j - c = i * c + j by rw [Nat.succ_mul]; omega]
    exact flatMap_get f c r (fun z hz => hf z (List.mem_cons_of_mem _ hz)) i j x (by simpa using h) hj

theorem flatMap_set {α β : Type} (f : α → List β) (c : Nat) : ∀ (l : List α), (∀ x ∈ l, (f x).length = c) → ∀ (i : Nat) (x : α), i < l.length → (l.set i x).flatMap f = (l.flatMap f).take (i * c) ++ f x ++ (l.flatMap f).drop (i * c + c)
  | [], _, _, _, h => by simp at h
  | y :: r, hf, 0, x, _ => by
    have h0 := hf y List.mem_cons_self
    have h1 : (f y ++ r.flatMap f).drop c = r.flatMap f := by rw [List.drop_append_of_le_length (by omega), List.drop_of_length_le (by omega), List.nil_append]
    simp only [List.set_cons_zero, List.flatMap_cons, Nat.zero_mul, Nat.zero_add, List.take_zero, List.nil_append, h1]
  | y :: r, hf, i + 1, x, h => by
    have h0 := hf y List.mem_cons_self
    have ih := flatMap_set f c r (fun z hz => hf z (List.mem_cons_of_mem _ hz)) i x (by simpa using h)
    have h1 : (f y ++ r.flatMap f).take ((i + 1) * c) = f y ++ (r.flatMap f).take (i * c) := by
      rw [List.take_append, List.take_of_length_le (by rw [h0, Nat.succ_mul]; omega), h0, show (i + 1) * c - c = i * c by rw [Nat.succ_mul]; omega]
    have h2 : (f y ++ r.flatMap f).drop ((i + 1) * c + c) = (r.flatMap f).drop (i * c + c) := by
      rw [List.drop_append, List.drop_of_length_le (by rw [h0, Nat.succ_mul]; omega), h0, List.nil_append, show (i + 1) * c + c - c = i * c + c by rw [Nat.succ_mul]; omega]
    simp only [List.set_cons_succ, List.flatMap_cons, h1, h2, ih, List.append_assoc]
end Go.Proofs.Ytbpklikmldpeiaa
