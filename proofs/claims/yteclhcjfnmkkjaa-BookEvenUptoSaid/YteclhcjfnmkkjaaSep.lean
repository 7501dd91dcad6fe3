/-
  Parts of memory that lie apart: what a call that changes one of them keeps of the others.
-/
import Derived.Test.YteclhcjfnmkkjaaStp
namespace Go.Proofs.Yteclhcjfnmkkjaa
open Go.RowKit

/-- what is said of a list of blocks stays, if none of them is changed; all of them are there -/
structure Stays (P : World → List Nat → Prop) : Prop where
  keep : ∀ {w w' : World} {fp fp2 : List Nat}, P w fp → Stp fp2 w w' → (∀ k ∈ fp, k ∉ fp2) → P w' fp
  lt : ∀ {w : World} {fp : List Nat}, P w fp → ∀ k ∈ fp, k < w.heap.size

theorem Stays.since {P : World → List Nat → Prop} (hP : Stays P) {w w' : World} {fp : List Nat} (h : P w fp) (hb : Below w.heap.size w w') : P w' fp :=
  hP.keep (fp2 := []) h (Stp.of_below hb) (fun _ _ hk => by cases hk)

/-- one beside the other -/
def Sep (P Q : World → List Nat → Prop) (w : World) (fp : List Nat) : Prop := ∃ f1 f2, P w f1 ∧ Q w f2 ∧ (∀ k ∈ f1, k ∉ f2) ∧ fp = f1 ++ f2

theorem Stays.sep {P Q : World → List Nat → Prop} (hP : Stays P) (hQ : Stays Q) : Stays (Sep P Q) where
  keep := by
    rintro w w' fp fp2 ⟨f1, f2, h1, h2, hd, rfl⟩ hs hn
    exact ⟨f1, f2, hP.keep h1 hs (fun k hk => hn k (List.mem_append_left _ hk)), hQ.keep h2 hs (fun k hk => hn k (List.mem_append_right _ hk)), hd, rfl⟩
  lt := by
    rintro w fp ⟨f1, f2, h1, h2, hd, rfl⟩ k hk
    rcases List.mem_append.1 hk with h | h
    · exact hP.lt h1 k h
    · exact hQ.lt h2 k h

theorem Sep.swap {P Q : World → List Nat → Prop} {w : World} {fp : List Nat} (h : Sep P Q w fp) : ∃ fp', Sep Q P w fp' ∧ ∀ k ∈ fp', k ∈ fp := by
  obtain ⟨f1, f2, h1, h2, hd, rfl⟩ := h
  refine ⟨f2 ++ f1, ⟨f2, f1, h2, h1, fun k hk hk' => hd k hk' hk, rfl⟩, fun k hk => ?_⟩
  rcases List.mem_append.1 hk with h | h
  · exact List.mem_append_right _ h
  · exact List.mem_append_left _ h

theorem Sep.assoc {P Q R : World → List Nat → Prop} {w : World} {fp : List Nat} (h : Sep (Sep P Q) R w fp) : Sep P (Sep Q R) w fp := by
  obtain ⟨f12, f3, ⟨f1, f2, h1, h2, hd, rfl⟩, h3, hd2, rfl⟩ := h
  refine ⟨f1, f2 ++ f3, h1, ⟨f2, f3, h2, h3, fun k hk => hd2 k (List.mem_append_right _ hk), rfl⟩, fun k hk hk' => ?_, by rw [List.append_assoc]⟩
  rcases List.mem_append.1 hk' with h | h
  · exact hd k hk h
  · exact hd2 k (List.mem_append_left _ hk) h

theorem Sep.assoc' {P Q R : World → List Nat → Prop} {w : World} {fp : List Nat} (h : Sep P (Sep Q R) w fp) : Sep (Sep P Q) R w fp := by
  obtain ⟨f1, f23, h1, ⟨f2, f3, h2, h3, hd, rfl⟩, hd2, rfl⟩ := h
  refine ⟨f1 ++ f2, f3, ⟨f1, f2, h1, h2, fun k hk hk' => hd2 k hk (List.mem_append_left _ hk'), rfl⟩, h3, fun k hk hk' => ?_, by rw [List.append_assoc]⟩
  rcases List.mem_append.1 hk with h | h
  · exact hd2 k h (List.mem_append_right _ hk')
  · exact hd k h hk'

/-! what is known since some world -/

section
variable {fp0 : List Nat} {W w w' : World} {P P' Q R : World → List Nat → Prop}

theorem After.below (h : After fp0 W w (P w)) {B : Nat} (hf : ∀ k ∈ fp0, B ≤ k) (hB : B ≤ W.heap.size) : Below B W w := by
  obtain ⟨fp, _, hs, _⟩ := h
  exact hs.below hf hB
theorem After.bel (h : After [] W w (P w)) : Below W.heap.size W w := h.below (fun _ hk => by cases hk) (Nat.le_refl _)

theorem After.start (fp : List Nat) (hp : P w fp) : After fp w w (P w) := After.of (Stp.refl _ _) hp

theorem After.since (hP : Stays P) (h : After fp0 W w (P w)) (hb : Below w.heap.size w w') : After fp0 W w' (P w') := by
  obtain ⟨fp, hp, hs, hn⟩ := h
  exact ⟨fp, hP.since hp hb, hs.trans (Stp.of_below (fp := []) hb) (fun k hk => by cases hk), hn⟩
theorem After.drewN (hP : Stays P) (h : After fp0 W w (P w)) (n : Nat) : After fp0 W (w.drewN n) (P (w.drewN n)) := h.since hP ⟨rfl, rfl, rfl, Nat.le_refl _, fun _ _ => rfl⟩
theorem After.drew (hP : Stays P) (h : After fp0 W w (P w)) : After fp0 W w.drew (P w.drew) := h.since hP (Below.refl _ _).drew

/-- less is known -/
theorem After.less (h : After fp0 W w (P w)) (hl : ∀ fp, P w fp → ∃ fp', P' w fp' ∧ ∀ k ∈ fp', k ∈ fp) : After fp0 W w (P' w) := by
  obtain ⟨fp, hp, hs, hn⟩ := h
  obtain ⟨fp', hp', hm⟩ := hl fp hp
  exact ⟨fp', hp', hs, fun k hk => hn k (hm k hk)⟩
theorem After.into (h : After fp0 W w (P w)) (hl : ∀ fp, P w fp → P' w fp) : After fp0 W w (P' w) := h.less fun fp hp => ⟨fp, hl fp hp, fun _ hk => hk⟩
theorem After.swap (h : After fp0 W w (Sep P Q w)) : After fp0 W w (Sep Q P w) := h.less fun _ hp => hp.swap
theorem After.left (h : After fp0 W w (Sep P Q w)) : After fp0 W w (P w) := h.less fun fp hp => by
  obtain ⟨f1, f2, h1, h2, hd, rfl⟩ := hp
  exact ⟨f1, h1, fun k hk => List.mem_append_left _ hk⟩
theorem After.right (h : After fp0 W w (Sep P Q w)) : After fp0 W w (Q w) := h.swap.left

/-- what is known now of some place, whatever its blocks are -/
theorem After.know {T : Prop} (h : After fp0 W w (P w)) (hk : ∀ fp, P w fp → T) : T := by
  obtain ⟨fp, hp, _⟩ := h
  exact hk fp hp

/-- what is new lies beside it -/
theorem After.fresh (hP : Stays P) (h : After fp0 W w (P w)) (hb : Below w.heap.size w w') {fr : List Nat} (hr : R w' fr) (hf : ∀ k ∈ fr, w.heap.size ≤ k) : After fp0 W w' (Sep P R w') := by
  obtain ⟨fp, hp, hs, hn⟩ := h
  refine ⟨fp ++ fr, ⟨fp, fr, hP.since hp hb, hr, fun k hk hk' => ?_, rfl⟩, hs.trans (Stp.of_below (fp := []) hb) (fun k hk => by cases hk), fun k hk => ?_⟩
  · have := hP.lt hp k hk; have := hf k hk'; omega
  · rcases List.mem_append.1 hk with h | h
    · exact hn k h
    · have := hf k h; have := hs.size; exact .inr (by omega)

/-- a step of the whole -/
theorem After.go (h : After fp0 W w (P w)) (hc : ∀ fp, P w fp → After fp w w' (P' w')) : After fp0 W w' (P' w') := by
  obtain ⟨fp, hp, hs, hn⟩ := h
  exact After.step hs hn (hc fp hp)
theorem Sep.goL (hQ : Stays Q) {fp : List Nat} (h : Sep P Q w fp) (hc : ∀ f, P w f → After f w w' (P' w')) : After fp w w' (Sep P' Q w') := by
  obtain ⟨f1, f2, h1, h2, hd, rfl⟩ := h
  obtain ⟨f1', h1', hs, hn⟩ := hc f1 h1
  refine ⟨f1' ++ f2, ⟨f1', f2, h1', hQ.keep h2 hs (fun k hk hk' => hd k hk' hk), fun k hk hk' => ?_, rfl⟩, hs.wider (fun k hk => List.mem_append_left _ hk), fun k hk => ?_⟩
  · rcases hn k hk with h | h
    · exact hd k h hk'
    · have := hQ.lt h2 k hk'; omega
  · rcases List.mem_append.1 hk with h | h
    · rcases hn k h with h | h
      · exact .inl (List.mem_append_left _ h)
      · exact .inr h
    · exact .inl (List.mem_append_right _ h)
theorem Sep.goR (hP : Stays P) {fp : List Nat} (h : Sep P Q w fp) (hc : ∀ f, Q w f → After f w w' (P' w')) : After fp w w' (Sep P P' w') := by
  obtain ⟨f1, f2, h1, h2, hd, rfl⟩ := h
  obtain ⟨f2', h2', hs, hn⟩ := hc f2 h2
  refine ⟨f1 ++ f2', ⟨f1, f2', hP.keep h1 hs hd, h2', fun k hk hk' => ?_, rfl⟩, hs.wider (fun k hk => List.mem_append_right _ hk), fun k hk => ?_⟩
  · rcases hn k hk' with h | h
    · exact hd k hk h
    · have := hP.lt h1 k hk; omega
  · rcases List.mem_append.1 hk with h | h
    · exact .inl (List.mem_append_left _ h)
    · rcases hn k h with h | h
      · exact .inl (List.mem_append_right _ h)
      · exact .inr h
theorem After.goL (hQ : Stays Q) (h : After fp0 W w (Sep P Q w)) (hc : ∀ f, P w f → After f w w' (P' w')) : After fp0 W w' (Sep P' Q w') := h.go fun _ hp => hp.goL hQ hc
theorem After.goR (hP : Stays P) (h : After fp0 W w (Sep P Q w)) (hc : ∀ f, Q w f → After f w w' (P' w')) : After fp0 W w' (Sep P P' w') := h.go fun _ hp => hp.goR hP hc
end

/-! calls -/

section
variable {p : Program} {f : Nat} {args : Array Value} {fp0 : List Nat} {W w : World} {P Q : World → List Nat → Prop} {X : Type} {E : X → Ending → Prop} {P' : X → World → List Nat → Prop}

theorem After.call (h : After fp0 W w (P w)) (hc : ∀ fp, P w fp → Calls p f args w fun e w' => ∃ x, E x e ∧ After fp w w' (P' x w')) : Calls p f args w fun e w' => ∃ x, E x e ∧ After fp0 W w' (P' x w') := by
  obtain ⟨fp, hp, hs, hn⟩ := h
  refine (hc fp hp).mono ?_
  rintro e w' ⟨x, he, ha⟩
  exact ⟨x, he, After.step hs hn ha⟩
theorem Sep.callL (hQ : Stays Q) {fp : List Nat} (h : Sep P Q w fp) (hc : ∀ fp, P w fp → Calls p f args w fun e w' => ∃ x, E x e ∧ After fp w w' (P' x w')) : Calls p f args w fun e w' => ∃ x, E x e ∧ After fp w w' (Sep (P' x) Q w') := by
  have h' := h
  obtain ⟨f1, f2, h1, h2, hd, rfl⟩ := h
  refine (hc f1 h1).mono ?_
  rintro e w' ⟨x, he, ha⟩
  exact ⟨x, he, Sep.goL hQ (P := fun w f => w = w ∧ f = f1 ∧ P w f) ⟨f1, f2, ⟨rfl, rfl, h1⟩, h2, hd, rfl⟩ (fun f hf => by rw [hf.2.1]; exact ha)⟩
theorem Sep.callR (hP : Stays P) {fp : List Nat} (h : Sep P Q w fp) (hc : ∀ fp, Q w fp → Calls p f args w fun e w' => ∃ x, E x e ∧ After fp w w' (P' x w')) : Calls p f args w fun e w' => ∃ x, E x e ∧ After fp w w' (Sep P (P' x) w') := by
  obtain ⟨f1, f2, h1, h2, hd, rfl⟩ := h
  refine (hc f2 h2).mono ?_
  rintro e w' ⟨x, he, ha⟩
  exact ⟨x, he, Sep.goR hP (Q := fun w f => f = f2 ∧ Q w f) ⟨f1, f2, h1, ⟨rfl, h2⟩, hd, rfl⟩ (fun f hf => by rw [hf.1]; exact ha)⟩
end

section
variable {p : Program} {f : Nat} {args : Array Value} {fp0 : List Nat} {W w : World} {P Q : World → List Nat → Prop} {E : Ending → Prop} {P' : World → List Nat → Prop}
theorem After.call1 (h : After fp0 W w (P w)) (hc : ∀ fp, P w fp → Calls p f args w fun e w' => E e ∧ After fp w w' (P' w')) : Calls p f args w fun e w' => E e ∧ After fp0 W w' (P' w') := by
  refine (h.call (X := Unit) (E := fun _ => E) (P' := fun _ => P') fun fp hp => (hc fp hp).mono ?_).mono ?_
  · rintro e w' ⟨h1, h2⟩; exact ⟨(), h1, h2⟩
  · rintro e w' ⟨_, h1, h2⟩; exact ⟨h1, h2⟩
theorem Sep.callL1 (hQ : Stays Q) {fp : List Nat} (h : Sep P Q w fp) (hc : ∀ fp, P w fp → Calls p f args w fun e w' => E e ∧ After fp w w' (P' w')) : Calls p f args w fun e w' => E e ∧ After fp w w' (Sep P' Q w') := by
  refine (h.callL hQ (X := Unit) (E := fun _ => E) (P' := fun _ => P') fun fp hp => (hc fp hp).mono ?_).mono ?_
  · rintro e w' ⟨h1, h2⟩; exact ⟨(), h1, h2⟩
  · rintro e w' ⟨_, h1, h2⟩; exact ⟨h1, h2⟩
theorem Sep.callR1 (hP : Stays P) {fp : List Nat} (h : Sep P Q w fp) (hc : ∀ fp, Q w fp → Calls p f args w fun e w' => E e ∧ After fp w w' (P' w')) : Calls p f args w fun e w' => E e ∧ After fp w w' (Sep P P' w') := by
  refine (h.callR hP (X := Unit) (E := fun _ => E) (P' := fun _ => P') fun fp hp => (hc fp hp).mono ?_).mono ?_
  · rintro e w' ⟨h1, h2⟩; exact ⟨(), h1, h2⟩
  · rintro e w' ⟨_, h1, h2⟩; exact ⟨h1, h2⟩
end

/-! single parts -/

/-- a whole block -/
def BlkR (b : Nat) (t : TypeId) (cs : Array Value) (w : World) (fp : List Nat) : Prop := Blk w b t cs ∧ fp = [b]
theorem BlkR.stays (b : Nat) (t : TypeId) (cs : Array Value) : Stays (BlkR b t cs) where
  keep := by
    rintro w w' fp fp2 ⟨h, rfl⟩ hs hn
    exact ⟨h.stp hs (hn b (by simp)), rfl⟩
  lt := by
    rintro w fp ⟨h, rfl⟩ k hk
    rw [List.mem_singleton] at hk
    rw [hk]; exact h.lt
theorem BlkR.set {b : Nat} {t : TypeId} {cs : Array Value} {w : World} {fp : List Nat} (h : BlkR b t cs w fp) (i : Nat) (v : Value) : After fp w (w.setCell ⟨b, i, none⟩ v) (BlkR b t (cs.setIfInBounds i v) (w.setCell ⟨b, i, none⟩ v)) := by
  obtain ⟨h, rfl⟩ := h
  exact ⟨[b], ⟨h.set i v, rfl⟩, (Stp.refl [b] w).setCell (x := ⟨b, i, none⟩) (.inl (by simp)) v, fun k hk => .inl hk⟩

/-- a row of one's own -/
def OwnR (e : TypeId) (size : Nat) (v : Value) (n : Nat) (xs : List Value) (w : World) (fp : List Nat) : Prop := w.ownsRow 0 e size v n xs ∧ fp = v.ownBlock.toList
theorem OwnR.stays (e : TypeId) (size : Nat) (v : Value) (n : Nat) (xs : List Value) : Stays (OwnR e size v n xs) where
  keep := by
    rintro w w' fp fp2 ⟨h, rfl⟩ hs hn
    exact ⟨own_stp h hs (fun k hk => hn k (by simp [hk])), rfl⟩
  lt := by
    rintro w fp ⟨h, rfl⟩ k hk
    exact (h.lt k (by simpa [Option.mem_toList] using hk)).2
theorem OwnR.of {e : TypeId} {size : Nat} {v : Value} {n : Nat} {xs : List Value} {w : World} {B : Nat} (h : w.ownsRow B e size v n xs) : OwnR e size v n xs w v.ownBlock.toList ∧ ∀ k ∈ v.ownBlock.toList, B ≤ k := by
  refine ⟨⟨⟨h.1, ?_⟩, rfl⟩, fun k hk => (h.lt k (by simpa [Option.mem_toList] using hk)).1⟩
  rcases h.2 with h1 | ⟨g, cap, cur, hv, hbg, hr⟩
  · exact .inl h1
  · exact .inr ⟨g, cap, cur, hv, Nat.zero_le _, hr⟩

/-- nothing -/
def NonR (_ : World) (fp : List Nat) : Prop := fp = []
theorem NonR.stays : Stays NonR where
  keep := fun h _ _ => h
  lt := by
    rintro w fp h k hk
    rw [show fp = [] from h] at hk; cases hk
theorem After.none (w : World) : After [] w w (NonR w) := After.start [] rfl
end Go.Proofs.Yteclhcjfnmkkjaa
