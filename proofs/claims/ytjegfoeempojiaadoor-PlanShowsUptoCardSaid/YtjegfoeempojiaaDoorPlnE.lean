/-
  Contract of the document's Rules.
-/
import Derived.Test.YtjegfoeempojiaaDoorPlnC
import Derived.Test.YtjegfoeempojiaaDoorPlnD
namespace Go.Proofs.YtjegfoeempojiaaDoor
open Go.RowKit Go.Maps

theorem formL_fig {c : UInt8} {x : List UInt8} (h : isFig c = true) : formL (c :: x) = none := by
  rcases formL_six (c :: x) with ⟨e, _⟩ | ⟨e, _⟩ | ⟨e, _⟩ | ⟨e, _⟩ | ⟨e, _⟩ | ⟨e, _⟩ | ⟨h2, _⟩
  iterate 6 (injection e with e _; subst e; exact absurd h (by decide))
  exact h2

theorem oneL_good (c : UInt8) (r : List UInt8) (t : Tk) (h : oneL c (c :: r) = .ok t) : t.1 ≤ 3 ∧ (t.1 ≠ 0 → formL t.2.1 = none) := by
  unfold oneL at h
  split at h
  · injection h with h; subst h; exact ⟨Nat.le_refl _, fun _ => by decide⟩
  · split at h
    · split at h
      · rename_i t' e
        injection h with h
        subst h
        unfold nmL at e
        split at e
        · cases e
        · injection e with e; subst e; exact ⟨Nat.zero_le _, fun h => absurd rfl h⟩
      · cases h
    · split at h
      · rename_i h3
        split at h
        · rename_i t' e
          injection h with h
          subst h
          obtain ⟨f, hfe⟩ : ∃ f, f = (c :: r).takeWhile isFig := ⟨_, rfl⟩
          have e1 : nrL (c :: r) = if 16 < f.length then none else if rEnd ((c :: r).drop f.length) = [] then some (1, f, woL f) else if 1000000 < woL f then none else some (2, (c :: r).take (f.length + (rEnd ((c :: r).drop f.length)).length), woL f * 100 + huL (rEnd ((c :: r).drop f.length))) := by rw [hfe]; rfl
          have hfc : ∃ f', f = c :: f' := ⟨r.takeWhile isFig, by rw [hfe, List.takeWhile_cons, if_pos h3]⟩
          obtain ⟨f', hf'⟩ := hfc
          rw [e] at e1
          split at e1
          · cases e1
          · split at e1
            · injection e1 with e1; subst e1; exact ⟨by show (1 : Nat) ≤ 3; decide, fun _ => by show formL f = none; rw [hf']; exact formL_fig h3⟩
            · split at e1
              · cases e1
              · injection e1 with e1
                subst e1
                refine ⟨by show (2 : Nat) ≤ 3; decide, fun _ => ?_⟩
                show formL ((c :: r).take _) = none
                rw [hf', List.length_cons, show f'.length + 1 + (rEnd ((c :: r).drop (f'.length + 1))).length = (f'.length + (rEnd ((c :: r).drop (f'.length + 1))).length) + 1 by omega, List.take_succ_cons]
                exact formL_fig h3
        · cases h
      · cases h

theorem tksL_good : ∀ (f : Nat) (l : List UInt8) (a : Nat) (ts : Tks), tksL f l a = .ok ts → ∀ t ∈ ts, t.1.1 ≤ 3 ∧ (t.1.1 ≠ 0 → formL t.1.2.1 = none) := by
  intro f
  induction f with
  | zero => intro l a ts h; injection h with h; subst h; intro t ht; cases ht
  | succ f ih =>
    intro l a ts h
    cases l with
    | nil => injection h with h; subst h; intro t ht; cases ht
    | cons c r =>
      simp only [tksL] at h
      split at h
      · exact ih _ _ _ h
      · split at h
        · cases h
        · rename_i t ho
          split at h
          · cases h
          · rename_i us hu
            injection h with h
            subst h
            intro x hx
            rcases List.mem_cons.1 hx with e | hx
            · rw [e]; exact oneL_good c r t ho
            · exact ih _ _ _ hu x hx
theorem tokL_good {l : List UInt8} {ts : Tks} (h : tokL l = .ok ts) (hl : l.length ≤ 1000000000) : TokOk ts :=
  ⟨fun _ t ht => (tksL_good _ _ _ _ h t (List.mem_of_getElem? ht)).1, fun _ t ht => (tksL_good _ _ _ _ h t (List.mem_of_getElem? ht)).2, fun _ t ht => Nat.le_trans ((tokL_len h).2 t (List.mem_of_getElem? ht)) hl⟩

/-- those from one place to another -/
def seg (ts : Tks) (j m : Nat) : Tks := (ts.drop j).take m
theorem seg_get {ts : Tks} {j m k : Nat} {t : Tk × Nat} (h : (seg ts j m)[k]? = some t) : ts[j + k]? = some t := by
  unfold seg at h
  rw [List.getElem?_take] at h
  split at h
  · rwa [List.getElem?_drop] at h
  · cases h
theorem TokOk.seg {ts : Tks} (h : TokOk ts) (j m : Nat) : TokOk (seg ts j m) :=
  ⟨fun _ t ht => h.le _ t (seg_get ht), fun _ t ht => h.name _ t (seg_get ht), fun _ t ht => h.short _ t (seg_get ht)⟩
theorem seg_len {ts : Tks} {j m : Nat} (h : j + m ≤ ts.length) : (seg ts j m).length = m := by
  unfold Go.Proofs.YtjegfoeempojiaaDoor.seg; rw [List.length_take, List.length_drop]; omega
theorem seg_snoc {ts : Tks} {j m : Nat} {t : Tk × Nat} (h : ts[j + m]? = some t) : seg ts j (m + 1) = seg ts j m ++ [t] := by
  have h2 : (ts.drop j)[m]? = some t := by rw [List.getElem?_drop]; exact h
  obtain ⟨h3, h4⟩ := List.getElem?_eq_some_iff.1 h2
  unfold Go.Proofs.YtjegfoeempojiaaDoor.seg
  rw [List.take_succ_eq_append_getElem h3, h4]
theorem seg_cons {ts : Tks} {j m : Nat} {t : Tk × Nat} (h : ts[j]? = some t) : seg ts j (m + 1) = t :: (ts.drop (j + 1)).take m := by
  unfold Go.Proofs.YtjegfoeempojiaaDoor.seg
  rw [drop_consT h, List.take_succ_cons]
theorem ruleD_seg {ts : Tks} {j E : Nat} {t : Tk × Nat} (h : ts[j]? = some t) (hE : 1 ≤ E) : ruleD (seg ts j E) = ruleL t.1 (((ts.drop (j + 1)).take (E - 1)).map (·.1)) := by
  obtain ⟨m, rfl⟩ : ∃ m, E = m + 1 := ⟨E - 1, by omega⟩
  rw [seg_cons h]; rfl
theorem seg_zero (ts : Tks) (j : Nat) : seg ts j 0 = [] := by unfold Go.Proofs.YtjegfoeempojiaaDoor.seg; rfl

/-- none of so many from a place on is an End -/
def NoE (ts : Tks) (j m : Nat) : Prop := NoEnd (ts.drop j) m
theorem NoE.succ {ts : Tks} {j m : Nat} {t : Tk × Nat} (h : NoE ts j m) (hx : ts[j + m]? = some t) (ht : t.1.1 ≠ 3) : NoE ts j (m + 1) :=
  NoEnd.succ h (by rw [List.getElem?_drop]; exact hx) (by rw [beq_eq_false_iff_ne]; exact ht)
theorem NoE.found {ts : Tks} {j m : Nat} {t : Tk × Nat} (h : NoE ts j m) (hx : ts[j + m]? = some t) (ht : t.1.1 = 3) : endI (ts.drop j) = m :=
  NoEnd.found h (by rw [List.getElem?_drop]; exact hx) (by rw [ht]; rfl)
theorem NoE.all {ts : Tks} {j m : Nat} (h : NoE ts j m) (hm : j + m = ts.length) : endI (ts.drop j) = m := by
  have e : (ts.drop j).length = m := by rw [List.length_drop]; omega
  have := NoEnd.all (ts := ts.drop j) (by rw [e]; exact h)
  rw [e] at this
  exact this

/-- two own rows of different things lie in different blocks -/
theorem own_ne {w : World} {B B' : Nat} {e e' : TypeId} {s s' n n' : Nat} {v v' : Value} {xs xs' : List Value} (h : w.ownsRow B e s v n xs) (h' : w.ownsRow B' e' s' v' n' xs') (hne : e ≠ e') : ∀ k, v.ownBlock = some k → v'.ownBlock ≠ some k := by
  intro k hk hk'
  rcases h.2 with ⟨hv, _⟩ | ⟨g, cap, cur, hv, _, hg, _⟩
  · rw [hv] at hk; cases hk
  · rcases h'.2 with ⟨hv', _⟩ | ⟨g', cap', cur', hv', _, hg', _⟩
    · rw [hv'] at hk'; cases hk'
    · rw [hv] at hk
      rw [hv'] at hk'
      injection hk with hk
      injection hk' with hk'
      have e1 : g = g' := by
        have : g = k := hk
        have : g' = k := hk'
        omega
      rw [e1, hg'] at hg
      injection hg with hg
      injection hg with _ hg _
      exact hne hg.symm
theorem own_grown {w w' : World} {B : Nat} {e : TypeId} {s n : Nat} {v : Value} {xs : List Value} {r : Option Nat} (h : w.ownsRow B e s v n xs) (hg : w.grownBy w' r) (hn : ∀ k, v.ownBlock = some k → r ≠ some k) : w'.ownsRow B e s v n xs := by
  obtain ⟨h1, h2⟩ := h
  rcases h2 with h2 | ⟨g, cap, cur, q1, q2, q3, q4⟩
  · exact ⟨h1, .inl h2⟩
  · exact ⟨h1, .inr ⟨g, cap, cur, q1, q2, (hg.block g (Array.getElem?_eq_some_iff.1 q3).1 (fun e => hn g (by rw [q1]; rfl) e.symm)).trans q3, q4⟩⟩
theorem bel_grown {w wr wa w' : World} {B : Nat} {e : TypeId} {s n : Nat} {v : Value} {xs : List Value} (hw : Below B w wa) (hB : B ≤ wa.heap.size) (ho : wr.ownsRow B e s v n xs) (h : wa.grownBy w' v.ownBlock) : Below B w w' :=
  hw.grown h hB (fun k hk => (ho.lt k hk).1)
end Go.Proofs.YtjegfoeempojiaaDoor
