/-
  Laws on append in one word: one element onto an own row; a whole row behind a new one.
-/
import Derived.WalkKit
import Derived.WalkLawsBesides
import Derived.Below
import Derived.Maps.AppendAt
import Derived.Laws.AppendOwnNone
import Derived.Deep.AppendLies
import Derived.Deep.Draws
namespace Go.Proofs.Ytdahgmkbpiklpaa
open Go.RowKit

theorem own_below {base : Nat} {e : TypeId} {v : Value} {n : Nat} {xs : List Value} {W w' : World} {o : Obj} (hown : W.ownsRow base e 1 v n xs) (hb : base ≤ W.heap.size) (hg : (W.alloc o).grownBy w' v.ownBlock) : Below base W w' :=
  ((Below.refl base W).alloc hb o).grown hg (by simp; omega) (fun k hk => (hown.lt k hk).1)

section
variable {P : Program} {ops : Array Oper} {rest : List Oper} {o : Oper} {a : Act} {Q : Exit → Act → World → Prop}

theorem wpList_append_one (hgd : o.guard = none) (s x : Operand) (t : TypeId)
    (ho : o.op = .call { callee := .builtin .append, args := #[s, x], argTypes := #[t, t] })
    (base : Nat) (e : TypeId) (z : Value) (bytes : Nat) (ht : P.underlying t = some (.slice e)) (hinfo : (P.info? e).map (fun i => (i.zero, i.size, i.bytes)) = some (some z, 1, bytes)) (hz1 : z.cells.size = 1)
    (W : World) (u : Value) (hu : u.oneCell' = true) (v : Value) (n : Nat) (xs : List Value) (hs : a.eval s = v) (hx : a.eval x = .slice (some ⟨W.heap.size, 0, none⟩) 1 1)
    (hown : W.ownsRow base e 1 v n xs) (hb : base ≤ W.heap.size) (h63 : n + 1 ≤ maxLen) (hbytes : (n + 1) * bytes ≤ 140737488355328)
    (h : ∀ v' w', w'.ownsRow base e 1 v' (n + 1) (xs ++ [u]) → Below base W w' → wpList P ops Q rest (a.put o.dst v') w') : wpList P ops Q (o :: rest) a (W.alloc (.cells #[u] e)) := by
  obtain ⟨i, hi, hzz⟩ := Option.map_eq_some_iff.1 hinfo
  simp only [Prod.mk.injEq] at hzz
  obtain ⟨hz, hs1, hb1⟩ := hzz
  refine wpList_append_own _ hgd s x t ho base e i z 1 bytes ht hi hz hs1 hb1 hz1 (by decide) v n xs hs (hown.alloc _) ⟨W.heap.size, 0, none⟩ 1 1 [u] hx rfl (cell_one_new _ _ _) (fun u' hu' => ?_) h63 hbytes (by simp; omega) ?_
  · rw [List.mem_singleton] at hu'; rw [hu']; exact hu
  · intro v' w' h1 h2 _
    exact h v' w' h1 (own_below hown hb h2)

/-- a row that can be read: its cells, from a place on -/
def Cells (w : World) (A : Option Addr) (xs : List Value) : Prop := 0 < xs.length → ∃ b off, A = some ⟨b, off, none⟩ ∧ ∀ i u, xs[i]? = some u → w.cell? ⟨b, off + i, none⟩ = some u

theorem Cells.keep {w w' : World} {A : Option Addr} {xs : List Value} (h : Cells w A xs) (hb : Below w.heap.size w w') : Cells w' A xs := fun hp => by
  obtain ⟨b, off, e, hc⟩ := h hp
  refine ⟨b, off, e, fun i u hu => ?_⟩
  have h1 := hc i u hu
  rw [hb.cell (p := ⟨b, off + i, none⟩) (World.block_lt_of_cell? w _ h1)]
  exact h1

theorem Cells.of_own {w : World} {base : Nat} {e : TypeId} {A : Option Addr} {n c : Nat} {xs : List Value} (h : w.ownsRow base e 1 (.slice A n c) n xs) : Cells w A xs := fun hp => by
  have hl := h.1
  obtain ⟨g, cap, hv, _, hlt⟩ := h.form (by omega)
  have hA : A = some ⟨g, 0, none⟩ := by injection hv
  subst hA
  refine ⟨g, 0, rfl, fun i u hu => ?_⟩
  have := h.cells (g := g) rfl i u hu
  rw [← this]
  unfold Addr.add
  by_cases e0 : i = 0
  · subst e0; rfl
  · simp [e0]

/-- append(T{u}, xs...): the new row is u, then xs. -/
theorem wpList_append_behind (hgd : o.guard = none) (s x : Operand) (t : TypeId)
    (ho : o.op = .call { callee := .builtin .append, args := #[s, x], argTypes := #[t, t] })
    (base : Nat) (e : TypeId) (z : Value) (bytes : Nat) (ht : P.underlying t = some (.slice e)) (hinfo : (P.info? e).map (fun i => (i.zero, i.size, i.bytes)) = some (some z, 1, bytes)) (hz1 : z.cells.size = 1)
    (W : World) (u : Value) (A : Option Addr) (c n : Nat) (xs : List Value) (hxn : xs.length = n) (hs : a.eval s = .slice (some ⟨W.heap.size, 0, none⟩) 1 1) (hx : a.eval x = .slice A n c) (hA : A = none → n = 0 ∧ c = 0)
    (hr : Cells W A xs) (h1 : ∀ u ∈ xs, u.oneCell' = true) (hb : base ≤ W.heap.size) (h63 : 1 + n ≤ maxLen) (hbytes : (1 + n) * bytes ≤ 140737488355328)
    (h : ∀ v' w', w'.ownsRow base e 1 v' (1 + n) (u :: xs) → Below base W w' → wpList P ops Q rest (a.put o.dst v') w') : wpList P ops Q (o :: rest) a (W.alloc (.cells #[u] e)) := by
  subst hxn
  obtain ⟨i, hi, hzz⟩ := Option.map_eq_some_iff.1 hinfo
  simp only [Prod.mk.injEq] at hzz
  obtain ⟨hz, hs1, hb1⟩ := hzz
  have hown : (W.alloc (.cells #[u] e)).ownsRow base e 1 (.slice (some ⟨W.heap.size, 0, none⟩) 1 1) 1 [u] := World.ownsRow_lit W #[u] 1 hb (by unfold maxLen; omega) rfl
  have hbel : ∀ w', (W.alloc (.cells #[u] e)).grownBy w' (some W.heap.size) → Below base W w' := fun w' hg => ((Below.refl base W).alloc hb _).grown hg (by simp; omega) (fun k hk => by injection hk with hk; omega)
  cases hAA : A with
  | none =>
    obtain ⟨h0, hc0⟩ := hA hAA
    have hxs : xs = [] := List.eq_nil_of_length_eq_zero h0
    subst hxs
    subst hAA
    subst hc0
    refine wpList_append_own_none hgd s x t ho base e i 1 ht hi _ 1 [u] hs hown hx ?_
    exact h _ _ hown ((Below.refl base W).alloc hb _)
  | some ad =>
    subst hAA
    have hcells : ∀ j u', xs[j]? = some u' → (W.alloc (.cells #[u] e)).cell? (ad.add j) = some u' := by
      intro j u' hu'
      have hlt : j < xs.length := (List.getElem?_eq_some_iff.1 hu').1
      obtain ⟨b, off, he, hc⟩ := hr (by omega)
      injection he with he
      subst he
      have h2 := hc j u' hu'
      have e2 : (⟨b, off, none⟩ : Addr).add j = ⟨b, off + j, none⟩ := by
        unfold Addr.add
        by_cases e0 : j = 0
        · subst e0; rfl
        · simp [e0]
      rw [e2, World.cell?_alloc_lt _ _ _ (World.block_lt_of_cell? W _ h2)]
      exact h2
    refine wpList_append_own _ hgd s x t ho base e i z 1 bytes ht hi hz hs1 hb1 hz1 (by decide) _ 1 [u] hs hown ad xs.length c xs hx (by simp) hcells h1 h63 hbytes (by simp; omega) ?_
    intro v' w' h2 h3 _
    exact h v' w' h2 (hbel w' h3)
end
end Go.Proofs.Ytdahgmkbpiklpaa
