/-
  Lists of texts in memory: rows that can be read, rows of one's own.
-/
import Derived.Test.YtkflakeocdlinaaGreatDoorProg
import Derived.Test.YtkflakeocdlinaaGreatDoorOctPMC
import Derived.Test.YtkflakeocdlinaaGreatDoorMC02
import Derived.Test.YtkflakeocdlinaaGreatDoorMC01
import Derived.Laws.OwnMore
namespace Go.Proofs.YtkflakeocdlinaaGreatDoor
open Go.RowKit

theorem own_since {w w' : World} {B : Nat} {e : TypeId} {v : Value} {n : Nat} {xs : List Value} (h : w.ownsRow B e 1 v n xs) (hb : Below w.heap.size w w') : w'.ownsRow B e 1 v n xs :=
  own_stp h (Stp.of_below (fp := []) hb) (fun _ _ hk => by cases hk)

/-- values of lists of bytes -/
def sv (l : List (List UInt8)) : List Value := l.map fun s => Value.string (st s)
theorem sv_length (l : List (List UInt8)) : (sv l).length = l.length := by simp [sv]

theorem infoStr : (Tryz.prog.info? 9).map (fun i => (i.zero, i.size, i.bytes)) = some (some (.string ⟨#[]⟩), 1, 16) := by kernel_rfl

/-- a row of texts -/
def RowS (w : World) (a : Option Addr) (ls : List (List UInt8)) : Prop :=
  0 < ls.length → ∃ b off, a = some ⟨b, off, none⟩ ∧ ∀ i x, ls[i]? = some x → w.cell? ⟨b, off + i, none⟩ = some (.string (st x))

theorem RowS.keep {w w' : World} {a : Option Addr} {ls : List (List UInt8)} (h : RowS w a ls) (hb : Below w.heap.size w w') : RowS w' a ls := by
  intro h0
  obtain ⟨b, off, e, hc⟩ := h h0
  refine ⟨b, off, e, fun i x hx => ?_⟩
  have c := hc i x hx
  rw [hb.cell (p := ⟨b, off + i, none⟩) (World.block_lt_of_cell? w _ c)]
  exact c

theorem RowS.of_own {w : World} {base : Nat} {a : Option Addr} {n c : Nat} {ls : List (List UInt8)} (h : w.ownsRow base 9 1 (.slice a n c) n (sv ls)) : RowS w a ls := by
  intro h0
  obtain ⟨b, off, e, hc⟩ := (Cells.of_own h) (by rw [sv_length]; exact h0)
  refine ⟨b, off, e, fun i x hx => hc i _ ?_⟩
  simp [sv, hx]

theorem own_slice {w : World} {B : Nat} {e : TypeId} {v : Value} {n : Nat} {xs : List Value} (h : w.ownsRow B e 1 v n xs) : ∃ a c, v = .slice a n c := by
  rcases h.2 with ⟨hv, h0⟩ | ⟨g, cap, cur, hv, _⟩
  · exact ⟨none, 0, by rw [hv, h0]⟩
  · exact ⟨_, _, hv⟩

theorem RowS.cells {w : World} {a : Option Addr} {ls : List (List UInt8)} (h : RowS w a ls) : Cells w a (sv ls) := by
  intro h0
  obtain ⟨b, off, e, hc⟩ := h (by rw [sv_length] at h0; exact h0)
  refine ⟨b, off, e, fun i u hu => ?_⟩
  unfold sv at hu
  rw [List.getElem?_map] at hu
  obtain ⟨x, hx, rfl⟩ := Option.map_eq_some_iff.1 hu
  exact hc i x hx

theorem sv_one (ls : List (List UInt8)) : ∀ u ∈ sv ls, u.oneCell' = true := by
  intro u hu
  obtain ⟨x, _, rfl⟩ := List.mem_map.1 hu
  rfl

theorem st_neb {a b : List UInt8} (h : a ≠ b) : ((st a).toList == (st b).toList) = false := by
  rw [Go.Lib.toList_data, Go.Lib.toList_data, st_toList, st_toList, beq_eq_false_iff_ne]
  exact h

theorem st_at (l : List UInt8) (k : Nat) (h : k < (st l).size) : ((st l)[k]'h).toNat = (l.getD k 0).toNat := by
  have h2 : k < l.length := by rw [st_size] at h; exact h
  rw [List.getD_eq_getElem?_getD, List.getElem?_eq_getElem h2]; rfl

end Go.Proofs.YtkflakeocdlinaaGreatDoor
/-
  Append of one struct of several cells, onto an own row.
-/
namespace Go.Proofs.YtkflakeocdlinaaGreatDoor
open Go.RowKit

section
variable {P : Program} {ops : Array Oper} {rest : List Oper} {o : Oper} {a : Act} {Q : Exit → Act → World → Prop}

/-- append of one struct of several cells, onto an own row -/
theorem wpList_append_struct (hgd : o.guard = none) (s x : Operand) (t : TypeId)
    (ho : o.op = .call { callee := .builtin .append, args := #[s, x], argTypes := #[t, t] })
    (base : Nat) (e : TypeId) (z : Value) (size bytes : Nat) (ht : P.underlying t = some (.slice e)) (hinfo : (P.info? e).map (fun i => (i.zero, i.size, i.bytes)) = some (some z, size, bytes)) (hzs : z.cells.size = size) (hsz : 0 < size)
    (W : World) (cs : Array Value) (hcs : cs.size = size) (hu : ∀ u ∈ cs.toList, u.oneCell' = true) (v : Value) (n : Nat) (xs : List Value) (hs : a.eval s = v) (hx : a.eval x = .slice (some ⟨W.heap.size, 0, none⟩) 1 1)
    (hown : W.ownsRow base e size v n xs) (hb : base ≤ W.heap.size) (h63 : n + 1 ≤ maxLen) (hbytes : (n + 1) * bytes ≤ 140737488355328)
    (h : ∀ v' w', w'.ownsRow base e size v' (n + 1) (xs ++ cs.toList) → Below base W w' → wpList P ops Q rest (a.put o.dst v') w') : wpList P ops Q (o :: rest) a (W.alloc (.cells cs e)) := by
  obtain ⟨i, hi, hzz⟩ := Option.map_eq_some_iff.1 hinfo
  simp only [Prod.mk.injEq] at hzz
  obtain ⟨hz, hs1, hb1⟩ := hzz
  refine wpList_append_own _ hgd s x t ho base e i z size bytes ht hi hz hs1 hb1 hzs hsz v n xs hs (hown.alloc _) ⟨W.heap.size, 0, none⟩ 1 1 cs.toList hx (by simp [hcs]) (fun j u hj => ?_) hu h63 hbytes (by simp; omega) ?_
  · have h1 := (Blk.new W e cs).cell j
    have e2 : (⟨W.heap.size, 0, none⟩ : Addr).add j = ⟨W.heap.size, j, none⟩ := by
      unfold Addr.add
      by_cases e0 : j = 0
      · subst e0; rfl
      · simp [e0]
    rw [e2, h1, ← Array.getElem?_toList]
    exact hj
  · intro v' w' h1 h2 _
    exact h v' w' h1 (((Below.refl base W).alloc hb _).grown h2 (by simp; omega) (fun k hk => (hown.lt k hk).1))

/-- the same; what has turned is the row alone -/
theorem wpList_append_structG (hgd : o.guard = none) (s x : Operand) (t : TypeId)
    (ho : o.op = .call { callee := .builtin .append, args := #[s, x], argTypes := #[t, t] })
    (base : Nat) (e : TypeId) (z : Value) (size bytes : Nat) (ht : P.underlying t = some (.slice e)) (hinfo : (P.info? e).map (fun i => (i.zero, i.size, i.bytes)) = some (some z, size, bytes)) (hzs : z.cells.size = size) (hsz : 0 < size)
    (W : World) (cs : Array Value) (hcs : cs.size = size) (hu : ∀ u ∈ cs.toList, u.oneCell' = true) (v : Value) (n : Nat) (xs : List Value) (hs : a.eval s = v) (hx : a.eval x = .slice (some ⟨W.heap.size, 0, none⟩) 1 1)
    (hown : W.ownsRow base e size v n xs) (hb : base ≤ W.heap.size) (h63 : n + 1 ≤ maxLen) (hbytes : (n + 1) * bytes ≤ 140737488355328)
    (h : ∀ v' w', w'.ownsRow base e size v' (n + 1) (xs ++ cs.toList) → (W.alloc (.cells cs e)).grownBy w' v.ownBlock → wpList P ops Q rest (a.put o.dst v') w') : wpList P ops Q (o :: rest) a (W.alloc (.cells cs e)) := by
  obtain ⟨i, hi, hzz⟩ := Option.map_eq_some_iff.1 hinfo
  simp only [Prod.mk.injEq] at hzz
  obtain ⟨hz, hs1, hb1⟩ := hzz
  refine wpList_append_own _ hgd s x t ho base e i z size bytes ht hi hz hs1 hb1 hzs hsz v n xs hs (hown.alloc _) ⟨W.heap.size, 0, none⟩ 1 1 cs.toList hx (by simp [hcs]) (fun j u hj => ?_) hu h63 hbytes (by simp; omega) ?_
  · have h1 := (Blk.new W e cs).cell j
    have e2 : (⟨W.heap.size, 0, none⟩ : Addr).add j = ⟨W.heap.size, j, none⟩ := by
      unfold Addr.add
      by_cases e0 : j = 0
      · subst e0; rfl
      · simp [e0]
    rw [e2, h1, ← Array.getElem?_toList]
    exact hj
  · intro v' w' h1 h2 _
    exact h v' w' h1 h2
end

theorem new_at (w : World) (o : Obj) : Value.slice (some ⟨w.heap.size + 1, 0, none⟩) 1 1 = Value.slice (some ⟨(w.alloc o).heap.size, 0, none⟩) 1 1 := by simp

end Go.Proofs.YtkflakeocdlinaaGreatDoor
/-
  Append of a whole row.
-/
namespace Go.Proofs.YtkflakeocdlinaaGreatDoor
open Go.RowKit

section
variable {P : Program} {ops : Array Oper} {rest : List Oper} {o : Oper} {a : Act} {Q : Exit → Act → World → Prop}
/-- append(v, A...): the row v, then ys. -/
theorem wpList_append_row (hgd : o.guard = none) (s x : Operand) (t : TypeId)
    (ho : o.op = .call { callee := .builtin .append, args := #[s, x], argTypes := #[t, t] })
    (base : Nat) (e : TypeId) (z : Value) (bytes : Nat) (ht : P.underlying t = some (.slice e)) (hinfo : (P.info? e).map (fun i => (i.zero, i.size, i.bytes)) = some (some z, 1, bytes)) (hz1 : z.cells.size = 1)
    (W : World) (v : Value) (n : Nat) (xs : List Value) (A : Option Addr) (c m : Nat) (ys : List Value) (hyn : ys.length = m) (hs : a.eval s = v) (hx : a.eval x = .slice A m c) (hA : A = none → m = 0 ∧ c = 0)
    (hown : W.ownsRow base e 1 v n xs) (hr : Cells W A ys) (h1 : ∀ u ∈ ys, u.oneCell' = true) (hb : base ≤ W.heap.size) (h63 : n + m ≤ maxLen) (hbytes : (n + m) * bytes ≤ 140737488355328)
    (h : ∀ v' w', w'.ownsRow base e 1 v' (n + m) (xs ++ ys) → Below base W w' → wpList P ops Q rest (a.put o.dst v') w') : wpList P ops Q (o :: rest) a W := by
  subst hyn
  obtain ⟨i, hi, hzz⟩ := Option.map_eq_some_iff.1 hinfo
  simp only [Prod.mk.injEq] at hzz
  obtain ⟨hz, hs1, hb1⟩ := hzz
  cases hAA : A with
  | none =>
    obtain ⟨h0, hc0⟩ := hA hAA
    have hxs : ys = [] := List.eq_nil_of_length_eq_zero h0
    subst hxs
    subst hAA
    subst hc0
    refine wpList_append_own_none hgd s x t ho base e i 1 ht hi _ n xs hs hown hx ?_
    exact h _ _ (by simpa using hown) (Below.refl base W)
  | some ad =>
    subst hAA
    have hcells : ∀ j u', ys[j]? = some u' → W.cell? (ad.add j) = some u' := by
      intro j u' hu'
      have hlt : j < ys.length := (List.getElem?_eq_some_iff.1 hu').1
      obtain ⟨b, off, he, hc⟩ := hr (by omega)
      injection he with he
      subst he
      have h2 := hc j u' hu'
      have e2 : (⟨b, off, none⟩ : Addr).add j = ⟨b, off + j, none⟩ := by
        unfold Addr.add
        by_cases e0 : j = 0
        · subst e0; rfl
        · simp [e0]
      rw [e2]
      exact h2
    refine wpList_append_own _ hgd s x t ho base e i z 1 bytes ht hi hz hs1 hb1 hz1 (by decide) _ n xs hs hown ad ys.length c ys hx (by simp) hcells h1 h63 hbytes hb ?_
    intro v' w' h2 h3 _
    exact h v' w' h2 ((Below.refl base W).grown h3 hb (fun k hk => (hown.lt k hk).1))
/-- the same; the row alone has turned -/
theorem wpList_append_rowG (hgd : o.guard = none) (s x : Operand) (t : TypeId)
    (ho : o.op = .call { callee := .builtin .append, args := #[s, x], argTypes := #[t, t] })
    (base : Nat) (e : TypeId) (z : Value) (bytes : Nat) (ht : P.underlying t = some (.slice e)) (hinfo : (P.info? e).map (fun i => (i.zero, i.size, i.bytes)) = some (some z, 1, bytes)) (hz1 : z.cells.size = 1)
    (W : World) (v : Value) (n : Nat) (xs : List Value) (g c m : Nat) (ys : List Value) (hyn : ys.length = m) (hs : a.eval s = v) (hx : a.eval x = .slice (some ⟨g, 0, none⟩) m c)
    (hown : W.ownsRow base e 1 v n xs) (hr : ∀ (j : Nat) (u : Value), ys[j]? = some u → W.cell? ⟨g, j, none⟩ = some u) (h1 : ∀ u ∈ ys, u.oneCell' = true) (hb : base ≤ W.heap.size) (h63 : n + m ≤ maxLen) (hbytes : (n + m) * bytes ≤ 140737488355328)
    (h : ∀ v' w', w'.ownsRow base e 1 v' (n + m) (xs ++ ys) → W.grownBy w' v.ownBlock → wpList P ops Q rest (a.put o.dst v') w') : wpList P ops Q (o :: rest) a W := by
  subst hyn
  obtain ⟨i, hi, hzz⟩ := Option.map_eq_some_iff.1 hinfo
  simp only [Prod.mk.injEq] at hzz
  obtain ⟨hz, hs1, hb1⟩ := hzz
  refine wpList_append_own _ hgd s x t ho base e i z 1 bytes ht hi hz hs1 hb1 hz1 (by decide) v n xs hs hown ⟨g, 0, none⟩ ys.length c ys hx (by simp) (fun j u hj => ?_) h1 h63 hbytes hb ?_
  · have e2 : (⟨g, 0, none⟩ : Addr).add j = ⟨g, j, none⟩ := by
      unfold Addr.add
      by_cases e0 : j = 0
      · subst e0; rfl
      · simp [e0]
    rw [e2]
    exact hr j u hj
  · intro v' w' h2 h3 _
    exact h v' w' h2 h3

end
end Go.Proofs.YtkflakeocdlinaaGreatDoor
