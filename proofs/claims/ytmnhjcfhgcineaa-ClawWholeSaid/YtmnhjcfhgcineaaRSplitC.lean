/-
  The two rows of the document's Split while they grow: the parts, and the rests.
-/
import Derived.Test.YtmnhjcfhgcineaaRSplitB
namespace Go.Proofs.Ytmnhjcfhgcineaa
open Go.RowKit

/-- a rest's row, and that it lies in neither of the two rows -/
structure Rst (vo vr : Value) (wr : World) (v : Value) (bs : List Bool) : Prop where
  wb : WB wr v bs
  far : 0 < bs.length → ∀ ad m c, v = .slice (some ad) m c → some ad.block ≠ vo.ownBlock ∧ some ad.block ≠ vr.ownBlock

theorem WB.blk {w : World} {ad : Addr} {m c : Nat} {bs : List Bool} (h : WB w (.slice (some ad) m c) bs) (hp : 0 < bs.length) : ad.block < w.heap.size := by
  obtain ⟨A, c', e, _, _, _, hc⟩ := h
  injection e with e
  obtain ⟨b, off, rfl, hcell⟩ := hc.bool hp
  injection e with e
  rw [e]
  exact World.block_lt_of_cell? w _ (hcell 0 hp)

theorem WB.grown {w w' : World} {v : Value} {bs : List Bool} {row : Option Nat} (h : WB w v bs) (hg : w.grownBy w' row) (hne : 0 < bs.length → ∀ ad m c, v = .slice (some ad) m c → some ad.block ≠ row) : WB w' v bs := by
  obtain ⟨A, c, e, h1, h2, h3, hc⟩ := h
  refine ⟨A, c, e, h1, h2, h3, fun hp => ?_⟩
  obtain ⟨b, off, rfl, hcell⟩ := hc hp
  refine ⟨b, off, rfl, fun i u hu => ?_⟩
  have hk := hcell i u hu
  rw [List.length_map] at hp
  exact hg.cell hk (hne hp ⟨b, off, none⟩ _ _ e)

/-- a row stays where it is, or is a new one -/
def Lies (W : World) (v v' : Value) : Prop := v'.ownBlock = v.ownBlock ∨ ∀ g, v'.ownBlock = some g → W.heap.size ≤ g

theorem Rst.grow {vo vr vo' vr' : Value} {W w' : World} {v : Value} {bs : List Bool} {row : Option Nat} (h : Rst vo vr W v bs) (hg : W.grownBy w' row) (hrow : row = vo.ownBlock ∨ row = vr.ownBlock ∨ row = none)
    (h1 : Lies W vo vo') (h2 : Lies W vr vr') : Rst vo' vr' w' v bs := by
  refine ⟨h.wb.grown hg fun hp ad m c e => ?_, fun hp ad m c e => ?_⟩
  · have hf := h.far hp ad m c e
    rcases hrow with e1 | e1 | e1
    · rw [e1]; exact hf.1
    · rw [e1]; exact hf.2
    · rw [e1]; simp
  · have hf := h.far hp ad m c e
    subst e
    have hlt := h.wb.blk hp
    refine ⟨fun e => ?_, fun e => ?_⟩
    · rcases h1 with k | k
      · exact hf.1 (by rw [e, k])
      · have := k _ e.symm; omega
    · rcases h2 with k | k
      · exact hf.2 (by rw [e, k])
      · have := k _ e.symm; omega

/-- the rows when k parts are reckoned -/
structure RS (T S : Nat) (W : Nat → Nat) (w wr : World) (vo vr : Value) (k : Nat) (vs : List Value) : Prop where
  own1 : wr.ownsRow w.heap.size 2 1 vo k ((List.range k).map fun i => Value.int .i64 (qf T S W i : Nat))
  own2 : wr.ownsRow w.heap.size 58 1 vr k vs
  dist : ∀ g, vo.ownBlock = some g → vr.ownBlock ≠ some g
  rest : ∀ i, i < k → ∃ v bs, vs[i]? = some v ∧ val bs = rf T S W i ∧ bs.length ≤ 64 ∧ Rst vo vr wr v bs
  below : Below w.heap.size w wr

theorem RS.nil (T S : Nat) (W : Nat → Nat) (w : World) : RS T S W w w (.slice none 0 0) (.slice none 0 0) 0 [] :=
  ⟨World.ownsRow_nil _ _ _ _, World.ownsRow_nil _ _ _ _, (fun g h => by cases h), (fun i h => by omega), Below.refl _ _⟩

theorem Below.grown_none {w w' : World} (h : Below w.heap.size w w') : w.grownBy w' none := ⟨h.os, h.tape, h.output, h.size, fun k hk _ => h.block k hk⟩

theorem own_keep {w w' : World} {base : Nat} {e : TypeId} {v : Value} {n : Nat} {xs : List Value} (h : w.ownsRow base e 1 v n xs) (hb : Below w.heap.size w w') : w'.ownsRow base e 1 v n xs :=
  h.kept (Below.grown_none hb) (by cases hv : v.ownBlock with
    | none => exact .inl rfl
    | some g => exact .inr (by simp))

/-- the part's row behind the reckoning -/
theorem RS.two {T S : Nat} {W : Nat → Nat} {w wr w5 w6 : World} {vo vr : Value} {k : Nat} {vs : List Value} (h : RS T S W w wr vo vr k vs) (hb : Below wr.heap.size wr w5) (hg : w5.grownBy w6 vo.ownBlock) :
    w6.ownsRow w.heap.size 58 1 vr k vs :=
  (own_keep h.own2 hb).kept hg (by
    cases hv : vr.ownBlock with
    | none => exact .inl rfl
    | some g => exact .inr (fun e => h.dist g e.symm hv))

theorem RS.step {T S : Nat} {W : Nat → Nat} {w wr w5 w6 w7 : World} {vo vr : Value} {k g1 c1 g2 c2 : Nat} {vs : List Value} {v : Value} {bs : List Bool} (h : RS T S W w wr vo vr k vs) (hb : Below wr.heap.size wr w5)
    (hv : WB w5 v bs) (hbs : val bs = rf T S W k) (hlen : bs.length ≤ 64) (hfr : ∀ ad m c, v = .slice (some ad) m c → wr.heap.size ≤ ad.block)
    (o1 : w6.ownsRow w.heap.size 2 1 (.slice (some ⟨g1, 0, none⟩) (k + 1) c1) (k + 1) ((List.range k).map (fun i => Value.int .i64 (qf T S W i : Nat)) ++ [.int .i64 (qf T S W k : Nat)]))
    (b1 : w5.grownBy w6 vo.ownBlock) (l1 : vo.ownBlock = some g1 ∨ w5.heap.size < g1)
    (o2 : w7.ownsRow w.heap.size 58 1 (.slice (some ⟨g2, 0, none⟩) (k + 1) c2) (k + 1) (vs ++ [v]))
    (b2 : w6.grownBy w7 vr.ownBlock) (l2 : vr.ownBlock = some g2 ∨ w6.heap.size < g2) :
    RS T S W w w7 (.slice (some ⟨g1, 0, none⟩) (k + 1) c1) (.slice (some ⟨g2, 0, none⟩) (k + 1) c2) (k + 1) (vs ++ [v]) := by
  have hlo := fun g (e : vo.ownBlock = some g) => (h.own1.lt g e)
  have hlr := fun g (e : vr.ownBlock = some g) => (h.own2.lt g e)
  have hvl : vs.length = k := by have := h.own2.1; omega
  have s5 := hb.size
  have s6 := b1.size
  have hg1 : g1 < w6.heap.size := (o1.lt g1 rfl).2
  have hd1 : vr.ownBlock ≠ some g1 := fun e => by
    rcases l1 with k1 | k1
    · exact h.dist g1 k1 e
    · have := (hlr g1 e).2; omega
  have hd2 : g1 ≠ g2 := fun e => by
    rcases l2 with k2 | k2
    · rw [← e] at k2; exact hd1 k2
    · omega
  have L1 : Lies w5 vo (.slice (some ⟨g1, 0, none⟩) (k + 1) c1) := by
    rcases l1 with k1 | k1
    · exact .inl k1.symm
    · refine .inr fun g e => ?_
      have : g1 = g := Option.some.inj e
      omega
  have L2 : Lies w6 vr (.slice (some ⟨g2, 0, none⟩) (k + 1) c2) := by
    rcases l2 with k1 | k1
    · exact .inl k1.symm
    · refine .inr fun g e => ?_
      have : g2 = g := Option.some.inj e
      omega
  have hnew : Rst vo vr w5 v bs := ⟨hv, fun hp ad m c e => ⟨fun e' => by have := (hlo _ e'.symm).2; have := hfr ad m c e; omega, fun e' => by have := (hlr _ e'.symm).2; have := hfr ad m c e; omega⟩⟩
  have hall : ∀ {u : Value} {us : List Bool}, Rst vo vr w5 u us → Rst (.slice (some ⟨g1, 0, none⟩) (k + 1) c1) (.slice (some ⟨g2, 0, none⟩) (k + 1) c2) w7 u us := fun hu =>
    (hu.grow b1 (.inl rfl) L1 (.inl rfl)).grow b2 (.inr (.inl rfl)) (.inl rfl) L2
  refine ⟨?_, o2, fun g e => ?_, fun i hi => ?_, ?_⟩
  · have := o1.kept b2 (.inr (fun e => hd1 (by rw [← e]; rfl)))
    rw [List.range_succ, List.map_append]
    exact this
  · have e1 : g1 = g := Option.some.inj e
    rw [← e1]
    exact fun e2 => hd2 (Option.some.inj e2).symm
  · by_cases hik : i < k
    · obtain ⟨u, us, q1, q2, q3, q4⟩ := h.rest i hik
      refine ⟨u, us, by rw [List.getElem?_append_left (by omega)]; exact q1, q2, q3, hall (q4.grow (Below.grown_none hb) (.inr (.inr rfl)) (.inl rfl) (.inl rfl))⟩
    · have e : i = k := by omega
      subst e
      refine ⟨v, bs, by rw [List.getElem?_append_right (by omega), hvl, Nat.sub_self]; rfl, hbs, hlen, hall hnew⟩
  · have hbel : Below w.heap.size w w5 := h.below.trans (hb.mono h.below.size)
    have hb6 := hbel.grown b1 hbel.size (fun g e => (hlo g e).1)
    exact hb6.grown b2 hb6.size (fun g e => (hlr g e).1)
end Go.Proofs.Ytmnhjcfhgcineaa
