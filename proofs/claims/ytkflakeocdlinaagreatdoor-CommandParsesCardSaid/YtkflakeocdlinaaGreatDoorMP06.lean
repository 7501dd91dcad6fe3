/-
  The two rows of the document's Split while they grow: the parts, and the rests.
-/
import Derived.Test.YtkflakeocdlinaaGreatDoorRSplitBMP
import Derived.Test.YtkflakeocdlinaaGreatDoorMP05
namespace Go.Proofs.YtkflakeocdlinaaGreatDoor
open Go.RowKit

/-- a rest's row, and that it lies in neither of the two rows -/
structure Rst (vo vr : Value) (wr : World) (v : Value) (bs : List Bool) : Prop where
  wb : WB wr v bs
  far : 0 < bs.length → ∀ ad m c, v = .slice (some ad) m c → some ad.block ≠ vo.ownBlock ∧ some ad.block ≠ vr.ownBlock

theorem WB.blk {w : World} {ad : Addr} {m c : Nat} {bs : List Bool} (h : WB w (.slice (some ad) m c) bs) (hp : 0 < bs.length) : ad.block < w.heap.size := by
  obtain ⟨A, c', e, _, _, _, hc⟩ := h
  injection e with e
  obtain ⟨b, off, rfl, hcell⟩ := hc.bool hp
  injection e with e
  rw [e]
  exact World.block_lt_of_cell? w _ (hcell 0 hp)

theorem WB.grown {w w' : World} {v : Value} {bs : List Bool} {row : Option Nat} (h : WB w v bs) (hg : w.grownBy w' row) (hne : 0 < bs.length → ∀ ad m c, v = .slice (some ad) m c → some ad.block ≠ row) : WB w' v bs := by
  obtain ⟨A, c, e, h1, h2, h3, hc⟩ := h
  refine ⟨A, c, e, h1, h2, h3, fun hp => ?_⟩
  obtain ⟨b, off, rfl, hcell⟩ := hc hp
  refine ⟨b, off, rfl, fun i u hu => ?_⟩
  have hk := hcell i u hu
  rw [List.length_map] at hp
  exact hg.cell hk (hne hp ⟨b, off, none⟩ _ _ e)

/-- a row stays where it is, or is a new one -/
def Lies (W : World) (v v' : Value) : Prop := v'.ownBlock = v.ownBlock ∨ ∀ g, v'.ownBlock = some g → W.heap.size ≤ g

theorem Rst.grow {vo vr vo' vr' : Value} {W w' : World} {v : Value} {bs : List Bool} {row : Option Nat} (h : Rst vo vr W v bs) (hg : W.grownBy w' row) (hrow : row = vo.ownBlock ∨ row = vr.ownBlock ∨ row = none)
    (h1 : Lies W vo vo') (h2 : Lies W vr vr') : Rst vo' vr' w' v bs := by
  refine ⟨h.wb.grown hg fun hp ad m c e => ?_, fun hp ad m c e => ?_⟩
  · have hf := h.far hp ad m c e
    rcases hrow with e1 | e1 | e1
    · rw [e1]; exact hf.1
    · rw [e1]; exact hf.2
    · rw [e1]; simp
  · have hf := h.far hp ad m c e
    subst e
    have hlt := h.wb.blk hp
    refine ⟨fun e => ?_, fun e => ?_⟩
    · rcases h1 with k | k
      · exact hf.1 (by rw [e, k])
      · have := k _ e.symm; omega
    · rcases h2 with k | k
      · exact hf.2 (by rw [e, k])
      · have := k _ e.symm; omega

/-- the rows when k parts are reckoned -/
structure RS (T S : Nat) (W : Nat → Nat) (w wr : World) (vo vr : Value) (k : Nat) (vs : List Value) : Prop where
  own1 : wr.ownsRow w.heap.size 2 1 vo k ((List.range k).map fun i => Value.int .i64 (qf T S W i : Nat))
  own2 : wr.ownsRow w.heap.size 123 1 vr k vs
  dist : ∀ g, vo.ownBlock = some g → vr.ownBlock ≠ some g
  rest : ∀ i, i < k → ∃ v bs, vs[i]? = some v ∧ val bs = rf T S W i ∧ bs.length ≤ 64 ∧ Rst vo vr wr v bs
  below : Below w.heap.size w wr

theorem RS.nil (T S : Nat) (W : Nat → Nat) (w : World) : RS T S W w w (.slice none 0 0) (.slice none 0 0) 0 [] :=
  ⟨World.ownsRow_nil _ _ _ _, World.ownsRow_nil _ _ _ _, (fun g h => by cases h), (fun i h => by omega), Below.refl _ _⟩

theorem Below.grown_none {w w' : World} (h : Below w.heap.size w w') : w.grownBy w' none := ⟨h.os, h.tape, h.output, h.size, fun k hk _ => h.block k hk⟩

theorem own_keep {w w' : World} {base : Nat} {e : TypeId} {v : Value} {n : Nat} {xs : List Value} (h : w.ownsRow base e 1 v n xs) (hb : Below w.heap.size w w') : w'.ownsRow base e 1 v n xs :=
  h.kept (Below.grown_none hb) (by cases hv : v.ownBlock with
    | none => exact .inl rfl
    | some g => exact .inr (by simp))

/-- the part's row behind the reckoning -/
theorem RS.two {T S : Nat} {W : Nat → Nat} {w wr w5 w6 : World} {vo vr : Value} {k : Nat} {vs : List Value} (h : RS T S W w wr vo vr k vs) (hb : Below wr.heap.size wr w5) (hg : w5.grownBy w6 vo.ownBlock) :
    w6.ownsRow w.heap.size 123 1 vr k vs :=
  (own_keep h.own2 hb).kept hg (by
    cases hv : vr.ownBlock with
    | none => exact .inl rfl
    | some g => exact .inr (fun e => h.dist g e.symm hv))

theorem RS.step {T S : Nat} {W : Nat → Nat} {w wr w5 w6 w7 : World} {vo vr : Value} {k g1 c1 g2 c2 : Nat} {vs : List Value} {v : Value} {bs : List Bool} (h : RS T S W w wr vo vr k vs) (hb : Below wr.heap.size wr w5)
    (hv : WB w5 v bs) (hbs : val bs = rf T S W k) (hlen : bs.length ≤ 64) (hfr : ∀ ad m c, v = .slice (some ad) m c → wr.heap.size ≤ ad.block)
    (o1 : w6.ownsRow w.heap.size 2 1 (.slice (some ⟨g1, 0, none⟩) (k + 1) c1) (k + 1) ((List.range k).map (fun i => Value.int .i64 (qf T S W i : Nat)) ++ [.int .i64 (qf T S W k : Nat)]))
    (b1 : w5.grownBy w6 vo.ownBlock) (l1 : vo.ownBlock = some g1 ∨ w5.heap.size < g1)
    (o2 : w7.ownsRow w.heap.size 123 1 (.slice (some ⟨g2, 0, none⟩) (k + 1) c2) (k + 1) (vs ++ [v]))
    (b2 : w6.grownBy w7 vr.ownBlock) (l2 : vr.ownBlock = some g2 ∨ w6.heap.size < g2) :
    RS T S W w w7 (.slice (some ⟨g1, 0, none⟩) (k + 1) c1) (.slice (some ⟨g2, 0, none⟩) (k + 1) c2) (k + 1) (vs ++ [v]) := by
  have hlo := fun g (e : vo.ownBlock = some g) => (h.own1.lt g e)
  have hlr := fun g (e : vr.ownBlock = some g) => (h.own2.lt g e)
  have hvl : vs.length = k := by have := h.own2.1; omega
  have s5 := hb.size
  have s6 := b1.size
  have hg1 : g1 < w6.heap.size := (o1.lt g1 rfl).2
  have hd1 : vr.ownBlock ≠ some g1 := fun e => by
    rcases l1 with k1 | k1
    · exact h.dist g1 k1 e
    · have := (hlr g1 e).2; omega
  have hd2 : g1 ≠ g2 := fun e => by
    rcases l2 with k2 | k2
    · rw [← e] at k2; exact hd1 k2
    · omega
  have L1 : Lies w5 vo (.slice (some ⟨g1, 0, none⟩) (k + 1) c1) := by
    rcases l1 with k1 | k1
    · exact .inl k1.symm
    · refine .inr fun g e => ?_
      have : g1 = g := Option.some.inj e
      omega
  have L2 : Lies w6 vr (.slice (some ⟨g2, 0, none⟩) (k + 1) c2) := by
    rcases l2 with k1 | k1
    · exact .inl k1.symm
    · refine .inr fun g e => ?_
      have : g2 = g := Option.some.inj e
      omega
  have hnew : Rst vo vr w5 v bs := ⟨hv, fun hp ad m c e => ⟨fun e' => by have := (hlo _ e'.symm).2; have := hfr ad m c e; omega, fun e' => by have := (hlr _ e'.symm).2; have := hfr ad m c e; omega⟩⟩
  have hall : ∀ {u : Value} {us : List Bool}, Rst vo vr w5 u us → Rst (.slice (some ⟨g1, 0, none⟩) (k + 1) c1) (.slice (some ⟨g2, 0, none⟩) (k + 1) c2) w7 u us := fun hu =>
    (hu.grow b1 (.inl rfl) L1 (.inl rfl)).grow b2 (.inr (.inl rfl)) (.inl rfl) L2
  refine ⟨?_, o2, fun g e => ?_, fun i hi => ?_, ?_⟩
  · have := o1.kept b2 (.inr (fun e => hd1 (by rw [← e]; rfl)))
    rw [List.range_succ, List.map_append]
    exact this
  · have e1 : g1 = g := Option.some.inj e
    rw [← e1]
    exact fun e2 => hd2 (Option.some.inj e2).symm
  · by_cases hik : i < k
    · obtain ⟨u, us, q1, q2, q3, q4⟩ := h.rest i hik
      refine ⟨u, us, by rw [List.getElem?_append_left (by omega)]; exact q1, q2, q3, hall (q4.grow (Below.grown_none hb) (.inr (.inr rfl)) (.inl rfl) (.inl rfl))⟩
    · have e : i = k := by omega
      subst e
      refine ⟨v, bs, by rw [List.getElem?_append_right (by omega), hvl, Nat.sub_self]; rfl, hbs, hlen, hall hnew⟩
  · have hbel : Below w.heap.size w w5 := h.below.trans (hb.mono h.below.size)
    have hb6 := hbel.grown b1 hbel.size (fun g e => (hlo g e).1)
    exact hb6.grown b2 hb6.size (fun g e => (hlr g e).1)
end Go.Proofs.YtkflakeocdlinaaGreatDoor
/-
  The document's Split while it picks: its two rows.
-/
namespace Go.Proofs.YtkflakeocdlinaaGreatDoor
open Go.RowKit

/-- the parts when m places have got one more -/
def outK (T S : Nat) (W t : Nat → Nat) (n m : Nat) : List Value := (List.range n).map fun i => .int .i64 (partK T S W t m i : Nat)
/-- the rests that are there still -/
def restK (t : Nat → Nat) (vs : List Value) (n m : Nat) : List Value := (List.range n).map fun i => if t i < m then .slice none 0 0 else vs.getD i (.slice none 0 0)

theorem outK_length (T S : Nat) (W t : Nat → Nat) (n m : Nat) : (outK T S W t n m).length = n := by simp [outK]
theorem restK_length (t : Nat → Nat) (vs : List Value) (n m : Nat) : (restK t vs n m).length = n := by simp [restK]
theorem outK_get {T S : Nat} {W t : Nat → Nat} {n m i : Nat} (h : i < n) : (outK T S W t n m)[i]? = some (.int .i64 (partK T S W t m i : Nat)) := by
  unfold outK; rw [List.getElem?_map, List.getElem?_range h]; rfl
theorem restK_get {t : Nat → Nat} {vs : List Value} {n m i : Nat} (h : i < n) : (restK t vs n m)[i]? = some (if t i < m then .slice none 0 0 else vs.getD i (.slice none 0 0)) := by
  unfold restK; rw [List.getElem?_map, List.getElem?_range h]; rfl

theorem outK_step {T S : Nat} {W t s : Nat → Nat} {n m : Nat} {key : Nat → Int} (ho : Ordr n key s t) :
    (outK T S W t n m).set (s m) (.int .i64 ((partK T S W t m (s m) : Nat) + 1)) = outK T S W t n (m + 1) := by
  apply List.ext_getElem?
  intro i
  by_cases hi : i < n
  · rw [outK_get hi]
    by_cases e : i = s m
    · subst e
      rw [List.getElem?_set_self (by rw [outK_length]; exact hi)]
      unfold partK
      rw [ho.ts, if_neg (by omega), if_pos (by omega)]
      rfl
    · rw [List.getElem?_set_ne (fun h => e h.symm), outK_get hi]
      have : t i ≠ m := fun e' => e (by rw [← e', ho.st])
      unfold partK
      by_cases h : t i < m
      · rw [if_pos h, if_pos (by omega)]
      · rw [if_neg h, if_neg (by omega)]
  · rw [List.getElem?_eq_none (by rw [List.length_set, outK_length]; omega), List.getElem?_eq_none (by rw [outK_length]; omega)]

theorem restK_step {t s : Nat → Nat} {vs : List Value} {n m : Nat} {key : Nat → Int} (ho : Ordr n key s t) :
    (restK t vs n m).set (s m) (.slice none 0 0) = restK t vs n (m + 1) := by
  apply List.ext_getElem?
  intro i
  by_cases hi : i < n
  · rw [restK_get hi]
    by_cases e : i = s m
    · subst e
      rw [List.getElem?_set_self (by rw [restK_length]; exact hi), ho.ts, if_pos (by omega)]
    · rw [List.getElem?_set_ne (fun h => e h.symm), restK_get hi]
      have : t i ≠ m := fun e' => e (by rw [← e', ho.st])
      by_cases h : t i < m
      · rw [if_pos h, if_pos (by omega)]
      · rw [if_neg h, if_neg (by omega)]
  · rw [List.getElem?_eq_none (by rw [List.length_set, restK_length]; omega), List.getElem?_eq_none (by rw [restK_length]; omega)]

/-- the two rows when m places have got one more -/
structure PK (T S : Nat) (W t : Nat → Nat) (w wr : World) (g1 c1 g2 c2 n m : Nat) (vs : List Value) : Prop where
  own1 : wr.ownsRow w.heap.size 2 1 (.slice (some ⟨g1, 0, none⟩) n c1) n (outK T S W t n m)
  own2 : wr.ownsRow w.heap.size 123 1 (.slice (some ⟨g2, 0, none⟩) n c2) n (restK t vs n m)
  ne : g1 ≠ g2
  rest : ∀ i, i < n → ∃ v bs, vs.getD i (.slice none 0 0) = v ∧ val bs = rf T S W i ∧ bs.length ≤ 64 ∧ Rst (.slice (some ⟨g1, 0, none⟩) n c1) (.slice (some ⟨g2, 0, none⟩) n c2) wr v bs
  below : Below w.heap.size w wr

theorem PK.start {T S : Nat} {W t : Nat → Nat} {w wr : World} {vo vr : Value} {n : Nat} {vs : List Value} (h : RS T S W w wr vo vr n vs) (hn : 0 < n) :
    ∃ g1 c1 g2 c2, vo = .slice (some ⟨g1, 0, none⟩) n c1 ∧ vr = .slice (some ⟨g2, 0, none⟩) n c2 ∧ PK T S W t w wr g1 c1 g2 c2 n 0 vs := by
  obtain ⟨g1, c1, e1, _, _⟩ := h.own1.form hn
  obtain ⟨g2, c2, e2, _, _⟩ := h.own2.form hn
  subst e1
  subst e2
  refine ⟨g1, c1, g2, c2, rfl, rfl, ?_, ?_, fun e => h.dist g1 rfl (by rw [e]; rfl), fun i hi => ?_, h.below⟩
  · have e : outK T S W t n 0 = (List.range n).map fun i => Value.int .i64 (qf T S W i : Nat) := by
      unfold outK
      apply List.map_congr_left
      intro i _
      unfold partK
      rw [if_neg (by omega), Nat.add_zero]
    rw [e]; exact h.own1
  · have hl : vs.length = n := by have := h.own2.1; omega
    have e : restK t vs n 0 = vs := by
      apply List.ext_getElem?
      intro i
      by_cases hi : i < n
      · rw [restK_get hi, if_neg (by omega), List.getD_eq_getElem?_getD, List.getElem?_eq_getElem (by omega)]; rfl
      · rw [List.getElem?_eq_none (by rw [restK_length]; omega), List.getElem?_eq_none (by omega)]
    rw [e]; exact h.own2
  · obtain ⟨v, bs, q1, q2, q3, q4⟩ := h.rest i hi
    exact ⟨v, bs, by rw [List.getD_eq_getElem?_getD, q1]; rfl, q2, q3, q4⟩

theorem cell_of_own {w : World} {base g n c k : Nat} {e : TypeId} {xs : List Value} {u : Value} (h : w.ownsRow base e 1 (.slice (some ⟨g, 0, none⟩) n c) n xs) (hk : xs[k]? = some u) : w.cell? ⟨g, k, none⟩ = some u := by
  have h1 := h.cells (g := g) rfl k u hk
  rw [← h1]
  unfold Addr.add
  by_cases e0 : k = 0
  · subst e0; rfl
  · simp [e0]

theorem PK.cell1 {T S : Nat} {W t : Nat → Nat} {w wr : World} {g1 c1 g2 c2 n m i : Nat} {vs : List Value} (h : PK T S W t w wr g1 c1 g2 c2 n m vs) (hi : i < n) : wr.cell? ⟨g1, i, none⟩ = some (.int .i64 (partK T S W t m i : Nat)) :=
  cell_of_own h.own1 (outK_get hi)
theorem PK.cell2 {T S : Nat} {W t : Nat → Nat} {w wr : World} {g1 c1 g2 c2 n m i : Nat} {vs : List Value} (h : PK T S W t w wr g1 c1 g2 c2 n m vs) (hi : i < n) : wr.cell? ⟨g2, i, none⟩ = some (if t i < m then .slice none 0 0 else vs.getD i (.slice none 0 0)) :=
  cell_of_own h.own2 (restK_get hi)

theorem PK.drewN {T S : Nat} {W t : Nat → Nat} {w wr : World} {g1 c1 g2 c2 n m : Nat} {vs : List Value} (h : PK T S W t w wr g1 c1 g2 c2 n m vs) (k : Nat) : PK T S W t w (wr.drewN k) g1 c1 g2 c2 n m vs :=
  ⟨h.own1, h.own2, h.ne, fun i hi => by
    obtain ⟨v, bs, q1, q2, q3, q4⟩ := h.rest i hi
    exact ⟨v, bs, q1, q2, q3, ⟨q4.wb, q4.far⟩⟩, ⟨h.below.os, h.below.tape, h.below.output, h.below.size, h.below.block⟩⟩

theorem PK.step {T S : Nat} {W s t : Nat → Nat} {w wr : World} {g1 c1 g2 c2 n m : Nat} {vs : List Value} {key : Nat → Int} (h : PK T S W t w wr g1 c1 g2 c2 n m vs) (ho : Ordr n key s t) :
    PK T S W t w ((wr.setCell ⟨g1, s m, none⟩ (.int .i64 ((partK T S W t m (s m) : Nat) + 1))).setCell ⟨g2, s m, none⟩ (.slice none 0 0)) g1 c1 g2 c2 n (m + 1) vs := by
  have a1 := h.own1.stored (s m) (.int .i64 ((partK T S W t m (s m) : Nat) + 1))
  rw [outK_step ho] at a1
  have b1 := h.own2.kept a1.2 (.inr (fun e => h.ne (Option.some.inj e).symm))
  have a2 := b1.stored (s m) (.slice none 0 0)
  rw [restK_step ho] at a2
  have b2 := a1.1.kept a2.2 (.inr (fun e => h.ne (Option.some.inj e)))
  have l1 := (h.own1.lt g1 rfl).1
  have l2 := (h.own2.lt g2 rfl).1
  refine ⟨b2, a2.1, h.ne, fun i hi => ?_, (h.below.setCell (p := ⟨g1, s m, none⟩) l1 _).setCell (p := ⟨g2, s m, none⟩) l2 _⟩
  obtain ⟨v, bs, q1, q2, q3, q4⟩ := h.rest i hi
  exact ⟨v, bs, q1, q2, q3, (q4.grow a1.2 (.inl rfl) (.inl rfl) (.inl rfl)).grow a2.2 (.inr (.inl rfl)) (.inl rfl) (.inl rfl)⟩

/-- who is the greatest, and the first of these, among those below j that are there still; none: -1 -/
def Best (T S : Nat) (W t : Nat → Nat) (m j : Nat) (there : Nat → Prop) (b : Int) : Prop :=
  (b = -1 ∧ ∀ i, i < j → m ≤ t i → ¬ there i) ∨
  ∃ k : Nat, b = (k : Int) ∧ k < j ∧ m ≤ t k ∧ there k ∧ ∀ i, i < j → m ≤ t i → there i → i = k ∨ bef (fun i => (rf T S W i : Int)) k i

theorem Best.skip {T S : Nat} {W t : Nat → Nat} {m j : Nat} {there : Nat → Prop} {b : Int} (h : Best T S W t m j there b) (hj : m ≤ t j → ¬ there j) : Best T S W t m (j + 1) there b := by
  rcases h with ⟨e, h⟩ | ⟨k, e, h1, h2, h3, h4⟩
  · refine .inl ⟨e, fun i hi h5 => ?_⟩
    by_cases e : i = j
    · subst e; exact hj h5
    · exact h i (by omega) h5
  · refine .inr ⟨k, e, by omega, h2, h3, fun i hi h5 h6 => ?_⟩
    by_cases e : i = j
    · subst e; exact absurd h6 (hj h5)
    · exact h4 i (by omega) h5 h6

theorem Best.first {T S : Nat} {W t : Nat → Nat} {m j : Nat} {there : Nat → Prop} (h : Best T S W t m j there (-1)) (h1 : m ≤ t j) (h2 : there j) : Best T S W t m (j + 1) there (j : Nat) := by
  rcases h with ⟨_, h⟩ | ⟨k, e, _⟩
  · refine .inr ⟨j, rfl, by omega, h1, h2, fun i hi h5 h6 => ?_⟩
    by_cases e : i = j
    · exact .inl e
    · exact absurd h6 (h i (by omega) h5)
  · omega

theorem Best.more {T S : Nat} {W t : Nat → Nat} {m j k : Nat} {there : Nat → Prop} (h : Best T S W t m j there (k : Nat)) (h1 : m ≤ t j) (h2 : there j) (hlt : rf T S W k < rf T S W j) : Best T S W t m (j + 1) there (j : Nat) := by
  rcases h with ⟨e, _⟩ | ⟨k', e, h3, _, _, h4⟩
  · omega
  · obtain rfl : k = k' := by omega
    refine .inr ⟨j, rfl, by omega, h1, h2, fun i hi h5 h6 => ?_⟩
    by_cases e : i = j
    · exact .inl e
    · right
      rcases h4 i (by omega) h5 h6 with h7 | h7
      · subst h7; unfold bef; simp only; omega
      · unfold bef at h7 ⊢; simp only at h7 ⊢; omega

theorem Best.less {T S : Nat} {W t : Nat → Nat} {m j k : Nat} {there : Nat → Prop} (h : Best T S W t m j there (k : Nat)) (hlt : ¬ rf T S W k < rf T S W j) : Best T S W t m (j + 1) there (k : Nat) := by
  rcases h with ⟨e, _⟩ | ⟨k', e, h3, h5, h6, h4⟩
  · omega
  · obtain rfl : k = k' := by omega
    refine .inr ⟨k, rfl, by omega, h5, h6, fun i hi h7 h8 => ?_⟩
    by_cases e : i = j
    · subst e; right; unfold bef; simp only; omega
    · exact h4 i (by omega) h7 h8

theorem Best.told {T S n : Nat} {W s t : Nat → Nat} {m : Nat} {there : Nat → Prop} {b : Int} (h : Best T S W t m n there b) (ho : Ordr n (fun i => (rf T S W i : Int)) s t) (hm : m < n) (hth : there (s m)) : b = (s m : Nat) := by
  have hsm := ho.lt m hm
  rcases h with ⟨_, h⟩ | ⟨k, e, h3, h5, h6, h4⟩
  · exact absurd hth (h (s m) hsm (by rw [ho.ts]; exact Nat.le_refl _))
  · rw [e]
    congr 1
    refine next_is ho h3 h5 ?_
    rcases h4 (s m) hsm (by rw [ho.ts]; exact Nat.le_refl _) hth with h7 | h7
    · exact .inl h7.symm
    · exact .inr h7

/-- the document's parts stand in a new row -/
def RYes (T S : Nat) (W t : Nat → Nat) (n : Nat) (w : World) (e : Ending) (w' : World) : Prop :=
  ∃ g c, e = .returned (.tuple #[.slice (some ⟨g, 0, none⟩) n c, .int .i64 0]) ∧ w'.ownsRow w.heap.size 2 1 (.slice (some ⟨g, 0, none⟩) n c) n (outK T S W t n (leftN T S W n)) ∧ Below w.heap.size w w'

theorem some_of_there {w : World} {v : Value} {bs : List Bool} (h : WB w v bs) (hne : v ≠ .slice none 0 0) : ∃ ad c, v = .slice (some ad) bs.length c := by
  obtain ⟨A, c, e, _, _, h3, _⟩ := h
  cases hA : A with
  | none =>
    obtain ⟨h0, h1⟩ := h3 hA
    subst hA
    exact absurd (by rw [e, h0, h1]) hne
  | some ad => subst hA; exact ⟨ad, c, e⟩

theorem there_of_pos {w : World} {v : Value} {bs : List Bool} (h : WB w v bs) (hp : 0 < val bs) : v ≠ .slice none 0 0 := by
  intro e
  obtain ⟨A, c, e2, _⟩ := h
  rw [e] at e2
  injection e2 with _ e3 _
  rw [List.eq_nil_of_length_eq_zero e3.symm] at hp
  simp [val] at hp
end Go.Proofs.YtkflakeocdlinaaGreatDoor
