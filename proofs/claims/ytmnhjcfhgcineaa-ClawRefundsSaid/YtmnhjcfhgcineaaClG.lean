/-
  A sale, and beside it a row of one's own of what should be left.
-/
import Derived.Test.YtmnhjcfhgcineaaClF
namespace Go.Proofs.Ytmnhjcfhgcineaa
open Go.RowKit Go.Deep

theorem rowI_other' {k : IntKind} {w : World} {a : Option Addr} {b : Nat} {zs : List Int} {i : Nat} {v : Value} (h : RowI k w a zs) (hne : ∀ x, a = some x → x.block ≠ b) : RowI k (w.setCell ⟨b, i, none⟩ v) a zs := fun hp => by
  obtain ⟨g, o, rfl, hc⟩ := h hp
  refine ⟨g, o, rfl, fun j hj => ?_⟩
  have h1 := hc j hj
  have h2 : (w.setCell ⟨b, i, none⟩ v).heap[g]? = w.heap[g]? := Below.heap_setCell w ⟨b, i, none⟩ v g (hne _ rfl)
  simp only [World.cell?, h2]
  exact h1

/-- a store into a row of one's own -/
theorem own_set {w : World} {base n c g i : Nat} {e : TypeId} {xs : List Value} (h : w.ownsRow base e 1 (.slice (some ⟨g, 0, none⟩) n c) n xs) (v : Value) :
    (w.setCell ⟨g, i, none⟩ v).ownsRow base e 1 (.slice (some ⟨g, 0, none⟩) n c) n (xs.set i v) := by
  refine ⟨by rw [List.length_set]; exact h.1, ?_⟩
  rcases h.2 with ⟨h1, _⟩ | ⟨g', cap, cur, h1, hb, hg, hn, hm, hs, ht⟩
  · cases h1
  · injection h1 with h1 h2 h3
    injection h1 with h1
    injection h1 with h1
    subst h1
    subst h3
    refine .inr ⟨g, c, cur.setIfInBounds i v, rfl, hb, Blk.set (show Blk w g e cur from hg) i v, hn, hm, by rw [Array.size_setIfInBounds]; exact hs, ?_⟩
    rw [← ht]
    rw [Array.toList_setIfInBounds, List.take_set]

theorem iv_set (zs : List Int) (i : Nat) (z : Int) : (iv zs).set i (.int .i64 z) = iv (zs.set i z) := by
  unfold iv
  rw [List.map_set]

/-- a list that is being changed place by place -/
def mixL (f : Nat → Int) (ws : List Int) (k : Nat) : List Int := (List.range ws.length).map fun i => if i < k then f i else ws.getD i 0
theorem mixL_length (f : Nat → Int) (ws : List Int) (k : Nat) : (mixL f ws k).length = ws.length := by simp [mixL]
theorem mixL_get {f : Nat → Int} {ws : List Int} {k i : Nat} (h : i < ws.length) : (mixL f ws k).getD i 0 = if i < k then f i else ws.getD i 0 := by
  unfold mixL; rw [List.getD_eq_getElem?_getD, List.getElem?_map, List.getElem?_range h]; rfl
theorem mixL_zero (f : Nat → Int) (ws : List Int) : mixL f ws 0 = ws := eq_of_getD (mixL_length _ _ _) fun j hj => by
  rw [mixL_length] at hj
  rw [mixL_get hj, if_neg (by omega)]
theorem mixL_all {f : Nat → Int} {ws : List Int} : mixL f ws ws.length = (List.range ws.length).map f := by
  unfold mixL
  refine List.map_congr_left fun i hi => ?_
  rw [if_pos (List.mem_range.1 hi)]
theorem getD_set {zs : List Int} {k j : Nat} {z : Int} (hj : j < zs.length) : (zs.set k z).getD j 0 = if k = j then z else zs.getD j 0 := by
  rw [List.getD_eq_getElem?_getD, List.getD_eq_getElem?_getD, List.getElem?_set]
  by_cases e : k = j
  · subst e; rw [if_pos rfl, if_pos hj, if_pos rfl]; rfl
  · rw [if_neg e, if_neg e]
theorem mixL_step {f : Nat → Int} {ws : List Int} {k : Nat} : (mixL f ws k).set k (f k) = mixL f ws (k + 1) :=
  eq_of_getD (by rw [List.length_set, mixL_length, mixL_length]) fun j hj => by
    rw [List.length_set] at hj
    rw [getD_set hj]
    rw [mixL_length] at hj
    rw [mixL_get hj, mixL_get hj]
    by_cases e : k = j
    · subst e; rw [if_pos rfl, if_pos (by omega)]
    · rw [if_neg e]
      by_cases e2 : j < k
      · rw [if_pos e2, if_pos (by omega)]
      · rw [if_neg e2, if_neg (by omega)]

/-- a sale in block b, of which ws is left; beside it the row vs -/
structure TwoP (w wr : World) (b : Nat) (A : Option Addr) (cA : Nat) (ws vs : List Int) (a : Option Addr) (ca : Nat) : Prop where
  len : vs.length = ws.length
  sale : SaleP wr b ws a ca
  now : wr.ownsRow w.heap.size 2 1 (.slice A ws.length cA) ws.length (iv vs)
  ne1 : ∀ y, A = some y → y.block ≠ b
  ne2 : ∀ x y, a = some x → A = some y → x.block ≠ y.block
  newb : w.heap.size ≤ b
  below : Below w.heap.size w wr

theorem TwoP.keep {w wr wr' : World} {b : Nat} {A : Option Addr} {cA : Nat} {ws vs : List Int} {a : Option Addr} {ca : Nat} (h : TwoP w wr b A cA ws vs a ca) (hb : Below wr.heap.size wr wr') : TwoP w wr' b A cA ws vs a ca :=
  ⟨h.len, h.sale.keep hb, own_keep h.now hb, h.ne1, h.ne2, h.newb, bel_on h.below h.below.size hb⟩

theorem TwoP.lt {w wr : World} {b : Nat} {A : Option Addr} {cA : Nat} {ws vs : List Int} {a : Option Addr} {ca : Nat} (h : TwoP w wr b A cA ws vs a ca) : ∀ y, A = some y → w.heap.size ≤ y.block ∧ y.block < wr.heap.size := fun y hy => by
  subst hy
  exact h.now.lt _ rfl

/-- the sale changes -/
theorem TwoP.turn {w wr wr' : World} {b : Nat} {A : Option Addr} {cA : Nat} {ws ws' vs : List Int} {a : Option Addr} {ca g2 c2 : Nat} (h : TwoP w wr b A cA ws vs a ca) (hl : ws'.length = ws.length)
    (hs : SaleP wr' b ws' (some ⟨g2, 0, none⟩) c2) (hg : wr.grownBy wr' (some b)) (h2 : wr.heap.size ≤ g2) : TwoP w wr' b A cA ws' vs (some ⟨g2, 0, none⟩) c2 := by
  refine ⟨by rw [hl]; exact h.len, hs, ?_, h.ne1, fun x y hx hy => ?_, h.newb, h.below.grown hg h.below.size (fun k e => by injection e with e; rw [← e]; exact h.newb)⟩
  · rw [hl]
    refine h.now.kept hg ?_
    cases hA : A with
    | none => exact .inl rfl
    | some y =>
      refine .inr fun e => ?_
      simp only [Value.ownBlock, Option.some.injEq] at e
      exact h.ne1 y hA e
  · injection hx with hx
    subst hx
    have := (h.lt y hy).2
    show g2 ≠ y.block
    omega

theorem TwoP.cell {w wr : World} {b : Nat} {A : Option Addr} {cA : Nat} {ws vs : List Int} {a : Option Addr} {ca : Nat} (h : TwoP w wr b A cA ws vs a ca) : wr.cell? ⟨b, 0, none⟩ = some (.slice a ws.length ca) := h.sale.cell

/-- where the row lies -/
theorem TwoP.form {w wr : World} {b : Nat} {A : Option Addr} {cA : Nat} {ws vs : List Int} {a : Option Addr} {ca : Nat} (h : TwoP w wr b A cA ws vs a ca) (hp : 0 < ws.length) : ∃ g, A = some ⟨g, 0, none⟩ := by
  rcases h.now.2 with ⟨_, h0⟩ | ⟨g, cap, cur, h1, _⟩
  · omega
  · injection h1 with h1
    exact ⟨g, h1⟩

theorem TwoP.at {w wr : World} {b g : Nat} {cA : Nat} {ws vs : List Int} {a : Option Addr} {ca i : Nat} (h : TwoP w wr b (some ⟨g, 0, none⟩) cA ws vs a ca) (hi : i < ws.length) : wr.cell? ⟨g, i, none⟩ = some (.int .i64 (vs.getD i 0)) := by
  have := h.now.cells (g := g) rfl i _ (iv_get (by rw [h.len]; exact hi))
  rw [addr_add, Nat.zero_add] at this
  exact this

theorem TwoP.frozen {w wr : World} {b g : Nat} {cA : Nat} {ws vs : List Int} {a : Option Addr} {ca : Nat} (h : TwoP w wr b (some ⟨g, 0, none⟩) cA ws vs a ca) (i : Nat) : wr.frozen? ⟨g, i, none⟩ = false := by
  rcases h.now.2 with ⟨h1, _⟩ | ⟨g', cap, cur, h1, _, hg, _⟩
  · cases h1
  · injection h1 with h1
    injection h1 with h1
    injection h1 with h1
    subst h1
    exact (show Blk wr g 2 cur from hg).frozen i

/-- a store into the row -/
theorem TwoP.put {w wr : World} {b g : Nat} {cA : Nat} {ws vs : List Int} {a : Option Addr} {ca : Nat} (h : TwoP w wr b (some ⟨g, 0, none⟩) cA ws vs a ca) (i : Nat) (z : Int) :
    TwoP w (wr.setCell ⟨g, i, none⟩ (.int .i64 z)) b (some ⟨g, 0, none⟩) cA ws (vs.set i z) a ca := by
  have hgb : g ≠ b := h.ne1 _ rfl
  have hlo : w.heap.size ≤ g := (h.lt _ rfl).1
  refine ⟨by rw [List.length_set]; exact h.len, ⟨h.sale.box.other (a := ⟨g, i, none⟩) (fun e => hgb e.symm) _, rowI_other' h.sale.row fun x hx => h.ne2 x _ hx rfl⟩, ?_, h.ne1, h.ne2, h.newb, h.below.setCell hlo _⟩
  rw [← iv_set]
  exact own_set h.now _

theorem own_base {w : World} {B B' n : Nat} {e : TypeId} {v : Value} {xs : List Value} (h : w.ownsRow B' e 1 v n xs) (hb : B ≤ B') : w.ownsRow B e 1 v n xs := by
  refine ⟨h.1, ?_⟩
  rcases h.2 with h1 | ⟨g, cap, cur, h1, h2, h3⟩
  · exact .inl h1
  · exact .inr ⟨g, cap, cur, h1, Nat.le_trans hb h2, h3⟩

/-- a sale, and a copy beside it -/
theorem TwoP.start {w w2 w5 : World} {A1 A : Option Addr} {c1 cA : Nat} {ws : List Int} (h1 : w2.ownsRow w.heap.size 2 1 (.slice A1 ws.length c1) ws.length (iv ws)) (hb1 : Below w.heap.size w w2)
    (h2 : w5.ownsRow (w2.alloc (.cells #[.slice A1 ws.length c1] 33)).heap.size 2 1 (.slice A ws.length cA) ws.length (iv ws)) (hb2 : Below (w2.alloc (.cells #[.slice A1 ws.length c1] 33)).heap.size (w2.alloc (.cells #[.slice A1 ws.length c1] 33)) w5) :
    TwoP w w5 w2.heap.size A cA ws ws A1 c1 := by
  have hsz : (w2.alloc (.cells #[.slice A1 ws.length c1] 33)).heap.size = w2.heap.size + 1 := by simp
  have hlt : ∀ y, A = some y → w2.heap.size + 1 ≤ y.block := fun y hy => by
    subst hy
    have := (h2.lt y.block rfl).1
    rw [hsz] at this
    exact this
  have hb3 : Below w.heap.size w (w2.alloc (.cells #[.slice A1 ws.length c1] 33)) := hb1.alloc hb1.size _
  refine ⟨rfl, (SaleP.mk (Blk.new w2 _ _) ((RowI.of_own h1).keep ((Below.refl _ w2).alloc (Nat.le_refl _) _))).keep hb2, own_base h2 hb3.size, fun y hy => ?_, fun x y hx hy => ?_, hb1.size, bel_on hb3 hb3.size hb2⟩
  · have := hlt y hy; omega
  · subst hx
    have h3 := (h1.lt x.block rfl).2
    have := hlt y hy
    omega

theorem rowI_grown {k : IntKind} {w w' : World} {a : Option Addr} {zs : List Int} {row : Option Nat} (h : RowI k w a zs) (hg : w.grownBy w' row) (hne : ∀ x, a = some x → some x.block ≠ row) : RowI k w' a zs := fun hp => by
  obtain ⟨g, o, rfl, hc⟩ := h hp
  exact ⟨g, o, rfl, fun j hj => hg.cell (a := ⟨g, o + j, none⟩) (hc j hj) (hne ⟨g, o, none⟩ rfl)⟩

/-- truths that came in -/
def RowB (w : World) (a : Option Addr) (us : List Bool) : Prop := 0 < us.length → ∃ b off, a = some ⟨b, off, none⟩ ∧ ∀ i, i < us.length → w.cell? ⟨b, off + i, none⟩ = some (.bool (us.getD i false))
theorem RowB.keep {w w' : World} {a : Option Addr} {us : List Bool} (h : RowB w a us) (hb : Below w.heap.size w w') : RowB w' a us := fun hp => by
  obtain ⟨b, off, e, hc⟩ := h hp
  refine ⟨b, off, e, fun i hi => ?_⟩
  have h1 := hc i hi
  rw [hb.cell (p := ⟨b, off + i, none⟩) (World.block_lt_of_cell? w _ h1)]
  exact h1
end Go.Proofs.Ytmnhjcfhgcineaa
