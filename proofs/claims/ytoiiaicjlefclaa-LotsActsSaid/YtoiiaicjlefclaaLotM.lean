/-
  The program's lots beside the document's; what a round of souklaw14.LotsActs keeps; contracts by a number that is a list's length.
-/
import Derived.Test.YtoiiaicjlefclaaLotL
import Derived.Test.YtoiiaicjlefclaaLotB
import Derived.Test.YtoiiaicjlefclaaLotH
import Derived.Test.YtoiiaicjlefclaaLotO
namespace Go.Proofs.Ytoiiaicjlefclaa
open Go.RowKit Go.Deep

/-- the program's lots in a box, and the document's, alike, in a row that nothing of the program's lies in -/
structure LotS (B : Nat) (w wr : World) (b : Nat) (ms : List Lt) (v : Value) (am : Option Addr) : Prop where
  lots : LotsP B wr b ms v
  ref : RowG 4 cLt wr am ms
  apart : ∀ p, am = some p → p.block ∉ fpL b v
  below : Below B w wr
  amt : ∀ x ∈ ms, AmtL x

theorem LotS.size {B : Nat} {w wr : World} {b : Nat} {ms : List Lt} {v : Value} {am : Option Addr} (h : LotS B w wr b ms v am) : B ≤ wr.heap.size := Nat.le_of_lt (Nat.lt_of_le_of_lt h.lots.hb h.lots.box.lt)
theorem LotS.keep {B : Nat} {w wr wr' : World} {b : Nat} {ms : List Lt} {v : Value} {am : Option Addr} (h : LotS B w wr b ms v am) (hb : Below wr.heap.size wr wr') : LotS B w wr' b ms v am :=
  ⟨h.lots.keep hb, h.ref.keep hb, h.apart, bel_onG h.below h.size hb, h.amt⟩

/-- what a round of the law holds: the lots, a copy, the row of the document's that were, the act -/
structure RnP (B : Nat) (w wz : World) (b g ba Bc : Nat) (ms was : List Lt) (v vc : Value) (am aw : Option Addr) (ac : Array Value) : Prop where
  cur : LotS B w wz b ms v am
  cl : LotsP Bc wz g was vc
  row : RowG 4 cLt wz aw was
  act : Blk wz ba 32 ac

theorem RnP.keep {B : Nat} {w wz wz' : World} {b g ba Bc : Nat} {ms was : List Lt} {v vc : Value} {am aw : Option Addr} {ac : Array Value} (h : RnP B w wz b g ba Bc ms was v vc am aw ac) (hb : Below wz.heap.size wz wz') : RnP B w wz' b g ba Bc ms was v vc am aw ac :=
  ⟨h.cur.keep hb, h.cl.keep hb, h.row.keep hb, h.act.since hb⟩

/-- the program's lots turn; the others stand -/
theorem RnP.turn {B : Nat} {w wz wz' : World} {b g ba Bc : Nat} {ms was ms' : List Lt} {v vc v' : Value} {am aw am' : Option Addr} {ac : Array Value} {fp : List Nat} (h : RnP B w wz b g ba Bc ms was v vc am aw ac) (hs : Stp fp wz wz') (hf : ∀ k ∈ fp, k ∈ fpL b v)
    (hlt : ∀ k ∈ fpL b v, k < ba) (hba : ba ≤ Bc) (haw : ∀ p, aw = some p → p.block ∉ fpL b v) (hl : LotsP B wz' b ms' v') (hr : RowG 4 cLt wz' am' ms') (hap : ∀ p, am' = some p → p.block ∉ fpL b v') (hz : ∀ x ∈ ms', AmtL x) : RnP B w wz' b g ba Bc ms' was v' vc am' aw ac :=
  ⟨⟨hl, hr, hap, h.cur.below.trans (hs.below (fun k hk => (h.cur.lots.lt k (hf k hk)).2) h.cur.size), hz⟩,
    h.cl.stp hs (fun k hk => by have := hlt k (hf k hk); omega), h.row.stp hs (fun p hp hm => haw p hp (hf _ hm)), h.act.stp hs (fun hm => by have := hlt _ (hf _ hm); omega)⟩

/-! by a number that is the list's length -/
theorem split_n (now : Int) (a : Option Addr) (cp n : Nat) (l : List Lt) (w : World) (hn : n = l.length) (hrow : RowG 4 cLt w a l) (hl : n ≤ 1000000) :
    Calls Try.prog 6 #[.slice a n cp, .int .i64 now] w (SplP now l w) := by subst hn; exact split_any now a cp l w hrow hl
theorem of14_n (a : Option Addr) (c n : Nat) (l : List Lt) (w : World) (hn : n = l.length) (hr : RowG 4 cLt w a l) (hl : n ≤ 1000000) :
    Calls Try.prog 8 #[.slice a n c] w fun e w' => ∃ a c, e = .returned (.slice a n c) ∧ RowG 4 cLt w' a l ∧ Below w.heap.size w w' := by
  subst hn
  exact (of14_any a c l w hr hl).mono fun e w' ⟨a, c, he, h1, _, h3⟩ => ⟨a, c, he, h1, h3⟩
theorem rnext_n (a : Option Addr) (cp n : Nat) (l : List Lt) (w : World) (hn : n = l.length) (hrow : RowG 4 cLt w a l) (hl : n ≤ 1000000) :
    Calls Try.prog 17 #[.slice a n cp] w fun e w' => e = .returned (.int .i64 (nxL l)) ∧ w = w' := by subst hn; exact rnext_any a cp l w hrow hl
theorem all_n (B b n : Nat) (l : List Lt) (v : Value) (w : World) (hn : n = l.length) (h : LotsP B w b l v) (hl : n ≤ 1000000) :
    Calls Try.prog 15 #[.pointer (some ⟨b, 0, none⟩)] w fun e w' => ∃ a c, e = .returned (.slice a n c) ∧ RowG 4 cLt w' a l ∧ Below w.heap.size w w' := by
  subst hn
  refine (all_any B b l v w h hl).mono fun e w' ⟨A, c, he, ho, hb⟩ => ?_
  obtain ⟨a2, c2, e1, e2, _, _⟩ := RowG.own cLt_len ho rfl
  injection e1 with e1 _ _
  subst e1
  exact ⟨A, c, he, e2, hb⟩
/-- a copy of the document's, ahead of one more -/
def ClnR (ms : List Lt) (q : Nat) (w4 : World) (e : Ending) (w' : World) : Prop :=
  ∃ A c, e = .returned (.slice A q c) ∧ w'.ownsRow w4.heap.size 37 4 (.slice A q c) q (ms.flatMap cLt) ∧ Below w4.heap.size w4 w'
theorem clone_n (a : Option Addr) (c n : Nat) (l : List Lt) (w4 w : World) (hn : n = l.length) (hr : RowG 4 cLt w a l) (hl : n ≤ 1000000) (hb : Below w4.heap.size w4 w) :
    Calls Try.prog 12 #[.slice a n c] w fun e w' => ClnR l n w4 e w' ∧ Below w.heap.size w w' := by
  subst hn
  refine (cloneRLot_any a c l w hr hl).mono fun e w' ⟨A, c, he, ho, hb2⟩ => ⟨⟨A, c, he, own_baseG ho hb.size, bel_onG hb hb.size hb2⟩, hb2⟩

theorem rowI_keep14 {k : IntKind} {w w' : World} {a : Option Addr} {zs : List Int} (h : RowI k w a zs) (hb : Below w.heap.size w w') : RowI k w' a zs := fun hp => by
  obtain ⟨b, off, e, hc⟩ := h hp
  refine ⟨b, off, e, fun i hi => ?_⟩
  have h1 := hc i hi
  rw [hb.cell (p := ⟨b, off + i, none⟩) (World.block_lt_of_cell? w _ h1)]
  exact h1
theorem sum_n (A : Option Addr) (c n : Nat) (zs : List Int) (w : World) (hn : n = zs.length) (hr : RowI .i64 w A zs) (hz : ∀ z ∈ zs, Amt z) (hl : n ≤ 1000000) :
    Calls Try.prog 14 #[.slice A n c] w fun e w' => e = .returned (.tuple #[.int .i64 ((sumTo 0 zs).getD 0), .bool (sumTo 0 zs).isSome]) ∧ w = w' := by
  subst hn
  exact rSum_any A c zs w hr hz (by unfold maxLen; omega)
/-- a sum, or that it is none -/
theorem sum_ways (zs : List Int) : ∃ (S E : Int) (ok : Bool), (sumTo 0 zs).getD 0 = S ∧ overE (sumTo 0 zs).isSome = E ∧ (sumTo 0 zs).isSome = ok ∧ ((ok = true ∧ E = 0) ∨ (ok = false ∧ S = 0 ∧ E = 2)) := by
  cases h : sumTo 0 zs with
  | none => exact ⟨0, 2, false, rfl, rfl, rfl, .inr ⟨rfl, rfl, rfl⟩⟩
  | some s => exact ⟨s, 0, true, rfl, rfl, rfl, .inl ⟨rfl, rfl⟩⟩

/-- four cells of a lot in an act -/
def At4 (ba : Nat) (p c : List UInt8) (m d : Int) (w : World) : Prop :=
  w.cell? ⟨ba, 1, none⟩ = some (.string (st p)) ∧ w.cell? ⟨ba, 2, none⟩ = some (.string (st c)) ∧ w.cell? ⟨ba, 3, none⟩ = some (.int .i64 m) ∧ w.cell? ⟨ba, 4, none⟩ = some (.int .i64 d)
theorem at4_blk {w : World} {ba : Nat} {p c : List UInt8} {m d t : Int} {K : Value} (h : Blk w ba 32 #[K, .string (st p), .string (st c), .int .i64 m, .int .i64 d, .int .i64 t]) : At4 ba p c m d w := ⟨h.cell 1, h.cell 2, h.cell 3, h.cell 4⟩
end Go.Proofs.Ytoiiaicjlefclaa
