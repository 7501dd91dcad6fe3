/-
  Plain: costs that may be; weights of shares.
-/
import Derived.Test.YtkflakeocdlinaaGreatDoorMC01
import Derived.Test.YtkflakeocdlinaaGreatDoorMC16
import Derived.Test.YtkflakeocdlinaaGreatDoorMC15
import Derived.Test.YtkflakeocdlinaaGreatDoorMC05
import Derived.Test.YtkflakeocdlinaaGreatDoorMC03
import Derived.Test.YtkflakeocdlinaaGreatDoorMC17
import Derived.Deep.AppendLies
import Derived.Laws.StructEq
namespace Go.Proofs.YtkflakeocdlinaaGreatDoor
open Go.RowKit

/-- costs that may be -/
def cstB (A f t h : Int) : Bool := decide (A ≤ 1125899906842624 ∧ 0 ≤ f ∧ 0 ≤ t ∧ 0 ≤ h ∧ h ≤ 10000 ∧ f + t ≤ A)
def wiV (A f t h : Int) : Int := if cstB A f t h then A - f - t else 0
def wiE (A f t h : Int) : Int := if cstB A f t h then 0 else 1
def WiPost (A f t h : Int) (w : World) (e : Ending) (w' : World) : Prop := e = .returned (.tuple #[.int .i64 (wiV A f t h), .int .i64 (wiE A f t h)]) ∧ Below w.heap.size w w'

theorem cst_not {A f t h : Int} (hn : ¬ (A ≤ 1125899906842624 ∧ 0 ≤ f ∧ 0 ≤ t ∧ 0 ≤ h ∧ h ≤ 10000 ∧ f + t ≤ A)) : wiV A f t h = 0 ∧ wiE A f t h = 1 := by
  have e : cstB A f t h = false := decide_eq_false hn
  unfold wiV wiE
  rw [e]
  exact ⟨rfl, rfl⟩
theorem cst_yes {A f t h : Int} (hn : A ≤ 1125899906842624 ∧ 0 ≤ f ∧ 0 ≤ t ∧ 0 ≤ h ∧ h ≤ 10000 ∧ f + t ≤ A) : wiV A f t h = A - f - t ∧ wiE A f t h = 0 := by
  have e : cstB A f t h = true := decide_eq_true hn
  unfold wiV wiE
  rw [e]
  exact ⟨rfl, rfl⟩
theorem cst_get {A f t h : Int} (e : cstB A f t h = true) : A ≤ 1125899906842624 ∧ 0 ≤ f ∧ 0 ≤ t ∧ 0 ≤ h ∧ h ≤ 10000 ∧ f + t ≤ A := of_decide_eq_true e

/-- the shares' weights -/
def wts (l : List Sh) : List Int := l.map (·.2)
theorem wts_length (l : List Sh) : (wts l).length = l.length := by simp [wts]
theorem wts_get {l : List Sh} {i : Nat} {s : Sh} (h : l[i]? = some s) : (wts l).getD i 0 = s.2 := by
  unfold wts; rw [List.getD_eq_getElem?_getD, List.getElem?_map, h]; rfl
end Go.Proofs.YtkflakeocdlinaaGreatDoor
/-
  Plain: the weights of right shares; parts; the row of parts while it is laid down.
-/
namespace Go.Proofs.YtkflakeocdlinaaGreatDoor
open Go.RowKit Go.Deep

/-- the weights as counts, and their sum -/
def ptW (xs : List Sh) : Nat → Nat := wN (wts xs)
def ptS (xs : List Sh) : Nat := sumN (ptW xs) xs.length

structure GoodW (xs : List Sh) : Prop where
  each : ∀ i, i < xs.length → 1 ≤ ptW xs i ∧ ptW xs i ≤ 1125899906842624 ∧ (wts xs).getD i 0 = (ptW xs i : Int)
  pos : 0 < ptS xs
  le : ptS xs ≤ 9007199254740992
  sum : sumTo 0 (wts xs) = some (ptS xs : Int)
  neg : anyNeg (wts xs) = false
  amt : ∀ z ∈ wts xs, Amt z

theorem GoodW.of {xs : List Sh} (h0 : 0 < xs.length) (h8 : xs.length ≤ 8) (hg : rgTo xs xs.length = 0) : GoodW xs := by
  have at_ : ∀ i, i < xs.length → 1 ≤ (wts xs).getD i 0 ∧ (wts xs).getD i 0 ≤ 1125899906842624 := fun i hi => by
    obtain ⟨s, hs⟩ : ∃ s, xs[i]? = some s := ⟨_, List.getElem?_eq_getElem hi⟩
    have := badS_not (rgTo_good hg hi hs)
    rw [wts_get hs]; omega
  have each : ∀ i, i < xs.length → 1 ≤ ptW xs i ∧ ptW xs i ≤ 1125899906842624 ∧ (wts xs).getD i 0 = (ptW xs i : Int) := fun i hi => by
    have := at_ i hi
    unfold ptW wN
    omega
  have hle : ptS xs ≤ 1125899906842624 * xs.length := sumN_le_of fun i hi => (each i hi).2.1
  have hpos : 0 < ptS xs := by
    have h1 := le_sumN (f := ptW xs) h0
    have h2 := (each 0 h0).1
    unfold ptS; omega
  have hsum : (wts xs).sum = (ptS xs : Int) := by
    have := sum_wN (wts xs) (fun i hi => by rw [wts_length] at hi; have := at_ i hi; omega)
    rw [this, wts_length]; rfl
  have hmem : ∀ z ∈ wts xs, 1 ≤ z ∧ z ≤ 1125899906842624 := fun z hz => by
    obtain ⟨i, hi⟩ := List.mem_iff_getElem?.1 hz
    have hl := (List.getElem?_eq_some_iff.1 hi).1
    rw [wts_length] at hl
    have := at_ i hl
    rw [List.getD_eq_getElem?_getD, hi] at this
    exact this
  refine ⟨each, hpos, by omega, ?_, ?_, fun z hz => by have := hmem z hz; unfold Amt; omega⟩
  · have := sumTo_nonneg (wts xs) 0 (by omega) (fun z hz => by have := hmem z hz; omega) (by rw [hsum]; omega)
    rw [this, hsum]; simp
  · exact anyNeg_none fun k hk => by rw [wts_length] at hk; have := at_ k hk; omega

/-- the parts -/
def prtL (xs : List Sh) (P : Nat → Nat) (h : Int) : List Prt := (List.range xs.length).map fun i => ((xs.getD i ([], 0)).1, (P i : Int), mdV (P i : Int) h 10000 0)
theorem prtL_length (xs : List Sh) (P : Nat → Nat) (h : Int) : (prtL xs P h).length = xs.length := by simp [prtL]
theorem prtL_get {xs : List Sh} {i : Nat} {p : List UInt8} {m : Int} (P : Nat → Nat) (h : Int) (hs : xs[i]? = some (p, m)) : (prtL xs P h)[i]? = some (p, (P i : Int), mdV (P i : Int) h 10000 0) := by
  have hl := (List.getElem?_eq_some_iff.1 hs).1
  unfold prtL
  rw [List.getElem?_map, List.getElem?_range hl, Option.map_some, List.getD_eq_getElem?_getD, hs]
  rfl

/-- comes it ahead, or is it the same -/
def leB (key : Nat → Int) (i j : Nat) : Bool := decide (key j < key i ∨ (key i = key j ∧ i ≤ j))

theorem Ordr.exists (n : Nat) (key : Nat → Int) : ∃ s t, Ordr n key s t := by
  obtain ⟨l, hl⟩ : ∃ l, l = (List.range n).mergeSort (leB key) := ⟨_, rfl⟩
  have hperm : l.Perm (List.range n) := by rw [hl]; exact List.mergeSort_perm _ _
  have hlen : l.length = n := by rw [hperm.length_eq, List.length_range]
  have hmem : ∀ i, i ∈ l ↔ i < n := fun i => by rw [hperm.mem_iff, List.mem_range]
  have hnd : l.Nodup := hperm.nodup_iff.2 List.nodup_range
  have hpw : List.Pairwise (fun a b => leB key a b = true) l := by
    rw [hl]
    refine List.pairwise_mergeSort (fun a b c h1 h2 => ?_) (fun a b => ?_) _
    · have h1 := of_decide_eq_true h1
      have h2 := of_decide_eq_true h2
      exact decide_eq_true (by omega)
    · rw [Bool.or_eq_true]
      by_cases h : key b < key a ∨ (key a = key b ∧ a ≤ b)
      · exact .inl (decide_eq_true h)
      · exact .inr (decide_eq_true (by omega))
  have hord : ∀ p q (hp : p < l.length) (hq : q < l.length), p < q → bef key l[p] l[q] := fun p q hp hq hpq => by
    have h1 := of_decide_eq_true (List.pairwise_iff_getElem.1 hpw p q hp hq hpq)
    have h2 : l[p] ≠ l[q] := List.pairwise_iff_getElem.1 hnd p q hp hq hpq
    unfold bef; omega
  refine ⟨fun p => if h : p < l.length then l[p] else p, fun i => if i < n then l.idxOf i else i, fun i => ?_, fun p => ?_, fun p hp => ?_, fun p hp => ?_, fun p q _ hpq hq => ?_⟩
  · by_cases hi : i < n
    · have h1 : l.idxOf i < l.length := List.idxOf_lt_length_of_mem ((hmem i).2 hi)
      rw [if_pos hi, dif_pos h1]
      exact List.getElem_idxOf h1
    · rw [if_neg hi, dif_neg (by omega)]
  · by_cases hp : p < l.length
    · have hin : l[p] < n := (hmem _).1 (List.getElem_mem hp)
      have h1 : l.idxOf l[p] < l.length := List.idxOf_lt_length_of_mem (List.getElem_mem hp)
      have h2 := List.getElem_idxOf h1
      rw [dif_pos hp, if_pos hin]
      rcases Nat.lt_trichotomy (l.idxOf l[p]) p with h | h | h
      · have := hord _ _ h1 hp h
        rw [h2] at this
        unfold bef at this; omega
      · exact h
      · have := hord _ _ hp h1 h
        rw [h2] at this
        unfold bef at this; omega
    · rw [dif_neg hp, if_neg (by omega)]
  · rw [dif_pos (by omega)]
    exact (hmem _).1 (List.getElem_mem _)
  · rw [dif_neg (by omega)]
  · rw [dif_pos (by omega), dif_pos (by omega)]
    exact hord _ _ _ _ hpq
end Go.Proofs.YtkflakeocdlinaaGreatDoor
/-
  Plain: what is wrong with parts.
-/
namespace Go.Proofs.YtkflakeocdlinaaGreatDoor
open Go.RowKit

/-- what is wrong with an amount, its costs, its shares -/
def ofE (A f t h : Int) (xs : List Sh) : Int := if cstB A f t h then rgF xs else 1

theorem cell_three {w : World} {b o g i j l : Nat} {va vb vc v : Value} (h : b ≠ g) (hc : w.cell? ⟨b, o, none⟩ = some v) : (((w.setCell ⟨g, i, none⟩ va).setCell ⟨g, j, none⟩ vb).setCell ⟨g, l, none⟩ vc).cell? ⟨b, o, none⟩ = some v := by
  have h1 : (((w.setCell ⟨g, i, none⟩ va).setCell ⟨g, j, none⟩ vb).setCell ⟨g, l, none⟩ vc).heap[b]? = w.heap[b]? := by
    rw [Below.heap_setCell _ _ _ _ h, Below.heap_setCell _ _ _ _ h, Below.heap_setCell _ _ _ _ h]
  have h2 : ∀ w' : World, w'.heap[b]? = w.heap[b]? → w'.cell? ⟨b, o, none⟩ = w.cell? ⟨b, o, none⟩ := fun w' e => by
    simp only [World.cell?, e]
  rw [h2 _ h1]
  exact hc
theorem rowIs_keepB {w w' : World} {b n : Nat} {t : TypeId} {F : Nat → Value} (h : w.rowIs b t n F) (hb : Below w.heap.size w w') : w'.rowIs b t n F := h.of_block (hb.block b h.lt)
/-- something is wrong -/
def OfBad (E : Int) (w : World) (e : Ending) (w' : World) : Prop := e = .returned (.tuple #[.slice none 0 0, .int .i64 E]) ∧ Below w.heap.size w w'
end Go.Proofs.YtkflakeocdlinaaGreatDoor
/-
  Contract of the document's Parts.
-/
namespace Go.Proofs.YtkflakeocdlinaaGreatDoor
open Go.RowKit Go.Deep

/-- what the document's Parts answers -/
def RpPost (E : Int) (T : Nat) (h : Int) (xs : List Sh) (t : Nat → Nat) (w : World) (e : Ending) (w' : World) : Prop :=
  (E ≠ 0 ∧ OfBad E w e w') ∨ (E = 0 ∧ ∃ ar cr, e = .returned (.tuple #[.slice ar xs.length cr, .int .i64 0]) ∧
    RowG 3 cPt w' ar (prtL xs (partK T (ptS xs) (ptW xs) t (leftN T (ptS xs) (ptW xs) xs.length)) h) ∧ Below w.heap.size w w')

theorem ofE_bad1 {A f t h : Int} {xs : List Sh} (hb : xs.length = 0 ∨ 8 < xs.length) : ofE A f t h xs = 1 := by
  unfold ofE
  rw [rgF_bad hb]
  split <;> rfl
theorem ofE_bad2 {A f t h : Int} {xs : List Sh} (hn : ¬ (A ≤ 1125899906842624 ∧ 0 ≤ f ∧ 0 ≤ t ∧ 0 ≤ h ∧ h ≤ 10000 ∧ f + t ≤ A)) : ofE A f t h xs = 1 := by
  unfold ofE
  rw [show cstB A f t h = false from decide_eq_false hn]
  rfl
theorem ofE_good {A f t h : Int} {xs : List Sh} (hn : A ≤ 1125899906842624 ∧ 0 ≤ f ∧ 0 ≤ t ∧ 0 ≤ h ∧ h ≤ 10000 ∧ f + t ≤ A) (hb : ¬ (xs.length = 0 ∨ 8 < xs.length)) : ofE A f t h xs = rgTo xs xs.length := by
  unfold ofE
  rw [show cstB A f t h = true from decide_eq_true hn, rgF_few hb]
  rfl

set_option maxHeartbeats 1600000 in
set_option maxRecDepth 100000 in
theorem rparts_bad (A f t h q : Int) (a : Option Addr) (c n : Nat) (w : World) (hA : Amt A)
    (hb : ¬ (A ≤ 1125899906842624 ∧ 0 ≤ f ∧ 0 ≤ t ∧ 0 ≤ h ∧ h ≤ 10000 ∧ f + t ≤ A) ∨ (n = 0 ∨ 8 < n)) :
    Calls Tryz.prog 33 #[.int .i64 A, .agg #[.int .i64 f, .int .i64 t, .int .i64 h, .int .i64 q], .slice a n c] w (OfBad 1 w) := by
  have HB : Hid (Below w.heap.size w (w.alloc (.cells #[.int .i64 f, .int .i64 t, .int .i64 h, .int .i64 q] 65))) := (Below.refl _ w).alloc (Nat.le_refl _) _
  unfold Amt at hA
  by_cases h1 : n = 0
  · clear hb
    subst h1
    go_enter Tryz.func33, Tryz.ntmps33
    go_wp2
    go_ret2
    exact ⟨rfl, HB.out⟩
  have t1 : ((n : Int) == 0) = false := by rw [beq_eq_false_iff_ne]; omega
  by_cases h2 : 8 < n
  · have t3 : (8 : Int) < (n : Int) := by omega
    clear hb h2
    go_enter Tryz.func33, Tryz.ntmps33
    go_wp2
    go_ret2
    exact ⟨rfl, HB.out⟩
  have t2 : ¬ (8 : Int) < (n : Int) := by omega
  have hb' : ¬ (A ≤ 1125899906842624 ∧ 0 ≤ f ∧ 0 ≤ t ∧ 0 ≤ h ∧ h ≤ 10000 ∧ f + t ≤ A) := by
    rcases hb with hb | hb
    · exact hb
    · omega
  clear hb h1 h2
  by_cases h3 : f < 0
  · clear hb'
    go_enter Tryz.func33, Tryz.ntmps33
    go_wp2
    go_ret2
    exact ⟨rfl, HB.out⟩
  by_cases h4 : t < 0
  · clear hb'
    go_enter Tryz.func33, Tryz.ntmps33
    go_wp2
    go_ret2
    exact ⟨rfl, HB.out⟩
  by_cases h5 : h < 0
  · clear hb'
    go_enter Tryz.func33, Tryz.ntmps33
    go_wp2
    go_ret2
    exact ⟨rfl, HB.out⟩
  by_cases h6 : 10000 < h
  · clear hb'
    go_enter Tryz.func33, Tryz.ntmps33
    go_wp2
    go_ret2
    exact ⟨rfl, HB.out⟩
  by_cases h7 : 1125899906842624 < A
  · clear hb'
    go_enter Tryz.func33, Tryz.ntmps33
    go_wp2
    go_ret2
    exact ⟨rfl, HB.out⟩
  by_cases h8 : A < f
  · clear hb'
    go_enter Tryz.func33, Tryz.ntmps33
    go_wp2
    go_ret2
    exact ⟨rfl, HB.out⟩
  have h9 : A - f < t := by omega
  have h10 : 0 ≤ A - f := by omega
  clear hb'
  go_enter Tryz.func33, Tryz.ntmps33
  go_wp2
  go_ret2
  exact ⟨rfl, HB.out⟩

end Go.Proofs.YtkflakeocdlinaaGreatDoor
/-
  The document's Parts where costs and the number of shares may be.
-/
namespace Go.Proofs.YtkflakeocdlinaaGreatDoor
open Go.RowKit Go.Deep

theorem infoRPart : (Tryz.prog.info? 109).map (fun i => (i.zero, i.size, i.bytes)) = some (some (.agg #[.string ⟨#[]⟩, .int .i64 0, .int .i64 0]), 3, 32) := by kernel_rfl

theorem prt_take {L : List Prt} {j : Nat} {p : List UInt8} {N M : Int} (h : L[j]? = some (p, N, M)) : (L.take (j + 1)).flatMap cPt = (L.take j).flatMap cPt ++ [.string (st p), .int .i64 N, .int .i64 M] := by
  obtain ⟨h3, h4⟩ := List.getElem?_eq_some_iff.1 h
  rw [List.take_succ_eq_append_getElem h3, List.flatMap_append, h4]
  rfl
theorem own_sinceG {w w' : World} {B : Nat} {e : TypeId} {z : Nat} {v : Value} {n : Nat} {xs : List Value} (h : w.ownsRow B e z v n xs) (hb : Below w.heap.size w w') : w'.ownsRow B e z v n xs :=
  own_stp h (Stp.of_below (fp := []) hb) (fun _ _ hk => by cases hk)

theorem st_none {p : List UInt8} (h : p.length = 0) : (st p).toList.isEmpty = true := by
  rw [List.eq_nil_of_length_eq_zero h, Go.Lib.toList_data, st_toList]; rfl
theorem st_some {p : List UInt8} (h : p.length ≠ 0) : (st p).toList.isEmpty = false := by
  rw [Go.Lib.toList_data, st_toList]
  cases p with
  | nil => exact absurd rfl h
  | cons x r => rfl

theorem wts_take (xs : List Sh) {k : Nat} {p : List UInt8} {m : Int} (h : xs[k]? = some (p, m)) : ((wts xs).take (k + 1)).map (Value.int .i64) = ((wts xs).take k).map (Value.int .i64) ++ [Value.int .i64 m] := by
  have hl := (List.getElem?_eq_some_iff.1 h).1
  have h2 : (wts xs)[k]? = some m := by unfold wts; rw [List.getElem?_map, h]; rfl
  obtain ⟨h3, h4⟩ := List.getElem?_eq_some_iff.1 h2
  rw [List.take_succ_eq_append_getElem h3, List.map_append, h4]
  rfl

set_option maxHeartbeats 6400000 in
set_option maxRecDepth 100000 in
theorem rparts_good (A f t h q : Int) (a : Option Addr) (c : Nat) (xs : List Sh) (s tt : Nat → Nat) (w : World) (hr : RowG 2 cSh w a xs)
    (hcs : A ≤ 1125899906842624 ∧ 0 ≤ f ∧ 0 ≤ t ∧ 0 ≤ h ∧ h ≤ 10000 ∧ f + t ≤ A) (hlen : ¬ (xs.length = 0 ∨ 8 < xs.length))
    (hO : rgTo xs xs.length = 0 → Ordr xs.length (fun i => (rf (A - f - t).toNat (ptS xs) (ptW xs) i : Int)) s tt) :
    Calls Tryz.prog 33 #[.int .i64 A, .agg #[.int .i64 f, .int .i64 t, .int .i64 h, .int .i64 q], .slice a xs.length c] w (RpPost (rgTo xs xs.length) (A - f - t).toNat h xs tt w) := by
  have hb1 : Below w.heap.size w (w.alloc (.cells #[.int .i64 f, .int .i64 t, .int .i64 h, .int .i64 q] 65)) := (Below.refl _ w).alloc (Nat.le_refl _) _
  have hbx := Blk.new w 65 #[.int .i64 f, .int .i64 t, .int .i64 h, .int .i64 q]
  obtain ⟨n, hn⟩ : ∃ n, n = xs.length := ⟨_, rfl⟩
  obtain ⟨E, hE⟩ : ∃ E, E = rgTo xs xs.length := ⟨_, rfl⟩
  obtain ⟨T, hT⟩ : ∃ T, T = (A - f - t).toNat := ⟨_, rfl⟩
  rw [← hE, ← hT] at hO ⊢
  have HO := Lib.hid hO
  have HN := Lib.hid hn
  have HE := Lib.hid hE
  have HT := Lib.hid hT
  have HR := Lib.hid hr
  obtain ⟨hA, hf, ht, hh0, hh1, hft⟩ := hcs
  have hn0 : 0 < n := by omega
  have hn8 : n ≤ 8 := by omega
  have t1 : ((n : Int) == 0) = false := by rw [beq_eq_false_iff_ne]; omega
  have t2 : ¬ (8 : Int) < (n : Int) := by omega
  have h8 : ¬ A < f := by omega
  have h9 : ¬ A - f < t := by omega
  have h10 : 0 ≤ A - f := by omega
  have HB := Lib.hid hb1
  have HBX := Lib.hid hbx
  obtain ⟨X, hX⟩ : ∃ X, X = w.heap.size := ⟨_, rfl⟩
  have HXE := Lib.hid hX
  rw [← hX] at HBX
  rw [← hn]
  clear hb1 hbx hn hE hT hr hO hlen
  go_enter Tryz.func33, Tryz.ntmps33
  go_wp2
  rw [← hX]
  clear hX
  obtain ⟨w1, hw1⟩ : ∃ w1, w1 = w.alloc (.cells #[.int .i64 f, .int .i64 t, .int .i64 h, .int .i64 q] 65) := ⟨_, rfl⟩
  rw [← hw1] at HB HBX ⊢
  clear hw1
  have HB0 := Lib.hid HB.out
  have HBX0 := Lib.hid HBX.out
  clear HB HBX
  obtain ⟨B1, hB1⟩ : ∃ B1, B1 = w1.heap.size := ⟨_, rfl⟩
  have HBE := Lib.hid hB1
  clear hB1
  go_loopg [8, 9, 10] n (fun gk v8 v9 v10 wr => ∃ k : Nat, k ≤ n ∧ v9 = .int .i64 k ∧ n - k ≤ gk ∧ Hid (rgTo xs k = 0) ∧ Hid (wr.ownsRow B1 2 1 v8 k (((wts xs).take k).map (Value.int .i64))) ∧ Hid (Below B1 w1 wr))
  case atStart => exact ⟨0, Nat.zero_le _, rfl, by omega, rfl, World.ownsRow_nil _ _ _ _, Below.refl _ _⟩
  case round =>
    obtain ⟨wo, hwo⟩ : ∃ wo, wo = wr := ⟨_, rfl⟩
    subst hwo
    obtain ⟨k, hk, rfl, hgk, HZ, HO8, HB1⟩ := hrel
    have HB : Hid (Below w.heap.size w wo) := bel_onG HB0.out HB0.out.size (HBE.out ▸ HB1.out)
    have HBX : Hid (Blk wo X 65 #[.int .i64 f, .int .i64 t, .int .i64 h, .int .i64 q]) := HBX0.out.since (HBE.out ▸ HB1.out)
    by_cases hlt : k < n
    · obtain ⟨x, hx⟩ : ∃ x, xs[k]? = some x := ⟨_, List.getElem?_eq_getElem (by rw [← HN.out]; exact hlt)⟩
      obtain ⟨p, m⟩ := x
      obtain ⟨b1, off, rfl⟩ := HR.out.form (by rw [← HN.out]; omega)
      have HRW : Hid (RowG 2 cSh wo (some ⟨b1, off, none⟩) xs) := HR.out.keep HB.out
      have hat := HRW.out.at hx
      have c0 : wo.cell? ⟨b1, off + k * 2, none⟩ = some (.string (st p)) := by simpa using hat 0 _ rfl
      have c1 : wo.cell? ⟨b1, off + k * 2 + 1, none⟩ = some (.int .i64 m) := hat 1 _ rfl
      have HX := Lib.hid hx
      have hkz : (0 : Int) ≤ (k : Int) := by omega
      have hkn : (k : Int) < (n : Int) := by omega
      have hsz := st_size p
      obtain ⟨Lp, hLp⟩ : ∃ Lp, Lp = p.length := ⟨_, rfl⟩
      rw [← hLp] at hsz
      have HLP := Lib.hid hLp
      have bad : (Lp = 0 ∨ 20 < Lp ∨ m < 1 ∨ 1125899906842624 < m) → Hid (E = 1) := fun hb => by
        show _ = _
        have h1 : rgTo xs (k + 1) = 1 := by
          rw [rgTo_next HZ.out HX.out]
          unfold rbF
          rw [show badS (p, m) = true from decide_eq_true (by simp only; rw [← HLP.out]; exact hb)]
          rfl
        rw [HE.out, rgTo_from (k := k + 1) (by rw [h1]; decide) (by rw [← HN.out]; omega), h1]
      have fin : Hid (E = 1) → Hid (RpPost E T h xs tt w (.returned (.tuple #[.slice none 0 0, .int .i64 1])) wo) := fun hb => .inl ⟨by rw [hb.out]; decide, by rw [hb.out]; exact ⟨rfl, HB.out⟩⟩
      clear hx hat hLp
      by_cases g1 : Lp = 0
      · have HF := fin (bad (.inl g1))
        have es : (st p).toList.isEmpty = true := st_none (by rw [← HLP.out]; exact g1)
        clear fin bad
        go_wp2
        go_ret2
        exact HF.out
      have es : (st p).toList.isEmpty = false := st_some (by rw [← HLP.out]; exact g1)
      by_cases g2 : 20 < Lp
      · have HF := fin (bad (.inr (.inl g2)))
        have g2i : (20 : Int) < (Lp : Int) := by omega
        clear fin bad
        go_wp2
        go_ret2
        exact HF.out
      have g2i : ¬ (20 : Int) < (Lp : Int) := by omega
      by_cases g3 : m < 1
      · have HF := fin (bad (.inr (.inr (.inl g3))))
        clear fin bad
        go_wp2
        go_ret2
        exact HF.out
      by_cases g4 : 1125899906842624 < m
      · have HF := fin (bad (.inr (.inr (.inr g4))))
        clear fin bad
        go_wp2
        go_ret2
        exact HF.out
      have hbad0 : badS (p, m) = false := decide_eq_false (by simp only; rw [← HLP.out]; omega)
      have HNX : Hid (rgTo xs (k + 1) = if hasP p (xs.take k) then 9 else 0) := by
        show _ = _
        rw [rgTo_next HZ.out HX.out]
        unfold rbF
        rw [hbad0]
        rfl
      have HRk := Lib.hid HRW.out
      have HXs : Hid (B1 ≤ wo.heap.size) := by have := HB1.out.size; have := HBE.out; show _ ≤ _; omega
      clear fin bad hbad0 g1 g2
      go_wp2
      go_loopg [10] k (fun gk2 v10 wr => ∃ j : Nat, j ≤ k ∧ v10 = .int .i64 j ∧ k - j ≤ gk2 ∧ Hid (∀ (i : Nat) (y : Sh), i < j → xs[i]? = some y → y.1 ≠ p) ∧ Hid (∃ z, wr = wo.drewN z))
      case atStart => exact ⟨0, Nat.zero_le _, rfl, by omega, fun i y hi => by omega, 0, rfl⟩
      case round =>
        obtain ⟨j, hj, rfl, hgk2, HJ, HD⟩ := hrel
        by_cases hjl : j < k
        · obtain ⟨y, hy⟩ : ∃ y, xs[j]? = some y := ⟨_, List.getElem?_eq_getElem (by rw [← HN.out]; omega)⟩
          obtain ⟨p2, m2⟩ := y
          obtain ⟨z0, hz0⟩ := HD.out
          have hat2 := HRW.out.at hy
          have e0 : wr.cell? ⟨b1, off + j * 2, none⟩ = some (.string (st p2)) := by rw [hz0]; simpa using hat2 0 _ rfl
          have e1 : wr.cell? ⟨b1, off + k * 2, none⟩ = some (.string (st p)) := by rw [hz0]; exact c0
          have HDD : Hid (∀ z, ∃ z', wr.drewN z = wo.drewN z') := fun z => ⟨z0 + z, by rw [hz0, World.drewN_drewN]⟩
          have HY := Lib.hid hy
          have hjz : (0 : Int) ≤ (j : Int) := by omega
          have hjn : (j : Int) < (n : Int) := by omega
          clear hy hat2 hz0 HD c0
          by_cases hpp : p2 = p
          · have HPP := Lib.hid hpp
            have HE9 : Hid (E = 9) := by
              show _ = _
              have h1 : rgTo xs (k + 1) = 9 := by
                rw [HNX.out, hasP_some (k := j) (s := (p2, m2)) (by rw [List.getElem?_take_of_lt hjl]; exact HY.out) HPP.out]
                rfl
              rw [HE.out, rgTo_from (k := k + 1) (by rw [h1]; decide) (by rw [← HN.out]; omega), h1]
            have HBW : Hid (∀ z, Below w.heap.size w (wr.drewN z)) := fun z => by
              obtain ⟨z', hz'⟩ := HDD.out z
              rw [hz']
              exact below_drewN HB.out z'
            subst hpp
            go_wp2
            go_quiet (fail)
            go_wp2
            go_ret2
            exact .inl ⟨by rw [HE9.out]; decide, by rw [HE9.out]; exact ⟨rfl, HBW.out _⟩⟩
          · have hne := st_neb hpp
            have HPP := Lib.hid hpp
            clear hpp
            go_wp2
            go_quiet (fail)
            go_wp2
            go_roundg (k - (j + 1))
            case measure => omega
            case rel =>
              refine ⟨j + 1, by omega, by go_num, by omega, fun i y hi hy => ?_, HDD.out _⟩
              by_cases e : i = j
              · subst e
                rw [HY.out] at hy
                injection hy with hy
                rw [← hy]
                exact HPP.out
              · exact HJ.out i y (by omega) hy
        · have hjk : ¬ ((j : Int) < (k : Int)) := by omega
          obtain ⟨z0, hz0⟩ := HD.out
          have HO8r : Hid (wr.ownsRow B1 2 1 u8 k (((wts xs).take k).map (Value.int .i64))) := by rw [hz0]; exact HO8.out
          have HBr : Hid (Below B1 w1 wr) := by rw [hz0]; exact below_drewN HB1.out z0
          have d1 : wr.cell? ⟨b1, off + k * 2 + 1, none⟩ = some (.int .i64 m) := by rw [hz0]; exact c1
          have HXr : Hid (B1 ≤ wr.heap.size) := by rw [hz0]; exact HXs.out
          have HZ1 : Hid (rgTo xs (k + 1) = 0) := by
            show _ = _
            rw [HNX.out, hasP_none (fun i y hy => ?_)]
            · rfl
            · have hi : i < k := by have := (List.getElem?_eq_some_iff.1 hy).1; rw [List.length_take] at this; omega
              rw [List.getElem?_take_of_lt hi] at hy
              exact HJ.out i y (by omega) hy
          have HTK := Lib.hid (wts_take xs HX.out)
          clear hz0 HD HO8 HB HBX c0 c1 HXs HJ
          go_wp2_with (first | (at_builtin; refine wpList_append_one rfl (.tmp 117) (.tmp 123) 103 rfl B1 2 (.int .i64 0) 8 Tryz.underlying103 infoI64 rfl _ (.int .i64 m) rfl _ k (((wts xs).take k).map (Value.int .i64)) rfl rfl HO8r.out HXr.out (by unfold maxLen; omega) (by omega) ?_; intro v' w' h1 h2; have HO9 := Lib.hid h1; have HB9 : Hid (Below B1 w1 w') := HBr.out.trans h2; clear h1 h2) | fail)
          go_roundg (n - (k + 1))
          case measure => omega
          case rel => exact ⟨k + 1, by omega, by go_num, by omega, HZ1.out, by show World.ownsRow _ _ _ _ _ _ _; rw [HTK.out]; exact HO9.out, HB9.out⟩
    · have hkn : ¬ ((k : Int) < (n : Int)) := by omega
      have hke : k = n := by omega
      subst hke
      have hE0 : E = 0 := by rw [HE.out, ← HN.out]; exact HZ.out
      have HE0 := Lib.hid hE0
      have HG := Lib.hid (GoodW.of (xs := xs) (by rw [← HN.out]; exact hn0) (by rw [← HN.out]; exact hn8) (by rw [← HN.out]; exact HZ.out))
      have hor : Ordr k (fun i => (rf T (ptS xs) (ptW xs) i : Int)) s tt := by rw [HN.out]; exact HO.out hE0
      obtain ⟨g8, c8, hv8, hg81, hg82⟩ := HO8.out.form hn0
      subst hv8
      have hcell : ∀ i, i < k → wo.cell? ⟨g8, 0 + i, none⟩ = some (.int .i64 (ptW xs i : Nat)) := fun i hi => by
        have hi2 : i < xs.length := by rw [← HN.out]; exact hi
        have h1 : (((wts xs).take k).map (Value.int .i64))[i]? = some (.int .i64 (ptW xs i : Nat)) := by
          have hl : i < (wts xs).length := by rw [wts_length]; exact hi2
          have h3 := (HG.out.each i hi2).2.2
          rw [List.getD_eq_getElem?_getD, List.getElem?_eq_getElem hl] at h3
          rw [List.getElem?_map, List.getElem?_take_of_lt hi, List.getElem?_eq_getElem hl]
          simp only [Option.getD_some] at h3
          rw [Option.map_some, h3]
        rw [Nat.zero_add]
        exact cell_of_own HO8.out h1
      have hle := HG.out.le
      have hsumc : Calls Tryz.prog 76 #[.slice (some ⟨g8, 0, none⟩) k c8] wo fun e w' => e = .returned (.tuple #[.int .i64 (ptS xs : Int), .bool true]) ∧ wo = w' := by
        have hl : (wts xs).length = k := by rw [wts_length, HN.out]
        have := rSum_any (some ⟨g8, 0, none⟩) c8 (wts xs) wo (fun _ => ⟨g8, 0, rfl, fun i hi => by
          rw [hl] at hi
          rw [hcell i hi, (HG.out.each i (by rw [← HN.out]; exact hi)).2.2]⟩) HG.out.amt (by rw [hl]; unfold maxLen; omega)
        rw [HG.out.sum, hl] at this
        exact this
      have hTA : (T : Int) = A - f - t := by rw [HT.out]; omega
      have hSPL := rsplit_yes T (ptS xs) g8 0 c8 k (ptW xs) wo hn0 (by omega) (by omega) HG.out.pos (by omega) hsumc hcell (fun i hi => by
        have := le_sumN (f := ptW xs) (i := i) (n := xs.length) (by rw [← HN.out]; exact hi)
        exact this) (by rw [HN.out]; rfl) s tt hor
      rw [hTA] at hSPL
      have HSPL := Lib.hid hSPL
      have HSw : Hid (w.heap.size < wo.heap.size) := by
        have := HBX.out.lt
        have := HXE.out
        show _ < _; omega
      have k0 : wo.cell? ⟨X, 0, none⟩ = some (.int .i64 f) := HBX.out.cell 0
      have k1 : wo.cell? ⟨X, 1, none⟩ = some (.int .i64 t) := HBX.out.cell 1
      have h11 : 0 ≤ A - f - t := by omega
      clear hE0 hor hcell hsumc hTA hSPL hg81 hg82 hle HO8
      go_wp2_with fail
      refine HSPL.out.mono ?_
      rintro e w7 ⟨gn, cn, rfl, hown7, hb7⟩
      have HB7 : Hid (Below w.heap.size w w7) := bel_onG HB.out HB.out.size hb7
      have HBX7 : Hid (Blk w7 X 65 #[.int .i64 f, .int .i64 t, .int .i64 h, .int .i64 q]) := HBX.out.since hb7
      have HNC : Hid (∀ i, i < k → w7.cell? ⟨gn, i, none⟩ = some (.int .i64 (partK T (ptS xs) (ptW xs) tt (leftN T (ptS xs) (ptW xs) k) i : Nat))) := fun i hi => cell_of_own hown7 (outK_get hi)
      obtain ⟨L, hL⟩ : ∃ L, L = prtL xs (partK T (ptS xs) (ptW xs) tt (leftN T (ptS xs) (ptW xs) k)) h := ⟨_, rfl⟩
      have HL := Lib.hid hL
      obtain ⟨B7, hB7⟩ : ∃ B7, B7 = w7.heap.size := ⟨_, rfl⟩
      have HB7E := Lib.hid hB7
      have HGN : Hid (gn < B7) := by rw [hB7]; exact (hown7.lt gn rfl).2
      clear hown7 hb7 HSPL k0 k1 hL hB7 HB HBX HB1
      go_wp2
      go_loopg [13, 14, 15, 16] k (fun gk v13 v14 v15 v16 wr => ∃ j : Nat, j ≤ k ∧ v14 = .int .i64 j ∧ k - j ≤ gk ∧ Hid (wr.ownsRow B7 109 3 v13 j ((L.take j).flatMap cPt)) ∧ Hid (Below B7 w7 wr))
      case atStart => exact ⟨0, Nat.zero_le _, rfl, by omega, World.ownsRow_nil _ _ _ _, Below.refl _ _⟩
      case round =>
        obtain ⟨j, hj, rfl, hgj, HOJ, HBJ⟩ := hrel
        by_cases hlj : j < k
        · obtain ⟨x, hx⟩ : ∃ x, xs[j]? = some x := ⟨_, List.getElem?_eq_getElem (by rw [← HN.out]; exact hlj)⟩
          obtain ⟨p, m⟩ := x
          obtain ⟨b1, off, rfl⟩ := HR.out.form (by rw [← HN.out]; omega)
          have hat := ((HR.out.keep HB7.out).keep (HB7E.out ▸ HBJ.out)).at hx
          have c0 : wr.cell? ⟨b1, off + j * 2, none⟩ = some (.string (st p)) := by simpa using hat 0 _ rfl
          have d0 : wr.cell? ⟨gn, j, none⟩ = some (.int .i64 (partK T (ptS xs) (ptW xs) tt (leftN T (ptS xs) (ptW xs) k) j : Nat)) := (HBJ.out.cell (p := ⟨gn, j, none⟩) HGN.out).trans (HNC.out j hlj)
          have hXr : Blk wr X 65 #[.int .i64 f, .int .i64 t, .int .i64 h, .int .i64 q] := HBX7.out.since (HB7E.out ▸ HBJ.out)
          obtain ⟨N, hNN⟩ : ∃ N, N = partK T (ptS xs) (ptW xs) tt (leftN T (ptS xs) (ptW xs) k) j := ⟨_, rfl⟩
          obtain ⟨M, hM⟩ : ∃ M, M = mdV (N : Int) h 10000 0 := ⟨_, rfl⟩
          obtain ⟨bk, hbk⟩ : ∃ bk, bk = mdB (N : Int) h 10000 0 := ⟨_, rfl⟩
          have hLj : L[j]? = some (p, (N : Int), M) := by rw [HL.out, hM, hNN]; exact prtL_get _ h hx
          have HTK := Lib.hid (prt_take hLj)
          have hN : N ≤ T := by
            rw [hNN]
            exact part_le HG.out.pos (by rw [HN.out]; rfl) hlj
          have hTm : T ≤ 1125899906842624 := by rw [HT.out]; omega
          have hMM : ∀ W, Calls Tryz.prog 60 #[.int .i64 (N : Int), .int .i64 h, .int .i64 10000, .int .i64 0] W fun e w' => e = .returned (.tuple #[.int .i64 M, .bool bk]) ∧ Below W.heap.size W w' := fun W => by
            have := rMulDiv_any (N : Int) h 10000 0 W (by unfold Amt; omega) (by unfold Amt; omega) (by decide) (by decide) (.inl rfl)
            unfold RMDPost at this
            rw [← hM, ← hbk] at this
            exact this
          have HMM := Lib.hid hMM
          rw [← hNN] at d0
          have hB7 : w.heap.size ≤ B7 := by have := HB7.out.size; rw [HB7E.out]; exact this
          have hjB : B7 ≤ wr.heap.size := by have := HBJ.out.size; rw [HB7E.out] at *; exact this
          have HB7s : Hid (B7 ≤ wr.heap.size) := hjB
          have hlb : b1 < B7 := by
            obtain ⟨b2, off2, e2, hc2⟩ := HR.out (by rw [← HN.out]; omega)
            have h3 := World.block_lt_of_cell? w _ (hc2 j _ hx 0 _ rfl)
            injection e2 with e2
            injection e2 with e2 _ _
            subst e2
            have h4 : b1 < w.heap.size := h3
            omega
          have HN1 : Hid (some b1 ≠ u13.ownBlock) := fun e => by have := (HOJ.out.lt b1 e.symm).1; omega
          have HN2 : Hid (some gn ≠ u13.ownBlock) := fun e => by have := (HOJ.out.lt gn e.symm).1; have := HGN.out; omega
          have hkz : (0 : Int) ≤ (j : Int) := by omega
          have hkn : (j : Int) < (k : Int) := by omega
          have HCA : Hid (∀ W, Below wr.heap.size wr W → W.cell? ⟨b1, off + j * 2, none⟩ = some (.string (st p)) ∧ W.cell? ⟨gn, j, none⟩ = some (.int .i64 (N : Int))) := fun W hW =>
            ⟨(hW.cell (p := ⟨b1, off + j * 2, none⟩) (World.block_lt_of_cell? wr _ c0)).trans c0, (hW.cell (p := ⟨gn, j, none⟩) (World.block_lt_of_cell? wr _ d0)).trans d0⟩
          have k1 : wr.drew.cell? ⟨gn, j, none⟩ = some (.int .i64 (N : Int)) := d0
          have k2 : wr.drew.cell? ⟨X, 2, none⟩ = some (.int .i64 h) := hXr.cell 2
          have HXr := Lib.hid hXr
          have HX2 : Hid (∀ W, Below wr.heap.size wr W → W.cell? ⟨X, 2, none⟩ = some (.int .i64 h)) := fun W hW => (HXr.out.since hW).cell 2
          clear hx hat c0 d0 hXr hNN hM hbk hLj hMM hB7 hjB hlb
          go_wp2_with fail
          go_region_held3 (fun w' => w'.cell? ⟨gn, j, none⟩ = some (.int .i64 (N : Int)) ∧ w'.cell? ⟨X, 2, none⟩ = some (.int .i64 h))
            (first | with_reducible exact ⟨k1, k2⟩ | with_reducible exact ⟨j1, j2⟩ | go_keep)
            (first
              | (go_at_call 60; ((with_reducible refine (HMM.out _).mono ?_); rintro e w8 ⟨rfl, hb8⟩; have hb8' : Below wr.heap.size wr w8 := bel_onG (Below.refl wr.heap.size wr).drew (Nat.le_refl _) hb8; have j1 := (HCA.out w8 hb8').2; have j2 := HX2.out w8 hb8')))
          have HOw : Hid (w8.ownsRow B7 109 3 u13 j ((L.take j).flatMap cPt)) := own_sinceG HOJ.out hb8'
          have HB8 : Hid (Below B7 w7 w8) := bel_onG HBJ.out HB7s.out hb8'
          have HB8s : Hid (B7 ≤ w8.heap.size) := Nat.le_trans HB7s.out hb8'.size
          have q1 := (HCA.out w8 hb8').1
          have q2 := (HCA.out w8 hb8').2
          have hl1 := World.block_lt_of_cell? w8 _ q1
          have hl2 := World.block_lt_of_cell? w8 _ q2
          obtain ⟨i0, hi0, hz0, hz1, hz2⟩ := info_parts infoRPart
          have HH1 := Lib.hid hl1
          have HH2 := Lib.hid hl2
          clear hb8 hb8' j1 j2 k1 k2 HCA HX2 HXr HMM HOJ HBJ HB7s hl1 hl2
          go_wp2_with fail
          have r1 : w8.drew.cell? ⟨b1, off + j * 2, none⟩ = some (.string (st p)) := q1
          have r2 : w8.drew.cell? ⟨gn, j, none⟩ = some (.int .i64 (N : Int)) := q2
          have s1 : (w8.alloc (.cells #[.string (st p), .int .i64 (N : Int), .int .i64 M] 109)).drew.cell? ⟨b1, off + j * 2, none⟩ = some (.string (st p)) := (World.cell?_alloc_lt _ _ _ HH1.out).trans q1
          have s2 : (w8.alloc (.cells #[.string (st p), .int .i64 (N : Int), .int .i64 M] 109)).drew.cell? ⟨gn, j, none⟩ = some (.int .i64 (N : Int)) := (World.cell?_alloc_lt _ _ _ HH2.out).trans q2
          go_region_held3 (fun w' => w'.cell? ⟨b1, off + j * 2, none⟩ = some (.string (st p)) ∧ w'.cell? ⟨gn, j, none⟩ = some (.int .i64 (N : Int)))
            (first | with_reducible exact ⟨r1, r2⟩ | with_reducible exact ⟨s1, s2⟩ | with_reducible exact ⟨x1, x2⟩ | go_keep)
            ((refine step_append_lies _ (by rfl) _ _ _ (by rfl) B7 109 i0 _ 3 32 Tryz.underlying61 hi0 hz0 hz1 hz2 rfl (by omega) u13 j ((L.take j).flatMap cPt) (by rfl) ((own_sinceG HOw.out ((Below.refl _ w8).alloc (Nat.le_refl _) _)).drew)
                  ⟨w8.heap.size, 0, none⟩ 1 1 [.string (st p), .int .i64 (N : Int), .int .i64 M] (by rfl) (by rfl) (World.news_of_block (cs := #[.string (st p), .int .i64 (N : Int), .int .i64 M]) (t := 109) (fr := (0, 0)) (Blk.new w8 _ _)) (by simp [Value.oneCell'])
                  (by omega) (by unfold maxLen; omega) (by omega) (by have := HB8s.out; simp; omega) (w8.heap.size + 1) (by simp) ?_; intro gg cap w9 hown9 hgrow hat hlt9; have x1 := (hgrow.cell_far ⟨b1, off + j * 2, none⟩ (World.block_lt_of_cell? _ _ s1) HN1.out).trans s1; have x2 := (hgrow.cell_far ⟨gn, j, none⟩ (World.block_lt_of_cell? _ _ s2) HN2.out).trans s2))
          have HO9 : Hid (w9.ownsRow B7 109 3 (.slice (some ⟨gg, 0, none⟩) (j + 1) cap) (j + 1) ((L.take (j + 1)).flatMap cPt)) := by
            show World.ownsRow _ _ _ _ _ _ _
            rw [HTK.out]
            exact hown9
          have HB9 : Hid (Below B7 w7 w9) := ((HB8.out.alloc HB8s.out _).drew).grown hgrow (by have := HB8s.out; simp; omega) (fun z hz => (HOw.out.lt z hz).1)
          clear q1 q2 r1 r2 s1 s2 x1 x2 hown9 hgrow hat hlt9 HB8 HB8s HOw HN1 HN2 hi0 hz0 hz1 hz2 HTK
          go_wp2
          go_roundg (k - (j + 1))
          case measure => omega
          case rel => exact ⟨j + 1, by omega, by go_num, by omega, HO9.out, HB9.out⟩
        · have hkn : ¬ ((j : Int) < (k : Int)) := by omega
          have hjk : j = k := by omega
          have hLl : L.length = k := by rw [HL.out, prtL_length, HN.out]
          obtain ⟨ar, cr, hv, hrow, _, _⟩ := RowG.own cPt_len HOJ.out (by rw [List.length_take, hLl]; omega)
          rw [hjk, List.take_of_length_le (by omega)] at hrow
          have hlt2 : (L.take j).length = k := by rw [List.length_take, hLl]; omega
          rw [hlt2] at hv
          subst hv
          have HROW := Lib.hid hrow
          have HBF := Lib.hid (bel_onG HB7.out HB7.out.size (HB7E.out ▸ HBJ.out))
          have HE0 : Hid (E = 0) := by show _ = _; rw [HE.out, ← HN.out]; exact HZ.out
          clear hrow hlt2 hjk hLl HOJ HBJ
          go_wp2
          go_ret2
          exact .inr ⟨HE0.out, ar, cr, by rw [HN.out]; first | done | rfl, by rw [← HN.out, ← HL.out]; exact HROW.out, HBF.out⟩
end Go.Proofs.YtkflakeocdlinaaGreatDoor
/-
  The document's Parts, whatever comes in; slices.Equal of parts that are the same; souklaw12.lives.
-/
namespace Go.Proofs.YtkflakeocdlinaaGreatDoor
open Go.RowKit Go.Deep

theorem rparts_any (A f t h q : Int) (a : Option Addr) (c : Nat) (xs : List Sh) (s tt : Nat → Nat) (w : World) (hA : Amt A) (hr : RowG 2 cSh w a xs)
    (hO : ofE A f t h xs = 0 → Ordr xs.length (fun i => (rf (A - f - t).toNat (ptS xs) (ptW xs) i : Int)) s tt) :
    Calls Tryz.prog 33 #[.int .i64 A, .agg #[.int .i64 f, .int .i64 t, .int .i64 h, .int .i64 q], .slice a xs.length c] w (RpPost (ofE A f t h xs) (A - f - t).toNat h xs tt w) := by
  by_cases hc : A ≤ 1125899906842624 ∧ 0 ≤ f ∧ 0 ≤ t ∧ 0 ≤ h ∧ h ≤ 10000 ∧ f + t ≤ A
  · by_cases hl : xs.length = 0 ∨ 8 < xs.length
    · rw [ofE_bad1 hl]
      exact (rparts_bad A f t h q a c xs.length w hA (.inr hl)).mono fun e w' he => .inl ⟨by decide, he⟩
    · rw [ofE_good hc hl] at hO ⊢
      exact rparts_good A f t h q a c xs s tt w hr hc hl hO
  · rw [ofE_bad2 hc]
    exact (rparts_bad A f t h q a c xs.length w hA (.inl hc)).mono fun e w' he => .inl ⟨by decide, he⟩

end Go.Proofs.YtkflakeocdlinaaGreatDoor
