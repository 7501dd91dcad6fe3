/-
  The document's Split while it picks: its two rows.
-/
import Derived.Test.YtkflakeocdlinaaGreatDoorMC16
import Derived.Deep.RegionHeld3
namespace Go.Proofs.YtkflakeocdlinaaGreatDoor
open Go.RowKit

/-- the parts when m places have got one more -/
def outK (T S : Nat) (W t : Nat → Nat) (n m : Nat) : List Value := (List.range n).map fun i => .int .i64 (partK T S W t m i : Nat)
/-- the rests that are there still -/
def restK (t : Nat → Nat) (vs : List Value) (n m : Nat) : List Value := (List.range n).map fun i => if t i < m then .slice none 0 0 else vs.getD i (.slice none 0 0)

theorem outK_length (T S : Nat) (W t : Nat → Nat) (n m : Nat) : (outK T S W t n m).length = n := by simp [outK]
theorem restK_length (t : Nat → Nat) (vs : List Value) (n m : Nat) : (restK t vs n m).length = n := by simp [restK]
theorem outK_get {T S : Nat} {W t : Nat → Nat} {n m i : Nat} (h : i < n) : (outK T S W t n m)[i]? = some (.int .i64 (partK T S W t m i : Nat)) := by
  unfold outK; rw [List.getElem?_map, List.getElem?_range h]; rfl
theorem restK_get {t : Nat → Nat} {vs : List Value} {n m i : Nat} (h : i < n) : (restK t vs n m)[i]? = some (if t i < m then .slice none 0 0 else vs.getD i (.slice none 0 0)) := by
  unfold restK; rw [List.getElem?_map, List.getElem?_range h]; rfl

theorem outK_step {T S : Nat} {W t s : Nat → Nat} {n m : Nat} {key : Nat → Int} (ho : Ordr n key s t) :
    (outK T S W t n m).set (s m) (.int .i64 ((partK T S W t m (s m) : Nat) + 1)) = outK T S W t n (m + 1) := by
  apply List.ext_getElem?
  intro i
  by_cases hi : i < n
  · rw [outK_get hi]
    by_cases e : i = s m
    · subst e
      rw [List.getElem?_set_self (by rw [outK_length]; exact hi)]
      unfold partK
      rw [ho.ts, if_neg (by omega), if_pos (by omega)]
      rfl
    · rw [List.getElem?_set_ne (fun h => e h.symm), outK_get hi]
      have : t i ≠ m := fun e' => e (by rw [← e', ho.st])
      unfold partK
      by_cases h : t i < m
      · rw [if_pos h, if_pos (by omega)]
      · rw [if_neg h, if_neg (by omega)]
  · rw [List.getElem?_eq_none (by rw [List.length_set, outK_length]; omega), List.getElem?_eq_none (by rw [outK_length]; omega)]

theorem restK_step {t s : Nat → Nat} {vs : List Value} {n m : Nat} {key : Nat → Int} (ho : Ordr n key s t) :
    (restK t vs n m).set (s m) (.slice none 0 0) = restK t vs n (m + 1) := by
  apply List.ext_getElem?
  intro i
  by_cases hi : i < n
  · rw [restK_get hi]
    by_cases e : i = s m
    · subst e
      rw [List.getElem?_set_self (by rw [restK_length]; exact hi), ho.ts, if_pos (by omega)]
    · rw [List.getElem?_set_ne (fun h => e h.symm), restK_get hi]
      have : t i ≠ m := fun e' => e (by rw [← e', ho.st])
      by_cases h : t i < m
      · rw [if_pos h, if_pos (by omega)]
      · rw [if_neg h, if_neg (by omega)]
  · rw [List.getElem?_eq_none (by rw [List.length_set, restK_length]; omega), List.getElem?_eq_none (by rw [restK_length]; omega)]

/-- the two rows when m places have got one more -/
structure PK (T S : Nat) (W t : Nat → Nat) (w wr : World) (g1 c1 g2 c2 n m : Nat) (vs : List Value) : Prop where
  own1 : wr.ownsRow w.heap.size 2 1 (.slice (some ⟨g1, 0, none⟩) n c1) n (outK T S W t n m)
  own2 : wr.ownsRow w.heap.size 123 1 (.slice (some ⟨g2, 0, none⟩) n c2) n (restK t vs n m)
  ne : g1 ≠ g2
  rest : ∀ i, i < n → ∃ v bs, vs.getD i (.slice none 0 0) = v ∧ val bs = rf T S W i ∧ bs.length ≤ 64 ∧ Rst (.slice (some ⟨g1, 0, none⟩) n c1) (.slice (some ⟨g2, 0, none⟩) n c2) wr v bs
  below : Below w.heap.size w wr

theorem PK.start {T S : Nat} {W t : Nat → Nat} {w wr : World} {vo vr : Value} {n : Nat} {vs : List Value} (h : RS T S W w wr vo vr n vs) (hn : 0 < n) :
    ∃ g1 c1 g2 c2, vo = .slice (some ⟨g1, 0, none⟩) n c1 ∧ vr = .slice (some ⟨g2, 0, none⟩) n c2 ∧ PK T S W t w wr g1 c1 g2 c2 n 0 vs := by
  obtain ⟨g1, c1, e1, _, _⟩ := h.own1.form hn
  obtain ⟨g2, c2, e2, _, _⟩ := h.own2.form hn
  subst e1
  subst e2
  refine ⟨g1, c1, g2, c2, rfl, rfl, ?_, ?_, fun e => h.dist g1 rfl (by rw [e]; rfl), fun i hi => ?_, h.below⟩
  · have e : outK T S W t n 0 = (List.range n).map fun i => Value.int .i64 (qf T S W i : Nat) := by
      unfold outK
      apply List.map_congr_left
      intro i _
      unfold partK
      rw [if_neg (by omega), Nat.add_zero]
    rw [e]; exact h.own1
  · have hl : vs.length = n := by have := h.own2.1; omega
    have e : restK t vs n 0 = vs := by
      apply List.ext_getElem?
      intro i
      by_cases hi : i < n
      · rw [restK_get hi, if_neg (by omega), List.getD_eq_getElem?_getD, List.getElem?_eq_getElem (by omega)]; rfl
      · rw [List.getElem?_eq_none (by rw [restK_length]; omega), List.getElem?_eq_none (by omega)]
    rw [e]; exact h.own2
  · obtain ⟨v, bs, q1, q2, q3, q4⟩ := h.rest i hi
    exact ⟨v, bs, by rw [List.getD_eq_getElem?_getD, q1]; rfl, q2, q3, q4⟩

theorem cell_of_own {w : World} {base g n c k : Nat} {e : TypeId} {xs : List Value} {u : Value} (h : w.ownsRow base e 1 (.slice (some ⟨g, 0, none⟩) n c) n xs) (hk : xs[k]? = some u) : w.cell? ⟨g, k, none⟩ = some u := by
  have h1 := h.cells (g := g) rfl k u hk
  rw [← h1]
  unfold Addr.add
  by_cases e0 : k = 0
  · subst e0; rfl
  · simp [e0]

theorem PK.cell1 {T S : Nat} {W t : Nat → Nat} {w wr : World} {g1 c1 g2 c2 n m i : Nat} {vs : List Value} (h : PK T S W t w wr g1 c1 g2 c2 n m vs) (hi : i < n) : wr.cell? ⟨g1, i, none⟩ = some (.int .i64 (partK T S W t m i : Nat)) :=
  cell_of_own h.own1 (outK_get hi)
theorem PK.cell2 {T S : Nat} {W t : Nat → Nat} {w wr : World} {g1 c1 g2 c2 n m i : Nat} {vs : List Value} (h : PK T S W t w wr g1 c1 g2 c2 n m vs) (hi : i < n) : wr.cell? ⟨g2, i, none⟩ = some (if t i < m then .slice none 0 0 else vs.getD i (.slice none 0 0)) :=
  cell_of_own h.own2 (restK_get hi)

theorem PK.drewN {T S : Nat} {W t : Nat → Nat} {w wr : World} {g1 c1 g2 c2 n m : Nat} {vs : List Value} (h : PK T S W t w wr g1 c1 g2 c2 n m vs) (k : Nat) : PK T S W t w (wr.drewN k) g1 c1 g2 c2 n m vs :=
  ⟨h.own1, h.own2, h.ne, fun i hi => by
    obtain ⟨v, bs, q1, q2, q3, q4⟩ := h.rest i hi
    exact ⟨v, bs, q1, q2, q3, ⟨q4.wb, q4.far⟩⟩, ⟨h.below.os, h.below.tape, h.below.output, h.below.size, h.below.block⟩⟩

theorem PK.step {T S : Nat} {W s t : Nat → Nat} {w wr : World} {g1 c1 g2 c2 n m : Nat} {vs : List Value} {key : Nat → Int} (h : PK T S W t w wr g1 c1 g2 c2 n m vs) (ho : Ordr n key s t) :
    PK T S W t w ((wr.setCell ⟨g1, s m, none⟩ (.int .i64 ((partK T S W t m (s m) : Nat) + 1))).setCell ⟨g2, s m, none⟩ (.slice none 0 0)) g1 c1 g2 c2 n (m + 1) vs := by
  have a1 := h.own1.stored (s m) (.int .i64 ((partK T S W t m (s m) : Nat) + 1))
  rw [outK_step ho] at a1
  have b1 := h.own2.kept a1.2 (.inr (fun e => h.ne (Option.some.inj e).symm))
  have a2 := b1.stored (s m) (.slice none 0 0)
  rw [restK_step ho] at a2
  have b2 := a1.1.kept a2.2 (.inr (fun e => h.ne (Option.some.inj e)))
  have l1 := (h.own1.lt g1 rfl).1
  have l2 := (h.own2.lt g2 rfl).1
  refine ⟨b2, a2.1, h.ne, fun i hi => ?_, (h.below.setCell (p := ⟨g1, s m, none⟩) l1 _).setCell (p := ⟨g2, s m, none⟩) l2 _⟩
  obtain ⟨v, bs, q1, q2, q3, q4⟩ := h.rest i hi
  exact ⟨v, bs, q1, q2, q3, (q4.grow a1.2 (.inl rfl) (.inl rfl) (.inl rfl)).grow a2.2 (.inr (.inl rfl)) (.inl rfl) (.inl rfl)⟩

/-- who is the greatest, and the first of these, among those below j that are there still; none: -1 -/
def Best (T S : Nat) (W t : Nat → Nat) (m j : Nat) (there : Nat → Prop) (b : Int) : Prop :=
  (b = -1 ∧ ∀ i, i < j → m ≤ t i → ¬ there i) ∨
  ∃ k : Nat, b = (k : Int) ∧ k < j ∧ m ≤ t k ∧ there k ∧ ∀ i, i < j → m ≤ t i → there i → i = k ∨ bef (fun i => (rf T S W i : Int)) k i

theorem Best.skip {T S : Nat} {W t : Nat → Nat} {m j : Nat} {there : Nat → Prop} {b : Int} (h : Best T S W t m j there b) (hj : m ≤ t j → ¬ there j) : Best T S W t m (j + 1) there b := by
  rcases h with ⟨e, h⟩ | ⟨k, e, h1, h2, h3, h4⟩
  · refine .inl ⟨e, fun i hi h5 => ?_⟩
    by_cases e : i = j
    · subst e; exact hj h5
    · exact h i (by omega) h5
  · refine .inr ⟨k, e, by omega, h2, h3, fun i hi h5 h6 => ?_⟩
    by_cases e : i = j
    · subst e; exact absurd h6 (hj h5)
    · exact h4 i (by omega) h5 h6

theorem Best.first {T S : Nat} {W t : Nat → Nat} {m j : Nat} {there : Nat → Prop} (h : Best T S W t m j there (-1)) (h1 : m ≤ t j) (h2 : there j) : Best T S W t m (j + 1) there (j : Nat) := by
  rcases h with ⟨_, h⟩ | ⟨k, e, _⟩
  · refine .inr ⟨j, rfl, by omega, h1, h2, fun i hi h5 h6 => ?_⟩
    by_cases e : i = j
    · exact .inl e
    · exact absurd h6 (h i (by omega) h5)
  · omega

theorem Best.more {T S : Nat} {W t : Nat → Nat} {m j k : Nat} {there : Nat → Prop} (h : Best T S W t m j there (k : Nat)) (h1 : m ≤ t j) (h2 : there j) (hlt : rf T S W k < rf T S W j) : Best T S W t m (j + 1) there (j : Nat) := by
  rcases h with ⟨e, _⟩ | ⟨k', e, h3, _, _, h4⟩
  · omega
  · obtain rfl : k = k' := by omega
    refine .inr ⟨j, rfl, by omega, h1, h2, fun i hi h5 h6 => ?_⟩
    by_cases e : i = j
    · exact .inl e
    · right
      rcases h4 i (by omega) h5 h6 with h7 | h7
      · subst h7; unfold bef; simp only; omega
      · unfold bef at h7 ⊢; simp only at h7 ⊢; omega

theorem Best.less {T S : Nat} {W t : Nat → Nat} {m j k : Nat} {there : Nat → Prop} (h : Best T S W t m j there (k : Nat)) (hlt : ¬ rf T S W k < rf T S W j) : Best T S W t m (j + 1) there (k : Nat) := by
  rcases h with ⟨e, _⟩ | ⟨k', e, h3, h5, h6, h4⟩
  · omega
  · obtain rfl : k = k' := by omega
    refine .inr ⟨k, rfl, by omega, h5, h6, fun i hi h7 h8 => ?_⟩
    by_cases e : i = j
    · subst e; right; unfold bef; simp only; omega
    · exact h4 i (by omega) h7 h8

theorem Best.told {T S n : Nat} {W s t : Nat → Nat} {m : Nat} {there : Nat → Prop} {b : Int} (h : Best T S W t m n there b) (ho : Ordr n (fun i => (rf T S W i : Int)) s t) (hm : m < n) (hth : there (s m)) : b = (s m : Nat) := by
  have hsm := ho.lt m hm
  rcases h with ⟨_, h⟩ | ⟨k, e, h3, h5, h6, h4⟩
  · exact absurd hth (h (s m) hsm (by rw [ho.ts]; exact Nat.le_refl _))
  · rw [e]
    congr 1
    refine next_is ho h3 h5 ?_
    rcases h4 (s m) hsm (by rw [ho.ts]; exact Nat.le_refl _) hth with h7 | h7
    · exact .inl h7.symm
    · exact .inr h7

/-- the document's parts stand in a new row -/
def RYes (T S : Nat) (W t : Nat → Nat) (n : Nat) (w : World) (e : Ending) (w' : World) : Prop :=
  ∃ g c, e = .returned (.tuple #[.slice (some ⟨g, 0, none⟩) n c, .int .i64 0]) ∧ w'.ownsRow w.heap.size 2 1 (.slice (some ⟨g, 0, none⟩) n c) n (outK T S W t n (leftN T S W n)) ∧ Below w.heap.size w w'

theorem some_of_there {w : World} {v : Value} {bs : List Bool} (h : WB w v bs) (hne : v ≠ .slice none 0 0) : ∃ ad c, v = .slice (some ad) bs.length c := by
  obtain ⟨A, c, e, _, _, h3, _⟩ := h
  cases hA : A with
  | none =>
    obtain ⟨h0, h1⟩ := h3 hA
    subst hA
    exact absurd (by rw [e, h0, h1]) hne
  | some ad => subst hA; exact ⟨ad, c, e⟩

theorem there_of_pos {w : World} {v : Value} {bs : List Bool} (h : WB w v bs) (hp : 0 < val bs) : v ≠ .slice none 0 0 := by
  intro e
  obtain ⟨A, c, e2, _⟩ := h
  rw [e] at e2
  injection e2 with _ e3 _
  rw [List.eq_nil_of_length_eq_zero e3.symm] at hp
  simp [val] at hp
end Go.Proofs.YtkflakeocdlinaaGreatDoor
/-
  Contract of the document's Split where nothing is wrong.
-/
namespace Go.Proofs.YtkflakeocdlinaaGreatDoor
open Go.RowKit

set_option maxHeartbeats 6400000 in
set_option maxRecDepth 100000 in
theorem rsplit_yes (T S b off c n : Nat) (W : Nat → Nat) (w : World) (hp : 0 < n) (hn2 : n ≤ 1000) (hT : T ≤ 9223372036854775807) (hS : 0 < S) (hS2 : S ≤ 9223372036854775807)
    (hSum : Calls Tryz.prog 76 #[.slice (some ⟨b, off, none⟩) n c] w fun e w' => e = .returned (.tuple #[.int .i64 (S : Int), .bool true]) ∧ w = w')
    (hc : ∀ i, i < n → w.cell? ⟨b, off + i, none⟩ = some (.int .i64 (W i : Nat))) (hW : ∀ i, i < n → W i ≤ S) (hs : sumN W n = S)
    (s t : Nat → Nat) (ho : Ordr n (fun i => (rf T S W i : Int)) s t) :
    Calls Tryz.prog 59 #[.int .i64 T, .slice (some ⟨b, off, none⟩) n c] w (RYes T S W t n w) := by
  have HC := Lib.hid hc
  have HW := Lib.hid hW
  have HSM := Lib.hid hs
  have HO := Lib.hid ho
  have H1 := Lib.hid hSum
  have tS : ((S : Int) == 0) = false := by simp; omega
  have tT : decide ((T : Int) < 0) = false := decide_eq_false (by omega)
  have aT : Amt (T : Int) := by unfold Amt; omega
  have aS : Amt (S : Int) := by unfold Amt; omega
  have HAT := Lib.hid aT
  have HAS := Lib.hid aS
  have eT : (T : Int).natAbs = T := rfl
  have eS : (S : Int).natAbs = S := rfl
  have HBT : ∀ W', Hid (Calls Tryz.prog 79 #[.int .i64 (T : Int)] W' (WPost W' T 64)) := fun W' => by have := bits_any (T : Int) W' aT; rw [eT] at this; exact this
  have HBS : ∀ W', Hid (Calls Tryz.prog 79 #[.int .i64 (S : Int)] W' (WPost W' S 64)) := fun W' => by have := bits_any (S : Int) W' aS; rw [eS] at this; exact this
  clear hc hW hs ho hSum aT aS eT eS
  go_enter Tryz.func59, Tryz.ntmps59
  go_wp2
  go_loop [6] (fun i => ∃ k : Nat, k ≤ n ∧ i = .int .i64 k) (fun i => n - (intOf i).toNat)
  case atStart => exact ⟨0, Nat.zero_le _, rfl⟩
  case round =>
    obtain ⟨k, hk, rfl⟩ := hrel
    by_cases hlt : k < n
    · have hcell := HC.out k hlt
      have hz0 : (0 : Int) ≤ (W k : Int) := by omega
      obtain ⟨z, hz⟩ : ∃ z, z = W k := ⟨_, rfl⟩
      rw [← hz] at hcell hz0
      clear hz
      go_wp2
      go_round
      case rel => exact ⟨k + 1, by omega, by go_num⟩
      case measure => simp [intOf]; omega
    · go_wp2_with fail
      refine H1.out.mono ?_
      rintro e w' ⟨rfl, rfl⟩
      go_wp2
      clear H1
      go_loopg [9, 10, 11, 12] n (fun gk vo vr vl vi wr => ∃ (j : Nat) (vs : List Value), vi = .int .i64 j ∧ vl = .int .i64 ((T - sumN (qf T S W) j : Nat) : Int) ∧ j ≤ n ∧ n - j ≤ gk ∧ Hid (RS T S W w wr vo vr j vs))
      case atStart => exact ⟨0, [], rfl, by simp [sumN], Nat.zero_le _, by omega, RS.nil T S W w⟩
      case round =>
        obtain ⟨j, vs, rfl, rfl, hj, hgj, HR⟩ := hrel
        by_cases hlt2 : j < n
        · have hcw := HC.out j hlt2
          have hcell : wr.cell? ⟨b, off + j, none⟩ = some (.int .i64 (W j : Nat)) := by
            rw [HR.out.below.cell (p := ⟨b, off + j, none⟩) (World.block_lt_of_cell? w _ hcw)]; exact hcw
          have hzS := HW.out j hlt2
          obtain ⟨z, hz⟩ : ∃ z, z = W j := ⟨_, rfl⟩
          rw [← hz] at hcell hzS
          have HZ := Lib.hid hz
          have HBZ : ∀ W', Hid (Calls Tryz.prog 79 #[.int .i64 (z : Int)] W' (WPost W' z 64)) := fun W' => by
            have := bits_any (z : Int) W' (by unfold Amt; omega)
            rw [show (z : Int).natAbs = z from rfl] at this
            exact this
          have hblk := World.block_lt_of_cell? wr _ hcell
          clear hz hcw
          go_wp2_with fail
          go_region_held3 (fun w' => w'.cell? ⟨b, off + j, none⟩ = some (.int .i64 (z : Nat)))
            (first | go_keep | exact k1 | exact k2 | exact k3 | exact k4 | exact k5)
            (first
              | (go_at_call 79; ((with_reducible refine (HBT _).out.mono ?_); rintro e w1 ⟨va, la, rfl, a1, a2, a3, a4⟩; have k1 : w1.cell? ⟨b, off + j, none⟩ = some (.int .i64 (z : Nat)) := (a4.cell (p := ⟨b, off + j, none⟩) hblk).trans hcell; have hb1 := World.block_lt_of_cell? w1 _ k1))
              | (go_at_call 79; ((with_reducible refine (HBZ _).out.mono ?_); rintro e w2 ⟨vb, lb, rfl, b1, b2, b3, b4⟩; have k2 : w2.cell? ⟨b, off + j, none⟩ = some (.int .i64 (z : Nat)) := (b4.cell (p := ⟨b, off + j, none⟩) hb1).trans k1; have hb2 := World.block_lt_of_cell? w2 _ k2))
              | (go_at_call 78; ((with_reducible refine (times_any va vb la lb _ (a1.keep b4) b1 (by omega) (by omega)).mono ?_); rintro e w3 ⟨A3, c3, l3, rfl, t1, t2, t3, t4, t5, t6⟩; have k3 : w3.cell? ⟨b, off + j, none⟩ = some (.int .i64 (z : Nat)) := (t6.cell (p := ⟨b, off + j, none⟩) hb2).trans k2; have hb3 := World.block_lt_of_cell? w3 _ k3))
              | (go_at_call 79; ((with_reducible refine (HBS _).out.mono ?_); rintro e w4 ⟨vc, lc, rfl, c1, c2, c5, c4⟩; have k4 : w4.cell? ⟨b, off + j, none⟩ = some (.int .i64 (z : Nat)) := (c4.cell (p := ⟨b, off + j, none⟩) hb3).trans k3; have hb4 := World.block_lt_of_cell? w4 _ k4))
              | (go_at_call 77; ((with_reducible refine (rdiv_any _ vc l3 lc _ (t1.keep c4) c1 (by omega) (by omega) (by rw [c2]; exact hS)).mono ?_); rintro e w5 ⟨vq, vr5, lq, lr, rfl, d1, d2, d3, d4, d5, d6, d7, d8, d9, d10, d11⟩; have k5 : w5.cell? ⟨b, off + j, none⟩ = some (.int .i64 (z : Nat)) := (d10.cell (p := ⟨b, off + j, none⟩) hb4).trans k4)))
          obtain ⟨Ax, cx, hvx⟩ := d2.form
          subst hvx
          have hB1 : Below wr.heap.size wr w1 := ⟨a4.os, a4.tape, a4.output, a4.size, a4.block⟩
          have hB2 := hB1.trans (b4.mono hB1.size)
          have hB3 := hB2.trans (t6.mono hB2.size)
          have hB4 := hB3.trans (c4.mono hB3.size)
          have HB5 := Lib.hid (hB4.trans (d10.mono hB4.size))
          have hq : val lq = qf T S W j := by rw [d3, t2, a2, b2, c2, HZ.out]; rfl
          have hrr : val lr = rf T S W j := by rw [d4, t2, a2, b2, c2, HZ.out]; rfl
          have HRR := Lib.hid hrr
          have HLR : Hid (lr.length ≤ 64) := Nat.le_trans d7 c5
          have HFR : Hid (∀ ad m c, Value.slice Ax lr.length cx = .slice (some ad) m c → wr.heap.size ≤ ad.block) := fun ad m c e => Nat.le_trans hB4.size (d11 ad m c e)
          have HWB := Lib.hid d2
          have hqT : qf T S W j ≤ T := qf_le (HW.out j hlt2)
          have hqs : sumN (qf T S W) (j + 1) ≤ T := q_sum_le hS HSM.out (by omega)
          have HQS : Hid (sumN (qf T S W) (j + 1) = sumN (qf T S W) j + qf T S W j) := rfl
          have hv := value_any vq lq false w5 d1 (by omega)
          rw [hq] at hv
          unfold ValuePost at hv
          have hsg := (value_end (qf T S W j) false).2.1 rfl (by omega)
          rw [hsg.1, hsg.2] at hv
          have HV := Lib.hid hv
          obtain ⟨q, hqe⟩ : ∃ q, q = qf T S W j := ⟨_, rfl⟩
          have HQE := Lib.hid hqe
          rw [← hqe] at HV hqT
          clear a1 a2 a3 a4 b1 b2 b3 b4 t1 t2 t3 t4 t5 t6 c1 c2 c4 c5 d1 d2 d3 d4 d5 d6 d7 d8 d9 d10 d11 k1 k2 k3 k4 k5 hb1 hb2 hb3 hb4 hB1 hB2 hB3 hB4 hq hrr hv hsg hqe hblk hcell
          go_wp2_with fail
          refine HV.out.mono ?_
          rintro e w' ⟨rfl, rfl⟩
          have HO1 := Lib.hid (own_keep HR.out.own1 HB5.out)
          have hbase : w.heap.size ≤ w5.heap.size := Nat.le_trans HR.out.below.size HB5.out.size
          clear HV
          go_wp2_with (first
            | (at_builtin; refine wpList_append_lone rfl (.tmp 70) (.tmp 72) 103 rfl w.heap.size 2 (.int .i64 0) 8 Tryz.underlying103 infoI64 rfl w5 (.int .i64 (q : Nat)) rfl u9 j _ rfl rfl HO1.out hbase (by unfold maxLen; omega) (by omega) ?_; intro g1 cc1 w6 o1 b1 l1; rw [HQE.out] at o1; have HO2 := Lib.hid (HR.out.two HB5.out b1); have G1 := Lib.hid o1; have G2 := Lib.hid b1; have G3 := Lib.hid l1; have hbase2 : w.heap.size ≤ w6.heap.size := Nat.le_trans hbase b1.size; clear o1 b1 l1 HO1)
            | (at_builtin; refine wpList_append_lone rfl (.tmp 74) (.tmp 76) 122 rfl w.heap.size 123 (.slice none 0 0) 24 Tryz.underlying122 infoWide rfl w6 (.slice Ax lr.length cx) rfl u10 j vs rfl rfl HO2.out hbase2 (by unfold maxLen; omega) (by omega) ?_; intro g2 cc2 w7 o2 b2 l2; have HRS := Lib.hid (HR.out.step HB5.out HWB.out HRR.out HLR.out HFR.out G1.out G2.out G3.out o2 b2 l2); clear o2 b2 l2))
          have el : ((T - sumN (qf T S W) j : Nat) : Int) - (q : Int) = ((T - sumN (qf T S W) (j + 1) : Nat) : Int) := by
            have e1 := HQS.out
            have e2 := HQE.out
            omega
          have bl1 : ((T - sumN (qf T S W) j : Nat) : Int) ≤ 9223372036854775807 := by omega
          have bl2 : (0 : Int) ≤ ((T - sumN (qf T S W) (j + 1) : Nat) : Int) := by omega
          have HEL := Lib.hid el
          obtain ⟨L0, hL0⟩ : ∃ L0, L0 = T - sumN (qf T S W) j := ⟨_, rfl⟩
          have HL0 := Lib.hid hL0
          have hqL : q ≤ L0 := by have e1 := HQS.out; have e2 := HQE.out; omega
          have hLT : L0 ≤ T := by omega
          rw [← hL0] at HEL ⊢
          clear el bl1 bl2 hqs hL0
          go_wp2
          go_roundg (n - (j + 1))
          case measure => omega
          case rel => exact ⟨j + 1, vs ++ [.slice Ax lr.length cx], by go_num, by rw [← HEL.out], by omega, by omega, HRS⟩
        · have ej : j = n := by omega
          subst ej
          obtain ⟨g1, cc1, g2, cc2, rfl, rfl, hpk⟩ := PK.start (t := t) HR.out hp
          have HPK := Lib.hid hpk
          obtain ⟨L, hL⟩ : ∃ L, L = leftN T S W j := ⟨_, rfl⟩
          have hL2 : T - sumN (qf T S W) j = L := hL.symm
          rw [hL2]
          have HL := Lib.hid hL
          have hLT : L ≤ T := by omega
          clear hpk hL hL2 hgj HR HBT HBS
          go_wp2
          go_loopg [11, 17, 18] L (fun gk l _ _ wr => ∃ m : Nat, m ≤ L ∧ l = .int .i64 ((L - m : Nat) : Int) ∧ L - m ≤ gk ∧ Hid (PK T S W t w wr g1 cc1 g2 cc2 j m vs))
          case atStart => exact ⟨0, Nat.zero_le _, rfl, by omega, HPK.out⟩
          case round =>
            obtain ⟨m, hm, rfl, hgm, HP⟩ := hrel
            clear HPK
            by_cases hml : m < L
            · obtain ⟨hmn, hpos⟩ := next_pos hS HSM.out HO.out (m := m) (by rw [← HL.out]; exact hml)
              have hsmn := HO.out.lt m hmn
              have HPOS := Lib.hid hpos
              have hd : ((L - m : Nat) : Int) = (L : Int) - (m : Int) := by omega
              rw [hd]
              clear hpos hd
              go_wp2
              go_loopg [17, 18] j (fun gi b i wq => ∃ (k : Nat) (bz : Int), k ≤ j ∧ i = .int .i64 k ∧ b = .int .i64 bz ∧ j - k ≤ gi ∧ Hid (Best T S W t m k (fun i => vs.getD i (.slice none 0 0) ≠ .slice none 0 0) bz) ∧ Hid (PK T S W t w wq g1 cc1 g2 cc2 j m vs))
              case atStart => exact ⟨0, -1, Nat.zero_le _, rfl, rfl, by omega, .inl ⟨rfl, fun i h => by omega⟩, HP.out⟩
              case round =>
                obtain ⟨k, bz, hk, rfl, rfl, hgi, HBE, HQ⟩ := hrel
                clear HP
                by_cases hkj : k < j
                · have hcell := HQ.out.cell2 hkj
                  by_cases hth : m ≤ t k ∧ vs.getD k (.slice none 0 0) ≠ .slice none 0 0
                  · obtain ⟨h1, h2⟩ := hth
                    obtain ⟨vk, bk, q1, q2, q3, q4⟩ := HQ.out.rest k hkj
                    rw [if_neg (by omega), q1] at hcell
                    rw [q1] at h2
                    obtain ⟨ad, ck, hvk⟩ := some_of_there q4.wb h2
                    have hth : vs.getD k (.slice none 0 0) ≠ .slice none 0 0 := by rw [q1]; exact h2
                    have hWB := q4.wb
                    rw [hvk] at hcell hWB
                    have HWB := Lib.hid hWB
                    have hkz : (0 : Int) ≤ (k : Int) := by omega
                    have hkn : (k : Int) < (j : Int) := by omega
                    have HQq := fun q => Lib.hid (HQ.out.drewN q)
                    have HV := Lib.hid q2
                    by_cases hb0 : bz < 0
                    · have ebz : bz = -1 := by
                        rcases HBE.out with ⟨e, _⟩ | ⟨k', e, _⟩
                        · exact e
                        · omega
                      subst ebz
                      have HBS := Lib.hid (HBE.out.first h1 hth)
                      clear q1 q2 q3 q4 h1 h2 hvk hth hWB
                      go_wp2
                      go_quiet (fail)
                      go_wp2
                      go_roundg (j - (k + 1))
                      case measure => omega
                      case rel => exact ⟨k + 1, (k : Nat), by omega, by go_num, rfl, by omega, HBS.out, (HQq _).out⟩
                    · obtain ⟨kb, ekb⟩ : ∃ kb : Nat, bz = (kb : Int) := ⟨bz.toNat, by omega⟩
                      subst ekb
                      obtain ⟨hkbj, hkbt, hkbth⟩ : kb < j ∧ m ≤ t kb ∧ vs.getD kb (.slice none 0 0) ≠ .slice none 0 0 := by
                        rcases HBE.out with ⟨e, _⟩ | ⟨k', e, u1, u2, u3, _⟩
                        · omega
                        · obtain rfl : kb = k' := by omega
                          exact ⟨by omega, u2, u3⟩
                      obtain ⟨vb, bb, p1, p2, p3, p4⟩ := HQ.out.rest kb hkbj
                      have hcellb := HQ.out.cell2 hkbj
                      rw [if_neg (by omega), p1] at hcellb
                      rw [p1] at hkbth
                      obtain ⟨adb, cb, hvb⟩ := some_of_there p4.wb hkbth
                      have hWBb := p4.wb
                      rw [hvb] at hcellb hWBb
                      have hkbz : (0 : Int) ≤ (kb : Int) := by omega
                      have hkbn : (kb : Int) < (j : Int) := by omega
                      have HLess : ∀ q, Hid (Calls Tryz.prog 81 #[.slice (some adb) bb.length cb, .slice (some ad) bk.length ck] (wr.drewN q) fun e w' => e = .returned (.bool (decide (val bb < val bk))) ∧ w' = wr.drewN q) := fun q => by
                        refine (less_any _ _ bb bk (wr.drewN q) hWBb HWB.out (by omega) (by omega)).mono ?_
                        rintro e w' ⟨rfl, rfl⟩
                        exact ⟨rfl, rfl⟩
                      rw [p2, q2] at HLess
                      by_cases hlt3 : rf T S W kb < rf T S W k
                      · have HBS := Lib.hid (HBE.out.more h1 hth hlt3)
                        rw [decide_eq_true hlt3] at HLess
                        clear q1 q2 q3 q4 h1 h2 hvk hth hWB p1 p2 p3 p4 hkbt hkbth hvb hWBb hlt3
                        go_wp2
                        go_quiet ((go_at_call 81; exact Calls.quiet_of_same (HLess _).out))
                        go_wp2
                        go_roundg (j - (k + 1))
                        case measure => omega
                        case rel => exact ⟨k + 1, (k : Nat), by omega, by go_num, rfl, by omega, HBS.out, (HQq _).out⟩
                      · have HBS := Lib.hid (HBE.out.less hlt3)
                        rw [decide_eq_false hlt3] at HLess
                        clear q1 q2 q3 q4 h1 h2 hvk hth hWB p1 p2 p3 p4 hkbt hkbth hvb hWBb hlt3
                        go_wp2
                        go_quiet ((go_at_call 81; exact Calls.quiet_of_same (HLess _).out))
                        go_wp2
                        go_roundg (j - (k + 1))
                        case measure => omega
                        case rel => exact ⟨k + 1, (kb : Nat), by omega, by go_num, rfl, by omega, HBS.out, (HQq _).out⟩
                  · have hc0 : wr.cell? ⟨g2, k, none⟩ = some (.slice none 0 0) := by
                      rw [hcell]
                      by_cases h1 : t k < m
                      · rw [if_pos h1]
                      · rw [if_neg h1]
                        have : vs.getD k (.slice none 0 0) = .slice none 0 0 := Classical.byContradiction fun h2 => hth ⟨by omega, h2⟩
                        rw [this]
                    have HBS := Lib.hid (HBE.out.skip (fun h1 h2 => hth ⟨h1, h2⟩))
                    have HQq := fun q => Lib.hid (HQ.out.drewN q)
                    have hkz : (0 : Int) ≤ (k : Int) := by omega
                    have hkn : (k : Int) < (j : Int) := by omega
                    clear hcell hth
                    go_wp2
                    go_quiet (fail)
                    go_wp2
                    go_roundg (j - (k + 1))
                    case measure => omega
                    case rel => exact ⟨k + 1, bz, by omega, by go_num, rfl, by omega, HBS.out, (HQq _).out⟩
                · have ekj : k = j := by omega
                  subst ekj
                  obtain ⟨vP, bP, q1, q2, q3, q4⟩ := HQ.out.rest (s m) hsmn
                  have hth : vs.getD (s m) (.slice none 0 0) ≠ .slice none 0 0 := by rw [q1]; exact there_of_pos q4.wb (by rw [q2]; exact HPOS.out)
                  have hbest := HBE.out.told HO.out hmn hth
                  subst hbest
                  have hql := qf_left (T := T) hS HSM.out hsmn
                  rw [← HL.out] at hql
                  have hc1 := HQ.out.cell1 hsmn
                  have hf1 := HQ.out.own1.frozenAt (s m)
                  have hst := HQ.out.own1.stored (s m) (.int .i64 ((partK T S W t m (s m) : Nat) + 1))
                  have hk2 := HQ.out.own2.kept hst.2 (.inr (fun e => HQ.out.ne (Option.some.inj e).symm))
                  have hc2 := cell_of_own hk2 (restK_get (t := t) (vs := vs) (m := m) hsmn)
                  have hf2 := hk2.frozenAt (s m)
                  have HST := Lib.hid (HQ.out.step HO.out)
                  have hpq : partK T S W t m (s m) = qf T S W (s m) := by unfold partK; rw [HO.out.ts, if_neg (by omega), Nat.add_zero]
                  rw [hpq] at hc1 hc2 hf2 HST
                  obtain ⟨P, hP⟩ : ∃ P, P = s m := ⟨_, rfl⟩
                  rw [← hP] at hc1 hf1 hc2 hf2 HST hsmn hql ⊢
                  obtain ⟨Q, hQ⟩ : ∃ Q, Q = qf T S W P := ⟨_, rfl⟩
                  rw [← hQ] at hc1 hc2 hf2 HST hql
                  have hPz : (0 : Int) ≤ (P : Int) := by omega
                  have hPn : (P : Int) < (k : Int) := by omega
                  obtain ⟨uP, huP⟩ : ∃ uP, uP = (if t P < m then Value.slice none 0 0 else vs.getD P (.slice none 0 0)) := ⟨_, rfl⟩
                  rw [← huP] at hc2
                  clear q1 q2 q3 q4 hth hst hk2 hpq hP hQ huP hgi HBE HQ HPOS
                  go_wp2
                  go_roundg (L - (m + 1))
                  case measure => omega
                  case rel => exact ⟨m + 1, by omega, int_eq (by omega), by omega, HST.out⟩
            · have eml : m = L := by omega
              subst eml
              have hx := HP.out.own1
              rw [HL.out] at hx
              have HF := Lib.hid hx
              have hd : ((m - m : Nat) : Int) = 0 := by omega
              rw [hd]
              clear hx hgm hd
              go_wp2
              go_ret2
              exact ⟨g1, cc1, rfl, HF.out, HP.out.below⟩
end Go.Proofs.YtkflakeocdlinaaGreatDoor
