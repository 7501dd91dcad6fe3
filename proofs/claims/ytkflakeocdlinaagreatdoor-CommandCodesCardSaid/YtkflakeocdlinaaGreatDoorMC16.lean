/-
  Plain lemmas for the document's Split: as long as something is left, the place that comes next has a rest.
-/
import Derived.Test.YtkflakeocdlinaaGreatDoorMC15
namespace Go.Proofs.YtkflakeocdlinaaGreatDoor

theorem sumN_add (f g : Nat → Nat) (n : Nat) : sumN (fun i => f i + g i) n = sumN f n + sumN g n := by
  induction n with
  | zero => rfl
  | succ n ih => simp only [sumN]; rw [ih]; omega
theorem sumN_le {f g : Nat → Nat} {n : Nat} (h : ∀ i, i < n → f i ≤ g i) : sumN f n ≤ sumN g n := by
  induction n with
  | zero => exact Nat.le_refl _
  | succ n ih =>
    simp only [sumN]
    have := ih fun i hi => h i (by omega)
    have := h n (by omega)
    omega
theorem sumN_zero {f : Nat → Nat} {n : Nat} (h : ∀ i, i < n → f i = 0) : sumN f n = 0 := by
  induction n with
  | zero => rfl
  | succ n ih => simp only [sumN]; rw [ih fun i hi => h i (by omega), h n (by omega)]
theorem sumN_one (j c n : Nat) : sumN (fun i => if i = j then c else 0) n ≤ c := by
  induction n with
  | zero => simp [sumN]
  | succ n ih =>
    simp only [sumN]
    by_cases e : n = j
    · subst e
      rw [if_pos rfl, sumN_zero (fun i hi => if_neg (by omega))]; omega
    · rw [if_neg e]; omega
theorem sumN_first {n : Nat} {s t : Nat → Nat} (ht : ∀ p, s (t p) = p) (c m : Nat) : sumN (fun i => if t i < m then c else 0) n ≤ c * m := by
  induction m with
  | zero => rw [sumN_zero (fun i _ => if_neg (by omega))]; omega
  | succ m ih =>
    have h1 : sumN (fun i => if t i < m + 1 then c else 0) n ≤ sumN (fun i => (if t i < m then c else 0) + (if i = s m then c else 0)) n := sumN_le fun i _ => by
      by_cases h : t i < m
      · rw [if_pos (by omega), if_pos h]; omega
      · by_cases h2 : t i = m
        · rw [if_pos (by omega), if_neg h, if_pos (by rw [← h2, ht])]; omega
        · rw [if_neg (by omega)]; omega
    rw [sumN_add] at h1
    have := sumN_one (s m) c n
    rw [Nat.mul_succ]
    omega

/-- while something is left, the next place's rest is above 0 -/
theorem next_pos {T S n : Nat} {W s t : Nat → Nat} (hS : 0 < S) (hs : sumN W n = S) (ho : Ordr n (fun i => (rf T S W i : Int)) s t) {m : Nat} (hm : m < leftN T S W n) : m < n ∧ 0 < rf T S W (s m) := by
  have hn := left_le (T := T) hS hs
  refine ⟨by omega, ?_⟩
  rcases Nat.eq_zero_or_pos (rf T S W (s m)) with h0 | h0
  · exfalso
    have hle : ∀ i, i < n → rf T S W i ≤ if t i < m then S - 1 else 0 := fun i hi => by
      by_cases h : t i < m
      · rw [if_pos h]; have := rf_lt (T := T) (W := W) hS i; omega
      · rw [if_neg h]
        by_cases e : t i = m
        · rw [show i = s m from by rw [← e, ho.st]]; omega
        · have htn : t i < n := by
            rcases Nat.lt_or_ge (t i) n with hl | hl
            · exact hl
            · have := ho.out (t i) (by omega); rw [ho.st] at this; omega
          have hb := ho.ordd m (t i) (Nat.zero_le _) (by omega) htn
          rw [ho.st] at hb
          unfold bef at hb
          simp only at hb
          omega
    have h1 := sumN_le hle
    have h2 := sumN_first (n := n) ho.st (S - 1) m
    rw [← left_rest hS hs] at h1
    have h3 : S * (m + 1) ≤ S * leftN T S W n := Nat.mul_le_mul_left _ hm
    rw [Nat.mul_succ] at h3
    have h4 : (S - 1) * m ≤ S * m := Nat.mul_le_mul_right _ (by omega)
    omega
  · exact h0

theorem Ordr.t_lt {n : Nat} {key : Nat → Int} {s t : Nat → Nat} (ho : Ordr n key s t) {i : Nat} (hi : i < n) : t i < n := by
  rcases Nat.lt_or_ge (t i) n with hl | hl
  · exact hl
  · have := ho.out (t i) (by omega); rw [ho.st] at this; omega

/-- who is ahead of all that are still there is the one that comes next -/
theorem next_is {n : Nat} {key : Nat → Int} {s t : Nat → Nat} (ho : Ordr n key s t) {m b : Nat} (hb : b < n) (hbm : m ≤ t b) (h : b = s m ∨ bef key b (s m)) : b = s m := by
  rcases h with h | h
  · exact h
  · by_cases e : t b = m
    · rw [← e, ho.st]
    · have h2 := ho.ordd m (t b) (Nat.zero_le _) (by omega) (ho.t_lt hb)
      rw [ho.st] at h2
      exact absurd h2 (fun h2 => h.asymm h2)

theorem sumN_one_eq (j n : Nat) (h : j < n) : sumN (fun i => if i = j then 1 else 0) n = 1 := by
  induction n with
  | zero => omega
  | succ n ih =>
    simp only [sumN]
    by_cases e : n = j
    · subst e
      rw [if_pos rfl, sumN_zero (fun i hi => if_neg (by omega))]
    · rw [if_neg e, ih (by omega)]

theorem sumN_count {n : Nat} {key : Nat → Int} {s t : Nat → Nat} (ho : Ordr n key s t) : ∀ m, m ≤ n → sumN (fun i => if t i < m then 1 else 0) n = m
  | 0, _ => sumN_zero fun i _ => if_neg (by omega)
  | m + 1, h => by
    have h1 := sumN_count ho m (by omega)
    have h2 := sumN_one_eq (s m) n (ho.lt m (by omega))
    have h3 : sumN (fun i => if t i < m + 1 then 1 else 0) n = sumN (fun i => (if t i < m then 1 else 0) + (if i = s m then 1 else 0)) n := sumN_congr fun i _ => by
      by_cases e : i = s m
      · subst e
        rw [ho.ts, if_pos (by omega), if_neg (by omega), if_pos rfl]
      · have : t i ≠ m := fun e' => e (by rw [← e', ho.st])
        rw [if_neg e]
        by_cases e2 : t i < m
        · rw [if_pos e2, if_pos (by omega)]
        · rw [if_neg e2, if_neg (by omega)]
    rw [h3, sumN_add, h1, h2]

/-- the parts -/
def partsI (T S : Nat) (W t : Nat → Nat) (n : Nat) : List Int := (List.range n).map fun i => (partK T S W t (leftN T S W n) i : Int)
theorem partsI_length (T S : Nat) (W t : Nat → Nat) (n : Nat) : (partsI T S W t n).length = n := by simp [partsI]
theorem partsI_get {T S : Nat} {W t : Nat → Nat} {n i : Nat} (h : i < n) : (partsI T S W t n).getD i 0 = (partK T S W t (leftN T S W n) i : Int) := by
  unfold partsI; rw [List.getD_eq_getElem?_getD, List.getElem?_map, List.getElem?_range h]; rfl

theorem parts_sum {T S n : Nat} {W s t : Nat → Nat} (hS : 0 < S) (hs : sumN W n = S) (ho : Ordr n (fun i => (rf T S W i : Int)) s t) : sumN (partK T S W t (leftN T S W n)) n = T := by
  have h1 := sumN_add (qf T S W) (fun i => if t i < leftN T S W n then 1 else 0) n
  have h2 := sumN_count ho (leftN T S W n) (left_le hS hs)
  have h3 := q_sum_le (T := T) hS hs (Nat.le_refl n)
  rw [h2] at h1
  show sumN (fun i => qf T S W i + if t i < leftN T S W n then 1 else 0) n = T
  rw [h1]; unfold leftN; omega

theorem sumTo_nonneg : ∀ (zs : List Int) (s : Int), 0 ≤ s → (∀ z ∈ zs, 0 ≤ z) → s + zs.sum ≤ 9223372036854775807 → sumTo s zs = some (s + zs.sum)
  | [], s, _, _, _ => by simp [sumTo]
  | z :: r, s, h0, hz, h => by
    have h1 := hz z (by simp)
    have h2 : 0 ≤ r.sum := by
      have : ∀ l : List Int, (∀ z ∈ l, 0 ≤ z) → 0 ≤ l.sum := fun l => by
        induction l with
        | nil => intro _; simp
        | cons a b ih => intro h; rw [List.sum_cons]; have := h a (by simp); have := ih (fun z hz => h z (by simp [hz])); omega
      exact this r (fun z hz' => hz z (by simp [hz']))
    rw [List.sum_cons] at h ⊢
    unfold sumTo
    rw [if_pos (by unfold Amt; omega), sumTo_nonneg r (s + z) (by omega) (fun z hz' => hz z (by simp [hz'])) (by omega)]
    congr 1; omega

theorem partsI_nonneg {T S : Nat} {W t : Nat → Nat} {n : Nat} : ∀ z ∈ partsI T S W t n, 0 ≤ z := fun z hz => by
  unfold partsI at hz
  obtain ⟨i, _, rfl⟩ := List.mem_map.1 hz
  omega

theorem partsI_sum {T S n : Nat} {W s t : Nat → Nat} (hS : 0 < S) (hs : sumN W n = S) (ho : Ordr n (fun i => (rf T S W i : Int)) s t) : (partsI T S W t n).sum = (T : Int) := by
  rw [sum_wN _ (fun i hi => by rw [partsI_get (by rw [partsI_length] at hi; exact hi)]; omega), partsI_length]
  rw [sumN_congr (g := partK T S W t (leftN T S W n)) (fun i hi => by unfold wN; rw [partsI_get hi]; omega), parts_sum hS hs ho]

theorem partsI_sumTo {T S n : Nat} {W s t : Nat → Nat} (hS : 0 < S) (hs : sumN W n = S) (ho : Ordr n (fun i => (rf T S W i : Int)) s t) (hT : T ≤ 9223372036854775807) : sumTo 0 (partsI T S W t n) = some (T : Int) := by
  have := sumTo_nonneg (partsI T S W t n) 0 (by omega) partsI_nonneg (by rw [partsI_sum hS hs ho]; omega)
  rw [this, partsI_sum hS hs ho]; simp

theorem part_le {T S n : Nat} {W t : Nat → Nat} (hS : 0 < S) (hs : sumN W n = S) {i : Nat} (hi : i < n) : partK T S W t (leftN T S W n) i ≤ T := by
  have h1 := qf_left (T := T) hS hs hi
  unfold partK
  split <;> omega

theorem partsI_amt {T S n : Nat} {W t : Nat → Nat} (hS : 0 < S) (hs : sumN W n = S) (hT : T ≤ 9223372036854775807) : ∀ z ∈ partsI T S W t n, Amt z := fun z hz => by
  unfold partsI at hz
  obtain ⟨i, hi, rfl⟩ := List.mem_map.1 hz
  have := part_le (T := T) (t := t) hS hs (List.mem_range.1 hi)
  unfold Amt; omega

theorem part_between {T S n : Nat} {W s t : Nat → Nat} (hS : 0 < S) (hs : sumN W n = S) (ho : Ordr n (fun i => (rf T S W i : Int)) s t) {i : Nat} :
    qf T S W i ≤ partK T S W t (leftN T S W n) i ∧ partK T S W t (leftN T S W n) i ≤ qf T S W i + if rf T S W i = 0 then 0 else 1 := by
  unfold partK
  by_cases h : t i < leftN T S W n
  · have hp := (next_pos hS hs ho h).2
    rw [ho.st] at hp
    rw [if_pos h, if_neg (by omega)]
    omega
  · rw [if_neg h]
    split <;> omega
end Go.Proofs.YtkflakeocdlinaaGreatDoor
/-
  Contract of the document's Split where something is wrong; what is known of its two rows while they grow.
-/
namespace Go.Proofs.YtkflakeocdlinaaGreatDoor
open Go.RowKit

theorem infoWide : (Tryz.prog.info? 123).map (fun i => (i.zero, i.size, i.bytes)) = some (some (.slice none 0 0), 1, 24) := by kernel_rfl

section
variable {P : Program} {ops : Array Oper} {rest : List Oper} {o : Oper} {a : Act} {Q : Exit → Act → World → Prop}
/-- append of one element; where the row lies then -/
theorem wpList_append_lone (hgd : o.guard = none) (s x : Operand) (t : TypeId)
    (ho : o.op = .call { callee := .builtin .append, args := #[s, x], argTypes := #[t, t] })
    (base : Nat) (e : TypeId) (z : Value) (bytes : Nat) (ht : P.underlying t = some (.slice e)) (hinfo : (P.info? e).map (fun i => (i.zero, i.size, i.bytes)) = some (some z, 1, bytes)) (hz1 : z.cells.size = 1)
    (W : World) (u : Value) (hu : u.oneCell' = true) (v : Value) (n : Nat) (xs : List Value) (hs : a.eval s = v) (hx : a.eval x = .slice (some ⟨W.heap.size, 0, none⟩) 1 1)
    (hown : W.ownsRow base e 1 v n xs) (hb : base ≤ W.heap.size) (h63 : n + 1 ≤ maxLen) (hbytes : (n + 1) * bytes ≤ 140737488355328)
    (h : ∀ g cap w', w'.ownsRow base e 1 (.slice (some ⟨g, 0, none⟩) (n + 1) cap) (n + 1) (xs ++ [u]) → W.grownBy w' v.ownBlock → (v.ownBlock = some g ∨ W.heap.size < g) → wpList P ops Q rest (a.put o.dst (.slice (some ⟨g, 0, none⟩) (n + 1) cap)) w') : wpList P ops Q (o :: rest) a (W.alloc (.cells #[u] e)) := by
  obtain ⟨i, hi, hzz⟩ := Option.map_eq_some_iff.1 hinfo
  simp only [Prod.mk.injEq] at hzz
  obtain ⟨hz, hs1, hb1⟩ := hzz
  refine wpList_append_lies _ hgd s x t ho base e i z 1 bytes ht hi hz hs1 hb1 hz1 (by decide) v n xs hs (hown.alloc _) ⟨W.heap.size, 0, none⟩ 1 1 [u] hx rfl (cell_one_new _ _ _) (fun u' hu' => ?_) (by decide) h63 hbytes (by simp; omega) (W.heap.size + 1) (by simp) ?_
  · rw [List.mem_singleton] at hu'; rw [hu']; exact hu
  · intro g cap w' k1 k2 k3 _
    have hg0 := World.grownBy_alloc W (.cells #[u] e) v.ownBlock
    refine h g cap w' k1 ⟨k2.os.trans hg0.os, k2.tape.trans hg0.tape, k2.output.trans hg0.output, Nat.le_trans hg0.size k2.size, fun k hk hne => (k2.block k (Nat.lt_of_lt_of_le hk hg0.size) hne).trans (hg0.block k hk hne)⟩ (k3.imp id (by omega))
end

set_option maxHeartbeats 800000 in
theorem rsplit_neg (T : Int) (a : Option Addr) (c : Nat) (ws : List Int) (w : World) (hr : RowI .i64 w a ws) (hl : ws.length ≤ maxLen) (hA : anyNeg ws = true) :
    Calls Tryz.prog 59 #[.int .i64 T, .slice a ws.length c] w (SplitErr T ws w) := by
  have e1 : splitErr T ws = 1 := if_pos (.inr hA)
  have hp : 0 < ws.length := by
    rcases Nat.eq_zero_or_pos ws.length with h0 | h0
    · rw [List.eq_nil_of_length_eq_zero h0] at hA; cases hA
    · exact h0
  obtain ⟨b, off, rfl, hc⟩ := hr hp
  have HE := Lib.hid e1
  have HC := Lib.hid hc
  have HA := Lib.hid hA
  obtain ⟨n, hn⟩ : ∃ n, n = ws.length := ⟨_, rfl⟩
  have HN := Lib.hid hn
  unfold maxLen at hl
  rw [← hn] at hl hp ⊢
  clear e1 hc hA hr hn
  go_enter Tryz.func59, Tryz.ntmps59
  go_wp2
  go_loop [6] (fun i => ∃ k : Nat, k ≤ n ∧ i = .int .i64 k ∧ Hid (∀ j, j < k → 0 ≤ ws.getD j 0)) (fun i => n - (intOf i).toNat)
  case atStart => exact ⟨0, Nat.zero_le _, rfl, fun j h => by omega⟩
  case round =>
    obtain ⟨k, hk, rfl, HK⟩ := hrel
    by_cases hlt : k < n
    · have hcell := HC.out k (by have := HN.out; omega)
      obtain ⟨z, hz⟩ : ∃ z, z = ws.getD k 0 := ⟨_, rfl⟩
      rw [← hz] at hcell
      have HZ := Lib.hid hz
      clear hz
      by_cases h0 : z < 0
      · go_wp2
        go_ret2
        exact ⟨by rw [HE.out]; rfl, by rw [HE.out]; decide, rfl⟩
      · go_wp2
        go_round
        case rel => exact ⟨k + 1, by omega, by go_num, fun j hj => by
          by_cases e : j = k
          · rw [e, ← HZ.out]; omega
          · exact HK.out j (by omega)⟩
        case measure => simp [intOf]; omega
    · exfalso
      have := anyNeg_none (zs := ws) (fun j hj => HK.out j (by have := HN.out; omega))
      rw [HA.out] at this
      cases this
end Go.Proofs.YtkflakeocdlinaaGreatDoor
/-
  Contract of the document's Split where no weight is below 0, and something is wrong.
-/
namespace Go.Proofs.YtkflakeocdlinaaGreatDoor
open Go.RowKit

theorem splitErr_neg {T : Int} {ws : List Int} (h : T < 0) : splitErr T ws = 1 := if_pos (.inl h)
theorem splitErr_pos {T : Int} {ws : List Int} (h : ¬ T < 0) (hA : anyNeg ws = false) : splitErr T ws = match sumTo 0 ws with | none => 2 | some s => if s = 0 then 1 else 0 := if_neg (by simp [h, hA])

/-- the head of the document's Split: the weights are looked at one by one -/
def HeadRel (n : Nat) (i : Value) : Prop := ∃ k : Nat, k ≤ n ∧ i = .int .i64 k

set_option maxHeartbeats 1600000 in
theorem rsplit_bad (T : Int) (a : Option Addr) (c : Nat) (ws : List Int) (w : World) (hr : RowI .i64 w a ws) (hz : ∀ z ∈ ws, Amt z) (hl : ws.length ≤ maxLen) (hA : anyNeg ws = false) (he : splitErr T ws ≠ 0) :
    Calls Tryz.prog 59 #[.int .i64 T, .slice a ws.length c] w (SplitErr T ws w) := by
  have HS := rSum_any a c ws w hr hz hl
  have hE : splitErr T ws ≠ 0 → (T < 0 ∧ splitErr T ws = 1) ∨ (¬ T < 0 ∧ sumTo 0 ws = none ∧ splitErr T ws = 2) ∨ (¬ T < 0 ∧ sumTo 0 ws = some 0 ∧ splitErr T ws = 1) := fun he => by
    by_cases hT : T < 0
    · exact .inl ⟨hT, splitErr_neg hT⟩
    · have e := splitErr_pos hT hA
      cases hs : sumTo 0 ws with
      | none => rw [hs] at e; exact .inr (.inl ⟨hT, rfl, e⟩)
      | some s =>
        rw [hs] at e
        simp only at e
        by_cases h0 : s = 0
        · rw [if_pos h0] at e; exact .inr (.inr ⟨hT, by rw [h0], e⟩)
        · rw [if_neg h0] at e; exact absurd e he
  have hnn : ∀ j, j < ws.length → 0 ≤ ws.getD j 0 := fun j hj => by
    rcases Int.lt_or_le (ws.getD j 0) 0 with h0 | h0
    · have := anyNeg_of hj h0; rw [hA] at this; cases this
    · exact h0
  have HNN := Lib.hid hnn
  have hcases := hE he
  clear hE he hnn hA
  have HR := Lib.hid hr
  clear hr hz
  unfold maxLen at hl
  obtain ⟨n, hn⟩ : ∃ n, n = ws.length := ⟨_, rfl⟩
  have HN := Lib.hid hn
  rw [← hn] at hl HS ⊢
  clear hn
  by_cases h0 : n = 0
  · subst h0
    rcases hcases with ⟨c1, c2⟩ | ⟨c1, c2, c3⟩ | ⟨c1, c2, c3⟩
    · obtain ⟨x, hx⟩ : ∃ x, x = (sumTo 0 ws).getD 0 := ⟨_, rfl⟩
      obtain ⟨y, hy⟩ : ∃ y, y = (sumTo 0 ws).isSome := ⟨_, rfl⟩
      rw [← hx, ← hy] at HS
      have H1 := Lib.hid HS
      have HE := Lib.hid c2
      clear hx hy HS c2
      go_enter Tryz.func59, Tryz.ntmps59
      go_wp2
      refine wp_loop_rounds 1 ?_
      rw [rounds_succ]
      go_wp2_with fail
      refine H1.out.mono ?_
      rintro e w' ⟨rfl, rfl⟩
      go_wp2
      go_ret2
      exact ⟨by rw [HE.out]; rfl, by rw [HE.out]; decide, rfl⟩
    · rw [c2] at HS
      have H1 := Lib.hid HS
      have HE := Lib.hid c3
      clear HS c2 c3
      go_enter Tryz.func59, Tryz.ntmps59
      go_wp2
      refine wp_loop_rounds 1 ?_
      rw [rounds_succ]
      go_wp2_with fail
      refine H1.out.mono ?_
      rintro e w' ⟨rfl, rfl⟩
      go_wp2
      go_ret2
      exact ⟨by rw [HE.out]; rfl, by rw [HE.out]; decide, rfl⟩
    · rw [c2] at HS
      have H1 := Lib.hid HS
      have HE := Lib.hid c3
      clear HS c2 c3
      go_enter Tryz.func59, Tryz.ntmps59
      go_wp2
      refine wp_loop_rounds 1 ?_
      rw [rounds_succ]
      go_wp2_with fail
      refine H1.out.mono ?_
      rintro e w' ⟨rfl, rfl⟩
      go_wp2
      go_ret2
      exact ⟨by rw [HE.out]; rfl, by rw [HE.out]; decide, rfl⟩
  · obtain ⟨b, off, rfl, hc⟩ := HR.out (by have := HN.out; omega)
    have HC := Lib.hid hc
    clear hc HR
    rcases hcases with ⟨c1, c2⟩ | ⟨c1, c2, c3⟩ | ⟨c1, c2, c3⟩
    · obtain ⟨x, hx⟩ : ∃ x, x = (sumTo 0 ws).getD 0 := ⟨_, rfl⟩
      obtain ⟨y, hy⟩ : ∃ y, y = (sumTo 0 ws).isSome := ⟨_, rfl⟩
      rw [← hx, ← hy] at HS
      have H1 := Lib.hid HS
      have HE := Lib.hid c2
      clear hx hy HS c2
      go_enter Tryz.func59, Tryz.ntmps59
      go_wp2
      go_loop [6] (fun i => ∃ k : Nat, k ≤ n ∧ i = .int .i64 k) (fun i => n - (intOf i).toNat)
      case atStart => exact ⟨0, Nat.zero_le _, rfl⟩
      case round =>
        obtain ⟨k, hk, rfl⟩ := hrel
        by_cases hlt : k < n
        · have hcell := HC.out k (by have := HN.out; omega)
          have hz0 := HNN.out k (by have := HN.out; omega)
          obtain ⟨z, hz⟩ : ∃ z, z = ws.getD k 0 := ⟨_, rfl⟩
          rw [← hz] at hcell hz0
          clear hz
          go_wp2
          go_round
          case rel => exact ⟨k + 1, by omega, by go_num⟩
          case measure => simp [intOf]; omega
        · go_wp2_with fail
          refine H1.out.mono ?_
          rintro e w' ⟨rfl, rfl⟩
          go_wp2
          go_ret2
          exact ⟨by rw [HE.out]; rfl, by rw [HE.out]; decide, rfl⟩
    · rw [c2] at HS
      have H1 := Lib.hid HS
      have HE := Lib.hid c3
      clear HS c2 c3
      go_enter Tryz.func59, Tryz.ntmps59
      go_wp2
      go_loop [6] (fun i => ∃ k : Nat, k ≤ n ∧ i = .int .i64 k) (fun i => n - (intOf i).toNat)
      case atStart => exact ⟨0, Nat.zero_le _, rfl⟩
      case round =>
        obtain ⟨k, hk, rfl⟩ := hrel
        by_cases hlt : k < n
        · have hcell := HC.out k (by have := HN.out; omega)
          have hz0 := HNN.out k (by have := HN.out; omega)
          obtain ⟨z, hz⟩ : ∃ z, z = ws.getD k 0 := ⟨_, rfl⟩
          rw [← hz] at hcell hz0
          clear hz
          go_wp2
          go_round
          case rel => exact ⟨k + 1, by omega, by go_num⟩
          case measure => simp [intOf]; omega
        · go_wp2_with fail
          refine H1.out.mono ?_
          rintro e w' ⟨rfl, rfl⟩
          go_wp2
          go_ret2
          exact ⟨by rw [HE.out]; rfl, by rw [HE.out]; decide, rfl⟩
    · rw [c2] at HS
      have H1 := Lib.hid HS
      have HE := Lib.hid c3
      clear HS c2 c3
      go_enter Tryz.func59, Tryz.ntmps59
      go_wp2
      go_loop [6] (fun i => ∃ k : Nat, k ≤ n ∧ i = .int .i64 k) (fun i => n - (intOf i).toNat)
      case atStart => exact ⟨0, Nat.zero_le _, rfl⟩
      case round =>
        obtain ⟨k, hk, rfl⟩ := hrel
        by_cases hlt : k < n
        · have hcell := HC.out k (by have := HN.out; omega)
          have hz0 := HNN.out k (by have := HN.out; omega)
          obtain ⟨z, hz⟩ : ∃ z, z = ws.getD k 0 := ⟨_, rfl⟩
          rw [← hz] at hcell hz0
          clear hz
          go_wp2
          go_round
          case rel => exact ⟨k + 1, by omega, by go_num⟩
          case measure => simp [intOf]; omega
        · go_wp2_with fail
          refine H1.out.mono ?_
          rintro e w' ⟨rfl, rfl⟩
          go_wp2
          go_ret2
          exact ⟨by rw [HE.out]; rfl, by rw [HE.out]; decide, rfl⟩
end Go.Proofs.YtkflakeocdlinaaGreatDoor
/-
  The two rows of the document's Split while they grow: the parts, and the rests.
-/
namespace Go.Proofs.YtkflakeocdlinaaGreatDoor
open Go.RowKit

/-- a rest's row, and that it lies in neither of the two rows -/
structure Rst (vo vr : Value) (wr : World) (v : Value) (bs : List Bool) : Prop where
  wb : WB wr v bs
  far : 0 < bs.length → ∀ ad m c, v = .slice (some ad) m c → some ad.block ≠ vo.ownBlock ∧ some ad.block ≠ vr.ownBlock

theorem WB.blk {w : World} {ad : Addr} {m c : Nat} {bs : List Bool} (h : WB w (.slice (some ad) m c) bs) (hp : 0 < bs.length) : ad.block < w.heap.size := by
  obtain ⟨A, c', e, _, _, _, hc⟩ := h
  injection e with e
  obtain ⟨b, off, rfl, hcell⟩ := hc.bool hp
  injection e with e
  rw [e]
  exact World.block_lt_of_cell? w _ (hcell 0 hp)

theorem WB.grown {w w' : World} {v : Value} {bs : List Bool} {row : Option Nat} (h : WB w v bs) (hg : w.grownBy w' row) (hne : 0 < bs.length → ∀ ad m c, v = .slice (some ad) m c → some ad.block ≠ row) : WB w' v bs := by
  obtain ⟨A, c, e, h1, h2, h3, hc⟩ := h
  refine ⟨A, c, e, h1, h2, h3, fun hp => ?_⟩
  obtain ⟨b, off, rfl, hcell⟩ := hc hp
  refine ⟨b, off, rfl, fun i u hu => ?_⟩
  have hk := hcell i u hu
  rw [List.length_map] at hp
  exact hg.cell hk (hne hp ⟨b, off, none⟩ _ _ e)

/-- a row stays where it is, or is a new one -/
def Lies (W : World) (v v' : Value) : Prop := v'.ownBlock = v.ownBlock ∨ ∀ g, v'.ownBlock = some g → W.heap.size ≤ g

theorem Rst.grow {vo vr vo' vr' : Value} {W w' : World} {v : Value} {bs : List Bool} {row : Option Nat} (h : Rst vo vr W v bs) (hg : W.grownBy w' row) (hrow : row = vo.ownBlock ∨ row = vr.ownBlock ∨ row = none)
    (h1 : Lies W vo vo') (h2 : Lies W vr vr') : Rst vo' vr' w' v bs := by
  refine ⟨h.wb.grown hg fun hp ad m c e => ?_, fun hp ad m c e => ?_⟩
  · have hf := h.far hp ad m c e
    rcases hrow with e1 | e1 | e1
    · rw [e1]; exact hf.1
    · rw [e1]; exact hf.2
    · rw [e1]; simp
  · have hf := h.far hp ad m c e
    subst e
    have hlt := h.wb.blk hp
    refine ⟨fun e => ?_, fun e => ?_⟩
    · rcases h1 with k | k
      · exact hf.1 (by rw [e, k])
      · have := k _ e.symm; omega
    · rcases h2 with k | k
      · exact hf.2 (by rw [e, k])
      · have := k _ e.symm; omega

/-- the rows when k parts are reckoned -/
structure RS (T S : Nat) (W : Nat → Nat) (w wr : World) (vo vr : Value) (k : Nat) (vs : List Value) : Prop where
  own1 : wr.ownsRow w.heap.size 2 1 vo k ((List.range k).map fun i => Value.int .i64 (qf T S W i : Nat))
  own2 : wr.ownsRow w.heap.size 123 1 vr k vs
  dist : ∀ g, vo.ownBlock = some g → vr.ownBlock ≠ some g
  rest : ∀ i, i < k → ∃ v bs, vs[i]? = some v ∧ val bs = rf T S W i ∧ bs.length ≤ 64 ∧ Rst vo vr wr v bs
  below : Below w.heap.size w wr

theorem RS.nil (T S : Nat) (W : Nat → Nat) (w : World) : RS T S W w w (.slice none 0 0) (.slice none 0 0) 0 [] :=
  ⟨World.ownsRow_nil _ _ _ _, World.ownsRow_nil _ _ _ _, (fun g h => by cases h), (fun i h => by omega), Below.refl _ _⟩

theorem Below.grown_none {w w' : World} (h : Below w.heap.size w w') : w.grownBy w' none := ⟨h.os, h.tape, h.output, h.size, fun k hk _ => h.block k hk⟩

theorem own_keep {w w' : World} {base : Nat} {e : TypeId} {v : Value} {n : Nat} {xs : List Value} (h : w.ownsRow base e 1 v n xs) (hb : Below w.heap.size w w') : w'.ownsRow base e 1 v n xs :=
  h.kept (Below.grown_none hb) (by cases hv : v.ownBlock with
    | none => exact .inl rfl
    | some g => exact .inr (by simp))

/-- the part's row behind the reckoning -/
theorem RS.two {T S : Nat} {W : Nat → Nat} {w wr w5 w6 : World} {vo vr : Value} {k : Nat} {vs : List Value} (h : RS T S W w wr vo vr k vs) (hb : Below wr.heap.size wr w5) (hg : w5.grownBy w6 vo.ownBlock) :
    w6.ownsRow w.heap.size 123 1 vr k vs :=
  (own_keep h.own2 hb).kept hg (by
    cases hv : vr.ownBlock with
    | none => exact .inl rfl
    | some g => exact .inr (fun e => h.dist g e.symm hv))

theorem RS.step {T S : Nat} {W : Nat → Nat} {w wr w5 w6 w7 : World} {vo vr : Value} {k g1 c1 g2 c2 : Nat} {vs : List Value} {v : Value} {bs : List Bool} (h : RS T S W w wr vo vr k vs) (hb : Below wr.heap.size wr w5)
    (hv : WB w5 v bs) (hbs : val bs = rf T S W k) (hlen : bs.length ≤ 64) (hfr : ∀ ad m c, v = .slice (some ad) m c → wr.heap.size ≤ ad.block)
    (o1 : w6.ownsRow w.heap.size 2 1 (.slice (some ⟨g1, 0, none⟩) (k + 1) c1) (k + 1) ((List.range k).map (fun i => Value.int .i64 (qf T S W i : Nat)) ++ [.int .i64 (qf T S W k : Nat)]))
    (b1 : w5.grownBy w6 vo.ownBlock) (l1 : vo.ownBlock = some g1 ∨ w5.heap.size < g1)
    (o2 : w7.ownsRow w.heap.size 123 1 (.slice (some ⟨g2, 0, none⟩) (k + 1) c2) (k + 1) (vs ++ [v]))
    (b2 : w6.grownBy w7 vr.ownBlock) (l2 : vr.ownBlock = some g2 ∨ w6.heap.size < g2) :
    RS T S W w w7 (.slice (some ⟨g1, 0, none⟩) (k + 1) c1) (.slice (some ⟨g2, 0, none⟩) (k + 1) c2) (k + 1) (vs ++ [v]) := by
  have hlo := fun g (e : vo.ownBlock = some g) => (h.own1.lt g e)
  have hlr := fun g (e : vr.ownBlock = some g) => (h.own2.lt g e)
  have hvl : vs.length = k := by have := h.own2.1; omega
  have s5 := hb.size
  have s6 := b1.size
  have hg1 : g1 < w6.heap.size := (o1.lt g1 rfl).2
  have hd1 : vr.ownBlock ≠ some g1 := fun e => by
    rcases l1 with k1 | k1
    · exact h.dist g1 k1 e
    · have := (hlr g1 e).2; omega
  have hd2 : g1 ≠ g2 := fun e => by
    rcases l2 with k2 | k2
    · rw [← e] at k2; exact hd1 k2
    · omega
  have L1 : Lies w5 vo (.slice (some ⟨g1, 0, none⟩) (k + 1) c1) := by
    rcases l1 with k1 | k1
    · exact .inl k1.symm
    · refine .inr fun g e => ?_
      have : g1 = g := Option.some.inj e
      omega
  have L2 : Lies w6 vr (.slice (some ⟨g2, 0, none⟩) (k + 1) c2) := by
    rcases l2 with k1 | k1
    · exact .inl k1.symm
    · refine .inr fun g e => ?_
      have : g2 = g := Option.some.inj e
      omega
  have hnew : Rst vo vr w5 v bs := ⟨hv, fun hp ad m c e => ⟨fun e' => by have := (hlo _ e'.symm).2; have := hfr ad m c e; omega, fun e' => by have := (hlr _ e'.symm).2; have := hfr ad m c e; omega⟩⟩
  have hall : ∀ {u : Value} {us : List Bool}, Rst vo vr w5 u us → Rst (.slice (some ⟨g1, 0, none⟩) (k + 1) c1) (.slice (some ⟨g2, 0, none⟩) (k + 1) c2) w7 u us := fun hu =>
    (hu.grow b1 (.inl rfl) L1 (.inl rfl)).grow b2 (.inr (.inl rfl)) (.inl rfl) L2
  refine ⟨?_, o2, fun g e => ?_, fun i hi => ?_, ?_⟩
  · have := o1.kept b2 (.inr (fun e => hd1 (by rw [← e]; rfl)))
    rw [List.range_succ, List.map_append]
    exact this
  · have e1 : g1 = g := Option.some.inj e
    rw [← e1]
    exact fun e2 => hd2 (Option.some.inj e2).symm
  · by_cases hik : i < k
    · obtain ⟨u, us, q1, q2, q3, q4⟩ := h.rest i hik
      refine ⟨u, us, by rw [List.getElem?_append_left (by omega)]; exact q1, q2, q3, hall (q4.grow (Below.grown_none hb) (.inr (.inr rfl)) (.inl rfl) (.inl rfl))⟩
    · have e : i = k := by omega
      subst e
      refine ⟨v, bs, by rw [List.getElem?_append_right (by omega), hvl, Nat.sub_self]; rfl, hbs, hlen, hall hnew⟩
  · have hbel : Below w.heap.size w w5 := h.below.trans (hb.mono h.below.size)
    have hb6 := hbel.grown b1 hbel.size (fun g e => (hlo g e).1)
    exact hb6.grown b2 hb6.size (fun g e => (hlr g e).1)
end Go.Proofs.YtkflakeocdlinaaGreatDoor
/-
  (The plain part.)
  Contract of money.Split where nothing is wrong.
-/
namespace Go.Proofs.YtkflakeocdlinaaGreatDoor
open Go.RowKit

theorem infoI64 : (Tryz.prog.info? 2).map (fun i => (i.zero, i.size, i.bytes)) = some (some (.int .i64 0), 1, 8) := by kernel_rfl
theorem infoU64 : (Tryz.prog.info? 90).map (fun i => (i.zero, i.size, i.bytes)) = some (some (.int .u64 0), 1, 8) := by kernel_rfl

/-- the two rows while the parts are reckoned: those below k -/
structure Parts (T S : Nat) (W : Nat → Nat) (n : Nat) (w wr : World) (k : Nat) : Prop where
  below : Below w.heap.size w wr
  size : wr.heap.size = w.heap.size + 2
  row1 : wr.rowIs w.heap.size 2 n (fun i => .int .i64 (if i < k then qf T S W i else 0 : Nat))
  row2 : wr.rowIs (w.heap.size + 1) 90 n (fun i => .int .u64 (if i < k then rf T S W i else 0 : Nat))

theorem Parts.drewN {T S : Nat} {W : Nat → Nat} {n k : Nat} {w wr : World} (h : Parts T S W n w wr k) (m : Nat) : Parts T S W n w (wr.drewN m) k :=
  ⟨⟨h.below.os, h.below.tape, h.below.output, h.below.size, h.below.block⟩, h.size, h.row1, h.row2⟩

theorem Parts.step {T S : Nat} {W : Nat → Nat} {n k : Nat} {w wr : World} (h : Parts T S W n w wr k) :
    Parts T S W n w ((wr.setCell ⟨w.heap.size, k, none⟩ (.int .i64 (qf T S W k : Nat))).setCell ⟨w.heap.size + 1, k, none⟩ (.int .u64 (rf T S W k : Nat))) (k + 1) := by
  refine ⟨(h.below.setCell (Nat.le_refl _) _).setCell (by simp) _, by simpa [World.setCell] using h.size, ((h.row1.set k _).setOther (by simp) _).congr fun i hi => ?_, ((h.row2.setOther (by simp) _).set k _).congr fun i hi => ?_⟩
  · by_cases e : i = k
    · subst e; simp
    · rw [if_neg e]
      by_cases e2 : i < k
      · rw [if_pos e2, if_pos (by omega)]
      · rw [if_neg e2, if_neg (by omega)]
  · by_cases e : i = k
    · subst e; simp
    · rw [if_neg e]
      by_cases e2 : i < k
      · rw [if_pos e2, if_pos (by omega)]
      · rw [if_neg e2, if_neg (by omega)]

theorem Parts.start (T S : Nat) (W : Nat → Nat) (n : Nat) (w : World) :
    Parts T S W n w ((w.alloc (.cells (madeCells #[.int .i64 0] n) 2)).alloc (.cells (madeCells #[.int .u64 0] n) 90)) 0 := by
  refine ⟨((Below.refl _ _).alloc (Nat.le_refl _) _).alloc (by simp) _, by simp, ((World.rowIs_made w _ n _).alloc _).congr fun i _ => ?_, ?_⟩
  · rw [if_neg (by omega)]; rfl
  · have := World.rowIs_made (w.alloc (.cells (madeCells #[.int .i64 0] n) 2)) (.int .u64 0) n 90
    have e : (w.alloc (.cells (madeCells #[.int .i64 0] n) 2)).heap.size = w.heap.size + 1 := by simp
    rw [e] at this
    exact this.congr fun i _ => by rw [if_neg (by omega)]; rfl

/-- the rows while what is left is given: j have got one more -/
structure Parts2 (T S : Nat) (W d t : Nat → Nat) (n g : Nat) (w wr : World) (j : Nat) : Prop where
  below : Below w.heap.size w wr
  row1 : wr.rowIs w.heap.size 2 n (fun i => .int .i64 (partK T S W t j i : Nat))
  row3 : wr.rowIs g 3 n (fun i => .int .i64 (d i : Nat))
  ne : w.heap.size < g

theorem Parts2.start {T S : Nat} {W d t : Nat → Nat} {n g : Nat} {w wr w' : World} (h : Parts T S W n w wr n) (h4 : Below wr.heap.size wr w') (h1 : w'.rowIs g 3 n (fun i => .int .i64 (d i : Nat))) (hg : wr.heap.size ≤ g) :
    Parts2 T S W d t n g w w' 0 := by
  have hsz := h.size
  refine ⟨h.below.trans (h4.mono (by omega)), (h.row1.of_block (h4.block _ (by omega))).congr fun i hi => ?_, h1, by omega⟩
  unfold partK
  rw [if_pos hi, if_neg (by omega)]
  rfl

theorem Parts2.step {T S : Nat} {W d t : Nat → Nat} {n g j : Nat} {key : Nat → Int} {w wr : World} (h : Parts2 T S W d t n g w wr j) (ho : Ordr n key d t) :
    Parts2 T S W d t n g w (wr.setCell ⟨w.heap.size, d j, none⟩ (.int .i64 ((qf T S W (d j) : Nat) + 1))) (j + 1) := by
  have hne := h.ne
  refine ⟨h.below.setCell (Nat.le_refl _) _, (h.row1.set (d j) _).congr fun i hi => ?_, h.row3.setOther (by simp; omega) _, h.ne⟩
  unfold partK
  by_cases e : i = d j
  · subst e
    rw [if_pos rfl, ho.ts, if_pos (by omega)]
    rfl
  · rw [if_neg e]
    have : t i ≠ j := fun e' => e (by rw [← e', ho.st])
    by_cases e2 : t i < j
    · rw [if_pos e2, if_pos (by omega)]
    · rw [if_neg e2, if_neg (by omega)]

theorem Parts2.cell {T S : Nat} {W d t : Nat → Nat} {n g j : Nat} {key : Nat → Int} {w wr : World} (h : Parts2 T S W d t n g w wr j) (ho : Ordr n key d t) (hj : j < n) :
    wr.cell? ⟨w.heap.size, d j, none⟩ = some (.int .i64 ((qf T S W (d j) : Nat) : Int)) := by
  have := h.row1.cell (ho.lt j hj)
  rw [this]
  unfold partK
  rw [ho.ts, if_neg (by omega)]
  rfl

end Go.Proofs.YtkflakeocdlinaaGreatDoor
