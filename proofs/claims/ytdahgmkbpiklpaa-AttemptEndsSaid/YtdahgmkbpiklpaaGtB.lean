/-
  Contracts of gate.decide and tell.
-/
import Derived.Test.YtdahgmkbpiklpaaGtA
import Derived.Test.YtdahgmkbpiklpaaOrd
import Derived.Test.YtdahgmkbpiklpaaOrdG
import Derived.BigRegion
import Derived.Deep.WholeRow
namespace Go.Proofs.Ytdahgmkbpiklpaa
open Go.RowKit Go.Deep Go.Lib

theorem rc_one5 (q p c : List UInt8) (m : Int) (v : Bool) : ∀ u ∈ (#[.string (st q), .string (st p), .string (st c), .int .i64 m, .bool v] : Array Value).toList, u.oneCell' = true := by
  intro u hu
  simp only [List.mem_cons, List.not_mem_nil, or_false] at hu
  rcases hu with rfl | rfl | rfl | rfl | rfl <;> rfl
theorem rp_one3 (q p : List UInt8) (m : Int) : ∀ u ∈ (#[.string (st q), .string (st p), .int .i64 m] : Array Value).toList, u.oneCell' = true := by
  intro u hu
  simp only [List.mem_cons, List.not_mem_nil, or_false] at hu
  rcases hu with rfl | rfl | rfl <;> rfl
theorem range3 {w : World} {b : Nat} {t : TypeId} {x y z : Value} (h : Blk w b t #[x, y, z]) : w.rangeAt b 0 [x, y, z] := fun j v hv => by
  rw [Nat.zero_add, h.cell j, List.getElem?_toArray]
  exact hv

/-- four cells of a request, and a field of a gateway -/
def Sdec (b rb : Nat) (v : Value) (q p c : List UInt8) (m : Int) (w : World) : Prop :=
  w.cell? ⟨b, 0, none⟩ = some v ∧ w.cell? ⟨rb, 1, none⟩ = some (.string (st q)) ∧ w.cell? ⟨rb, 2, none⟩ = some (.string (st p)) ∧ w.cell? ⟨rb, 3, none⟩ = some (.string (st c)) ∧ w.cell? ⟨rb, 4, none⟩ = some (.int .i64 m)

set_option maxHeartbeats 1600000 in
set_option maxRecDepth 100000 in
theorem decide_yes (B b : Nat) (L : List Rc) (Q : List Rp) (v1 v2 : Value) (k q p c : List UInt8) (m a : Int) (ch : Nat) (w : World) (h : GateP 46 63 59 B w b L Q v1 v2) (hl : L.length ≤ 1000000) (hk : hasK q L = true) :
    Calls Try.prog 23 #[.pointer (some ⟨b, 0, none⟩), .agg #[.string (st k), .string (st q), .string (st p), .string (st c), .int .i64 m, .int .i64 a], .int .u8 (ch : Int)] w fun e w' => e = .returned (.tuple #[]) ∧ Below w.heap.size w w' := by
  have hb1 : Below w.heap.size w (w.alloc (.cells #[.string (st k), .string (st q), .string (st p), .string (st c), .int .i64 m, .int .i64 a] 29)) := (Below.refl _ w).alloc (Nat.le_refl _) _
  have HB := Lib.hid hb1
  have HF := Lib.hid (find_any B b L Q v1 v2 q _ (h.keep hb1) hl)
  have HK := Lib.hid hk
  clear hb1 h hl hk
  go_enter Try.func23, Try.ntmps23
  go_wp2_with fail
  refine HF.out.mono ?_
  rintro e w2 ⟨n, rfl, h1, h2⟩
  have hn : ¬ n < 0 := by
    have := h1.has
    rw [HK.out] at this
    have := of_decide_eq_true this.symm
    omega
  have hn2 : 0 ≤ n := by omega
  have HB2 := Lib.hid (bel_onG HB.out HB.out.size h2)
  clear h1 h2
  go_wp2
  (try simp only [Exit.inBlock, Exit.then]); refine bodyPost_ret (results_none rfl _ _ _) rfl ?_
  exact ⟨rfl, HB2.out⟩

set_option maxHeartbeats 3200000 in
set_option maxRecDepth 100000 in
theorem decide_no (B b : Nat) (L : List Rc) (Q : List Rp) (v1 v2 : Value) (k q p c : List UInt8) (m a : Int) (ch : Nat) (w : World) (h : GateP 46 63 59 B w b L Q v1 v2) (hl : L.length ≤ 1000000) (hc : ch ≤ 7) (hk : hasK q L = false) :
    Calls Try.prog 23 #[.pointer (some ⟨b, 0, none⟩), .agg #[.string (st k), .string (st q), .string (st p), .string (st c), .int .i64 m, .int .i64 a], .int .u8 (ch : Int)] w fun e w' => e = .returned (.tuple #[]) ∧ Turned 46 63 59 B b v1 v2 (L ++ [(q, p, c, m, mvB ch)]) Q w w' := by
  have hb1 : Below w.heap.size w (w.alloc (.cells #[.string (st k), .string (st q), .string (st p), .string (st c), .int .i64 m, .int .i64 a] 29)) := (Below.refl _ w).alloc (Nat.le_refl _) _
  have HB := Lib.hid hb1
  have HF := Lib.hid (find_any B b L Q v1 v2 q _ (h.keep hb1) hl)
  have HRQ : Hid (Blk (w.alloc (.cells #[.string (st k), .string (st q), .string (st p), .string (st c), .int .i64 m, .int .i64 a] 29)) w.heap.size 29 #[.string (st k), .string (st q), .string (st p), .string (st c), .int .i64 m, .int .i64 a]) := Blk.new w _ _
  have HK := Lib.hid hk
  have HG := Lib.hid h
  have HL := Lib.hid hl
  have HM : Hid (∀ W, Calls Try.prog 31 #[.int .u8 (ch : Int)] W fun e w' => e = .returned (.bool (mvB ch)) ∧ W = w') := fun W => moves_any ch W hc
  clear hb1 h hl hk hc
  go_enter Try.func23, Try.ntmps23
  go_wp2_with fail
  refine HF.out.mono ?_
  rintro e w2 ⟨n, rfl, h1, h2⟩
  have hn : n < 0 := by
    have := h1.has
    rw [HK.out] at this
    have := of_decide_eq_false this.symm
    omega
  have HB2 := Lib.hid (bel_onG HB.out HB.out.size h2).drew
  have HRQ2 : Hid (Blk w2.drew w.heap.size 29 #[.string (st k), .string (st q), .string (st p), .string (st c), .int .i64 m, .int .i64 a]) := HRQ.out.since h2.drew
  clear h1 h2 HF HRQ HB
  go_wp2_with fail
  refine wp_region_E (Sdec b w.heap.size v1 q p c m) [20] (by kernel_rfl) ?_
  generalize w2.drew = W at HB2 HRQ2 ⊢
  have HGW := Lib.hid (HG.out.keep HB2.out)
  have HS0 : Hid (Sdec b w.heap.size v1 q p c m W) := ⟨HGW.out.cell0, HRQ2.out.cell 1, HRQ2.out.cell 2, HRQ2.out.cell 3, HRQ2.out.cell 4⟩
  refine wpAnyE_take 0 (some 11) (.pointer (some ⟨b, 0, none⟩)) rfl rfl (by kernel_rfl) (by kernel_rfl) (by kernel_rfl) (by kernel_rfl) (fun _ _ _ h => h) (yields_move rfl _ rfl _ rfl) HS0.out ?_
  simp only [Act.put, List.setIfInBounds_toArray, List.set_cons_zero, List.set_cons_succ]
  refine wpAnyE_take 1 (some 12) (.pointer (some ⟨b, 0, none⟩)) rfl rfl (by kernel_rfl) (by kernel_rfl) (by kernel_rfl) (by kernel_rfl) (fun _ _ _ h => h) (yields_move rfl _ rfl _ rfl) HS0.out ?_
  simp only [Act.put, List.setIfInBounds_toArray, List.set_cons_zero, List.set_cons_succ]
  refine wpAnyE_take 2 (some 13) (.pointer (some ⟨b, 0, none⟩)) rfl rfl (by kernel_rfl) (by kernel_rfl) (by kernel_rfl) (by kernel_rfl) (fun _ _ _ h => h) (yields_nilCheck rfl _ rfl _ rfl) HS0.out ?_
  simp only [Act.put, List.setIfInBounds_toArray, List.set_cons_zero, List.set_cons_succ]
  refine wpAnyE_take 3 (some 14) (.pointer (some ⟨b, 0, none⟩)) rfl rfl (by kernel_rfl) (by kernel_rfl) (by kernel_rfl) (by kernel_rfl) (fun _ _ _ h => h) (Or.inl ⟨by rfl, fun w _ => by go_simp⟩) HS0.out ?_
  simp only [Act.put, List.setIfInBounds_toArray, List.set_cons_zero, List.set_cons_succ]
  refine wpAnyE_take 4 (some 15) (v1) rfl rfl (by kernel_rfl) (by kernel_rfl) (by kernel_rfl) (by kernel_rfl) (fun _ _ _ h => h) (yields_load rfl 43 _ rfl Try.underlying43 rfl _ rfl _ (fun w h => h.1)) HS0.out ?_
  simp only [Act.put, List.setIfInBounds_toArray, List.set_cons_zero, List.set_cons_succ]
  refine wpAnyE_take 5 (some 16) (.pointer (some ⟨w.heap.size, 1, none⟩)) rfl rfl (by kernel_rfl) (by kernel_rfl) (by kernel_rfl) (by kernel_rfl) (fun _ _ _ h => h) (Or.inl ⟨by rfl, fun w _ => by go_simp⟩) HS0.out ?_
  simp only [Act.put, List.setIfInBounds_toArray, List.set_cons_zero, List.set_cons_succ]
  refine wpAnyE_take 6 (some 17) (.string (st q)) rfl rfl (by kernel_rfl) (by kernel_rfl) (by kernel_rfl) (by kernel_rfl) (fun _ _ _ h => h) (yields_load rfl 9 _ rfl Try.underlying9 rfl _ rfl _ (fun w h => h.2.1)) HS0.out ?_
  simp only [Act.put, List.setIfInBounds_toArray, List.set_cons_zero, List.set_cons_succ]
  refine wpAnyE_take 7 (some 18) (.pointer (some ⟨w.heap.size, 2, none⟩)) rfl rfl (by kernel_rfl) (by kernel_rfl) (by kernel_rfl) (by kernel_rfl) (fun _ _ _ h => h) (Or.inl ⟨by rfl, fun w _ => by go_simp⟩) HS0.out ?_
  simp only [Act.put, List.setIfInBounds_toArray, List.set_cons_zero, List.set_cons_succ]
  refine wpAnyE_take 8 (some 19) (.string (st p)) rfl rfl (by kernel_rfl) (by kernel_rfl) (by kernel_rfl) (by kernel_rfl) (fun _ _ _ h => h) (yields_load rfl 9 _ rfl Try.underlying9 rfl _ rfl _ (fun w h => h.2.2.1)) HS0.out ?_
  simp only [Act.put, List.setIfInBounds_toArray, List.set_cons_zero, List.set_cons_succ]
  refine wpAnyE_take 9 (some 20) (.pointer (some ⟨w.heap.size, 3, none⟩)) rfl rfl (by kernel_rfl) (by kernel_rfl) (by kernel_rfl) (by kernel_rfl) (fun _ _ _ h => h) (Or.inl ⟨by rfl, fun w _ => by go_simp⟩) HS0.out ?_
  simp only [Act.put, List.setIfInBounds_toArray, List.set_cons_zero, List.set_cons_succ]
  refine wpAnyE_take 10 (some 21) (.string (st c)) rfl rfl (by kernel_rfl) (by kernel_rfl) (by kernel_rfl) (by kernel_rfl) (fun _ _ _ h => h) (yields_load rfl 9 _ rfl Try.underlying9 rfl _ rfl _ (fun w h => h.2.2.2.1)) HS0.out ?_
  simp only [Act.put, List.setIfInBounds_toArray, List.set_cons_zero, List.set_cons_succ]
  refine wpAnyE_take 11 (some 22) (.pointer (some ⟨w.heap.size, 4, none⟩)) rfl rfl (by kernel_rfl) (by kernel_rfl) (by kernel_rfl) (by kernel_rfl) (fun _ _ _ h => h) (Or.inl ⟨by rfl, fun w _ => by go_simp⟩) HS0.out ?_
  simp only [Act.put, List.setIfInBounds_toArray, List.set_cons_zero, List.set_cons_succ]
  refine wpAnyE_take 12 (some 23) (.int .i64 m) rfl rfl (by kernel_rfl) (by kernel_rfl) (by kernel_rfl) (by kernel_rfl) (fun _ _ _ h => h) (yields_load rfl 2 _ rfl Try.underlying2 rfl _ rfl _ (fun w h => h.2.2.2.2)) HS0.out ?_
  simp only [Act.put, List.setIfInBounds_toArray, List.set_cons_zero, List.set_cons_succ]
  refine wpAnyE_take 13 (some 24) (.int .u8 (ch : Int)) rfl rfl (by kernel_rfl) (by kernel_rfl) (by kernel_rfl) (by kernel_rfl) (fun _ _ _ h => h) (yields_move rfl _ rfl _ rfl) HS0.out ?_
  simp only [Act.put, List.setIfInBounds_toArray, List.set_cons_zero, List.set_cons_succ]
  refine wpAnyE_oneG 14 (by kernel_rfl) rfl (by rfl) (fun K hK => ?_)
  go_simp
  refine (HM.out _).mono ?_
  rintro e wn ⟨rfl, rfl⟩
  try go_wp2_with fail
  refine hK.out _ _ HS0.out ?_
  clear hK K
  try simp only [Act.put, List.setIfInBounds_toArray, List.set_cons_zero, List.set_cons_succ]
  refine wpAnyE_step 15 (some 26) (.agg #[.string (st q), .string (st p), .string (st c), .int .i64 m, .bool (mvB ch)]) (by kernel_rfl) rfl rfl (Or.inl ⟨by rfl, fun w _ => by go_simp⟩) HS0.out ?_
  simp only [Act.put, List.setIfInBounds_toArray, List.set_cons_zero, List.set_cons_succ]
  refine wpAnyE_one (i := 16) (by kernel_rfl) rfl rfl ?_
  refine wp_buildSlice_one (some 27) rfl 43 63 _ rfl _ 5 64 Try.underlying43 infoRc (by omega) (by omega) #[.string (st q), .string (st p), .string (st c), .int .i64 m, .bool (mvB ch)] rfl rfl ?_
  simp only [Act.put, List.setIfInBounds_toArray, List.set_cons_zero, List.set_cons_succ]
  have HB3 : Hid (Below W.heap.size W (W.alloc (.cells #[.string (st q), .string (st p), .string (st c), .int .i64 m, .bool (mvB ch)] 63))) := (Below.refl _ W).alloc (Nat.le_refl _) _
  have HBN : Hid (Blk (W.alloc (.cells #[.string (st q), .string (st p), .string (st c), .int .i64 m, .bool (mvB ch)] 63)) W.heap.size 63 #[.string (st q), .string (st p), .string (st c), .int .i64 m, .bool (mvB ch)]) := Blk.new W _ _
  generalize W.alloc (.cells #[.string (st q), .string (st p), .string (st c), .int .i64 m, .bool (mvB ch)] 63) = W2 at HB3 HBN ⊢
  have HG2 := Lib.hid (HGW.out.keep HB3.out)
  have HRQ3 := Lib.hid (HRQ2.out.since HB3.out)
  refine ⟨⟨HG2.out.cell0, HRQ3.out.cell 1, HRQ3.out.cell 2, HRQ3.out.cell 3, HRQ3.out.cell 4⟩, ?_⟩
  refine wpAnyE_one (i := 17) (by kernel_rfl) rfl rfl ?_
  refine wp_append_wide (some 28) rfl (.tmp 15) (.tmp 27) 43 63 rfl B _ 5 64 Try.underlying43 infoRc rfl (by omega) v1 L.length _ rfl W.heap.size 1 rfl HG2.out.one _ HBN.out rfl (rc_one5 q p c m (mvB ch)) (by have := HL.out; unfold maxLen; omega) (by have := HL.out; omega) (Nat.le_trans HG2.out.hb (Nat.le_of_lt HG2.out.box.lt)) ?_
  intro v' W3 hown3 hgr3 hat3
  simp only [Act.put, List.setIfInBounds_toArray, List.set_cons_zero, List.set_cons_succ]
  have HG4 : Hid (GateP 46 63 59 B (W3.setCell ⟨b, 0, none⟩ v') b (L ++ [(q, p, c, m, mvB ch)]) Q v' v2 ∧ Stp (fpG b v1 v2) W2 (W3.setCell ⟨b, 0, none⟩ v') ∧ ∀ k ∈ fpG b v' v2, k ∈ fpG b v1 v2 ∨ W2.heap.size ≤ k) := HG2.out.grow1 (x := (q, p, c, m, mvB ch)) hgr3 hown3 hat3
  have HX3 := Lib.hid (HG2.out.box.kept hgr3 (fun e => HG2.out.ne1 _ e.symm rfl))
  have HRQ4 := Lib.hid (HRQ3.out.kept hgr3 (fun e => by have := (HG.out.lt _ (mem_fpG.2 (.inr (.inl e.symm)))).1; omega))
  obtain ⟨va, vc, hvv⟩ := own_sliceG hown3
  clear hgr3 hown3 hat3
  have HS3 : Hid (Sdec b w.heap.size v1 q p c m W3) := ⟨HX3.out.cell 0, HRQ4.out.cell 1, HRQ4.out.cell 2, HRQ4.out.cell 3, HRQ4.out.cell 4⟩
  refine ⟨HS3.out, ?_⟩
  refine wpAnyE_step 18 (some 29) (.pointer (some ⟨b, 0, none⟩)) (by kernel_rfl) rfl rfl (yields_nilCheck rfl _ rfl _ rfl) HS3.out ?_
  simp only [Act.put, List.setIfInBounds_toArray, List.set_cons_zero, List.set_cons_succ]
  refine wpAnyE_step 19 (some 30) (.pointer (some ⟨b, 0, none⟩)) (by kernel_rfl) rfl rfl (Or.inl ⟨by rfl, fun w _ => by go_simp⟩) HS3.out ?_
  simp only [Act.put, List.setIfInBounds_toArray, List.set_cons_zero, List.set_cons_succ]
  refine wpAnyE_end (i := 20) (by kernel_rfl) rfl rfl rfl ?_
  refine wp_store_one none rfl 43 _ _ rfl (by kernel_rfl) ⟨b, 0, none⟩ rfl v' v1 rfl (by rw [hvv]; rfl) (HX3.out.cell 0) (HX3.out.frozen 0) ?_
  simp only [Act.put]
  refine wpAnyE_done (by kernel_rfl) ?_ _
  have HFIN : Hid (Turned 46 63 59 B b v1 v2 (L ++ [(q, p, c, m, mvB ch)]) Q w (W3.setCell ⟨b, 0, none⟩ v')) :=
    Turned.since (Turned.since ⟨v', v2, HG4.out.1, HG4.out.2.1, HG4.out.2.2⟩ HB3.out) HB2.out
  generalize W3.setCell ⟨b, 0, none⟩ v' = W4 at HFIN ⊢
  clear HS3 HX3 HRQ4 HG4 HG2 HRQ3 HB3 HBN hvv
  go_wp2
  go_end0
  exact ⟨rfl, HFIN.out⟩

/-- what tell answers, and leaves -/
def TellP (B b : Nat) (v1 v2 : Value) (L : List Rc) (Q' : List Rp) (A : List Rp) (w : World) (e : Ending) (w' : World) : Prop :=
  ∃ ar cp, e = .returned (.slice ar A.length cp) ∧ RowG 3 cRp w' ar A ∧ (∀ p, ar = some p → w.heap.size ≤ p.block) ∧ Turned 46 63 59 B b v1 v2 L Q' w w'

/-- a new row of one or two -/
theorem row_one {w : World} {t : TypeId} {x : Rp} {c : Array Value} {n : Nat} (hc : c = (cRp x).toArray) (hn : n = w.heap.size) : RowG 3 cRp (w.alloc (.cells c t)) (some ⟨n, 0, none⟩) [x] := fun _ => ⟨_, _, rfl, fun i y hi j u hu => by
  subst hn
  have hb := Blk.new w t c
  have hlt := (List.getElem?_eq_some_iff.1 hi).1
  obtain rfl : i = 0 := by simp at hlt; exact hlt
  simp only [List.getElem?_cons_zero, Option.some.injEq] at hi
  subst hi
  rw [show 0 + 0 * 3 + j = j by omega, hb.cell, hc, List.getElem?_toArray]
  exact hu⟩
theorem row_two16 {w : World} {t : TypeId} {x : Rp} {c : Array Value} {n : Nat} (hc : c = (cRp x ++ cRp x).toArray) (hn : n = w.heap.size) : RowG 3 cRp (w.alloc (.cells c t)) (some ⟨n, 0, none⟩) [x, x] := fun _ => ⟨_, _, rfl, fun i y hi j u hu => by
  subst hn
  have hb := Blk.new w t c
  have hj : j < 3 := by have := (List.getElem?_eq_some_iff.1 hu).1; rwa [cRp_len] at this
  have hlt := (List.getElem?_eq_some_iff.1 hi).1
  rw [show 0 + i * 3 + j = i * 3 + j by omega, hb.cell, hc, List.getElem?_toArray]
  have hi2 : i = 0 ∨ i = 1 := by simp at hlt; omega
  rcases hi2 with rfl | rfl
  · simp only [List.getElem?_cons_zero, Option.some.injEq] at hi
    subst hi
    rw [List.getElem?_append_left (by rw [cRp_len]; omega), show 0 * 3 + j = j by omega]
    exact hu
  · simp only [List.getElem?_cons_succ, List.getElem?_cons_zero, Option.some.injEq] at hi
    subst hi
    rw [List.getElem?_append_right (by rw [cRp_len]; omega), cRp_len, show 1 * 3 + j - 3 = j by omega]
    exact hu⟩

theorem tell_at {c : Nat} {x : Rp} {Q : List Rp} (h : c = 1 ∨ c = 3) : told c x = [x] ∧ lateL c x Q = Q := by
  refine ⟨by unfold told; rw [if_pos h], ?_⟩
  unfold lateL
  rw [if_neg (by omega)]
theorem tell_two {x : Rp} {Q : List Rp} : told 5 x = [x, x] ∧ lateL 5 x Q = Q := ⟨rfl, rfl⟩
theorem tell_late {c : Nat} {x : Rp} {Q : List Rp} (h : c = 6 ∨ c = 7) : told c x = [] ∧ lateL c x Q = Q ++ [x] := by
  refine ⟨?_, by unfold lateL; rw [if_pos h]⟩
  unfold told
  rw [if_neg (by omega), if_neg (by omega)]
theorem tell_none {c : Nat} {x : Rp} {Q : List Rp} (h : c = 2 ∨ c = 4) : told c x = [] ∧ lateL c x Q = Q := by
  refine ⟨?_, by unfold lateL; rw [if_neg (by omega)]⟩
  unfold told
  rw [if_neg (by omega), if_neg (by omega)]

set_option maxHeartbeats 1600000 in
set_option maxRecDepth 100000 in
theorem tell_still (B b : Nat) (L : List Rc) (Q : List Rp) (v1 v2 : Value) (q k : List UInt8) (a : Int) (ch : Nat) (w : World) (h : GateP 46 63 59 B w b L Q v1 v2) (hc : 1 ≤ ch ∧ ch ≤ 5) :
    Calls Try.prog 24 #[.pointer (some ⟨b, 0, none⟩), .agg #[.string (st q), .string (st k), .int .i64 a], .int .u8 (ch : Int)] w (TellP B b v1 v2 L (lateL ch (q, k, a) Q) (told ch (q, k, a)) w) := by
  have HB : Hid (∀ c t c' t', Below w.heap.size w (w.alloc (.cells c t)) ∧ Below w.heap.size w ((w.alloc (.cells c t)).alloc (.cells c' t'))) := fun c t c' t' => ⟨(Below.refl _ w).alloc (Nat.le_refl _) _, ((Below.refl _ w).alloc (Nat.le_refl _) _).alloc (by simp) _⟩
  have HG := Lib.hid h
  clear h
  have hway : (ch = 1 ∨ ch = 3) ∨ ch = 5 ∨ (ch = 2 ∨ ch = 4) := by omega
  clear hc
  rcases hway with hw | rfl | hw
  · have HT : Hid (told ch (q, k, a) = [(q, k, a)] ∧ lateL ch (q, k, a) Q = Q) := tell_at hw
    rw [HT.out.1, HT.out.2]
    rcases hw with rfl | rfl
    all_goals
      go_enter Try.func24, Try.ntmps24
      go_wp2
      go_ret
      exact ⟨_, _, rfl, row_one rfl (by simp), (fun p hp => by injection hp with hp; rw [← hp]; simp), Turned.still HG.out (HB.out _ _ _ _).2⟩
  · have HT : Hid (told 5 (q, k, a) = [(q, k, a), (q, k, a)] ∧ lateL 5 (q, k, a) Q = Q) := tell_two
    rw [HT.out.1, HT.out.2]
    go_enter Try.func24, Try.ntmps24
    go_wp2
    go_ret
    exact ⟨_, _, rfl, row_two16 rfl (by simp), (fun p hp => by injection hp with hp; rw [← hp]; simp), Turned.still HG.out (HB.out _ _ _ _).2⟩
  · have HT : Hid (told ch (q, k, a) = [] ∧ lateL ch (q, k, a) Q = Q) := tell_none hw
    rw [HT.out.1, HT.out.2]
    rcases hw with rfl | rfl
    all_goals
      go_enter Try.func24, Try.ntmps24
      go_wp2
      go_ret
      exact ⟨_, _, rfl, RowG.nil _ _, (fun p hp => by cases hp), Turned.still HG.out (HB.out _ 59 #[] 59).1⟩

/-- a field of a gateway, and a reply -/
def Stel (b rb : Nat) (v : Value) (q k : List UInt8) (a : Int) (w : World) : Prop :=
  w.cell? ⟨b, 1, none⟩ = some v ∧ w.rangeAt rb 0 [.string (st q), .string (st k), .int .i64 a]

set_option maxHeartbeats 3200000 in
set_option maxRecDepth 100000 in
theorem tell_more (B b : Nat) (L : List Rc) (Q : List Rp) (v1 v2 : Value) (q k : List UInt8) (a : Int) (ch : Nat) (w : World) (h : GateP 46 63 59 B w b L Q v1 v2) (hl : Q.length ≤ 1000000) (hc : ch = 6 ∨ ch = 7) :
    Calls Try.prog 24 #[.pointer (some ⟨b, 0, none⟩), .agg #[.string (st q), .string (st k), .int .i64 a], .int .u8 (ch : Int)] w (TellP B b v1 v2 L (lateL ch (q, k, a) Q) (told ch (q, k, a)) w) := by
  have HB2 : Hid (Below w.heap.size w (w.alloc (.cells #[.string (st q), .string (st k), .int .i64 a] 59)).drew) := ((Below.refl _ w).alloc (Nat.le_refl _) _).drew
  have HRQ2 : Hid (Blk (w.alloc (.cells #[.string (st q), .string (st k), .int .i64 a] 59)).drew w.heap.size 59 #[.string (st q), .string (st k), .int .i64 a]) := Blk.new w _ _
  have HG := Lib.hid h
  have HL := Lib.hid hl
  have HT : Hid (told ch (q, k, a) = [] ∧ lateL ch (q, k, a) Q = Q ++ [(q, k, a)]) := tell_late hc
  have HI2 : Hid ((Try.prog.info? 59).map (·.size) = some [Value.string (st q), .string (st k), .int .i64 a].length) := (info_zero infoRp).2.1
  rw [HT.out.1, HT.out.2]
  clear h hl
  rcases hc with rfl | rfl
  all_goals
    go_enter Try.func24, Try.ntmps24
    go_wp2_with fail
    refine wp_region_E (Stel b w.heap.size v2 q k a) [10] (by kernel_rfl) ?_
    generalize (w.alloc (.cells #[.string (st q), .string (st k), .int .i64 a] 59)).drew = W at HB2 HRQ2 ⊢
    have HGW := Lib.hid (HG.out.keep HB2.out)
    have HS0 : Hid (Stel b w.heap.size v2 q k a W) := ⟨HGW.out.cell1, range3 HRQ2.out⟩
    refine wpAnyE_take 0 (some 21) (.pointer (some ⟨b, 0, none⟩)) rfl rfl (by kernel_rfl) (by kernel_rfl) (by kernel_rfl) (by kernel_rfl) (fun _ _ _ h => h) (yields_move rfl _ rfl _ rfl) HS0.out ?_
    simp only [Act.put, List.setIfInBounds_toArray, List.set_cons_zero, List.set_cons_succ]
    refine wpAnyE_take 1 (some 22) (.pointer (some ⟨b, 0, none⟩)) rfl rfl (by kernel_rfl) (by kernel_rfl) (by kernel_rfl) (by kernel_rfl) (fun _ _ _ h => h) (yields_move rfl _ rfl _ rfl) HS0.out ?_
    simp only [Act.put, List.setIfInBounds_toArray, List.set_cons_zero, List.set_cons_succ]
    refine wpAnyE_take 2 (some 23) (.pointer (some ⟨b, 0, none⟩)) rfl rfl (by kernel_rfl) (by kernel_rfl) (by kernel_rfl) (by kernel_rfl) (fun _ _ _ h => h) (yields_nilCheck rfl _ rfl _ rfl) HS0.out ?_
    simp only [Act.put, List.setIfInBounds_toArray, List.set_cons_zero, List.set_cons_succ]
    refine wpAnyE_take 3 (some 24) (.pointer (some ⟨b, 1, none⟩)) rfl rfl (by kernel_rfl) (by kernel_rfl) (by kernel_rfl) (by kernel_rfl) (fun _ _ _ h => h) (Or.inl ⟨by rfl, fun w _ => by go_simp⟩) HS0.out ?_
    simp only [Act.put, List.setIfInBounds_toArray, List.set_cons_zero, List.set_cons_succ]
    refine wpAnyE_take 4 (some 25) (v2) rfl rfl (by kernel_rfl) (by kernel_rfl) (by kernel_rfl) (by kernel_rfl) (fun _ _ _ h => h) (yields_load rfl 44 _ rfl Try.underlying44 rfl _ rfl _ (fun w h => h.1)) HS0.out ?_
    simp only [Act.put, List.setIfInBounds_toArray, List.set_cons_zero, List.set_cons_succ]
    refine wpAnyE_take 5 (some 26) (.agg #[.string (st q), .string (st k), .int .i64 a]) rfl rfl (by kernel_rfl) (by kernel_rfl) (by kernel_rfl) (by kernel_rfl) (fun _ _ _ h => h) (yieldsIf_load_mid rfl 59 _ rfl w.heap.size 0 rfl _ _ (fun w h => h.2) Try.underlying59 rfl HI2.out) HS0.out ?_
    simp only [Act.put, List.setIfInBounds_toArray, List.set_cons_zero, List.set_cons_succ]
    refine wpAnyE_one (i := 6) (by kernel_rfl) rfl rfl ?_
    refine wp_buildSlice_one (some 27) rfl 44 59 _ rfl _ 3 40 Try.underlying44 infoRp (by omega) (by omega) #[.string (st q), .string (st k), .int .i64 a] rfl rfl ?_
    simp only [Act.put, List.setIfInBounds_toArray, List.set_cons_zero, List.set_cons_succ]
    have HB3 : Hid (Below W.heap.size W (W.alloc (.cells #[.string (st q), .string (st k), .int .i64 a] 59))) := (Below.refl _ W).alloc (Nat.le_refl _) _
    have HBN : Hid (Blk (W.alloc (.cells #[.string (st q), .string (st k), .int .i64 a] 59)) W.heap.size 59 #[.string (st q), .string (st k), .int .i64 a]) := Blk.new W _ _
    generalize W.alloc (.cells #[.string (st q), .string (st k), .int .i64 a] 59) = W2 at HB3 HBN ⊢
    have HG2 := Lib.hid (HGW.out.keep HB3.out)
    have HRQ3 := Lib.hid (HRQ2.out.since HB3.out)
    refine ⟨⟨HG2.out.cell1, range3 HRQ3.out⟩, ?_⟩
    refine wpAnyE_one (i := 7) (by kernel_rfl) rfl rfl ?_
    refine wp_append_wide (some 28) rfl (.tmp 25) (.tmp 27) 44 59 rfl B _ 3 40 Try.underlying44 infoRp rfl (by omega) v2 Q.length _ rfl W.heap.size 1 rfl HG2.out.two _ HBN.out rfl (rp_one3 q k a) (by have := HL.out; unfold maxLen; omega) (by have := HL.out; omega) (Nat.le_trans HG2.out.hb (Nat.le_of_lt HG2.out.box.lt)) ?_
    intro v' W3 hown3 hgr3 hat3
    simp only [Act.put, List.setIfInBounds_toArray, List.set_cons_zero, List.set_cons_succ]
    have HG4 : Hid (GateP 46 63 59 B (W3.setCell ⟨b, 1, none⟩ v') b L (Q ++ [(q, k, a)]) v1 v' ∧ Stp (fpG b v1 v2) W2 (W3.setCell ⟨b, 1, none⟩ v') ∧ ∀ k ∈ fpG b v1 v', k ∈ fpG b v1 v2 ∨ W2.heap.size ≤ k) := HG2.out.grow2 (x := (q, k, a)) hgr3 hown3 hat3
    have HX3 := Lib.hid (HG2.out.box.kept hgr3 (fun e => HG2.out.ne2 _ e.symm rfl))
    have HRQ4 := Lib.hid (HRQ3.out.kept hgr3 (fun e => by have := (HG.out.lt _ (mem_fpG.2 (.inr (.inr e.symm)))).1; omega))
    obtain ⟨va, vc, hvv⟩ := own_sliceG hown3
    clear hgr3 hown3 hat3
    have HS3 : Hid (Stel b w.heap.size v2 q k a W3) := ⟨HX3.out.cell 1, range3 HRQ4.out⟩
    refine ⟨HS3.out, ?_⟩
    refine wpAnyE_step 8 (some 29) (.pointer (some ⟨b, 0, none⟩)) (by kernel_rfl) rfl rfl (yields_nilCheck rfl _ rfl _ rfl) HS3.out ?_
    simp only [Act.put, List.setIfInBounds_toArray, List.set_cons_zero, List.set_cons_succ]
    refine wpAnyE_step 9 (some 30) (.pointer (some ⟨b, 1, none⟩)) (by kernel_rfl) rfl rfl (Or.inl ⟨by rfl, fun w _ => by go_simp⟩) HS3.out ?_
    simp only [Act.put, List.setIfInBounds_toArray, List.set_cons_zero, List.set_cons_succ]
    refine wpAnyE_end (i := 10) (by kernel_rfl) rfl rfl rfl ?_
    refine wp_store_one none rfl 44 _ _ rfl (by kernel_rfl) ⟨b, 1, none⟩ rfl v' v2 rfl (by rw [hvv]; rfl) (HX3.out.cell 1) (HX3.out.frozen 1) ?_
    simp only [Act.put]
    refine wpAnyE_done (by kernel_rfl) ?_ _
    have HFIN : Hid (Turned 46 63 59 B b v1 v2 L (Q ++ [(q, k, a)]) w (W3.setCell ⟨b, 1, none⟩ v')) :=
      Turned.since (Turned.since ⟨v1, v', HG4.out.1, HG4.out.2.1, HG4.out.2.2⟩ HB3.out) HB2.out
    generalize W3.setCell ⟨b, 1, none⟩ v' = W4 at HFIN ⊢
    clear HS3 HX3 HRQ4 HG4 HG2 HRQ3 HB3 HBN hvv
    go_wp2
    go_ret
    exact ⟨_, _, rfl, RowG.nil _ _, (fun p hp => by cases hp), HFIN.out⟩

/-- whatever is told -/
theorem tell_any (B b : Nat) (L : List Rc) (Q : List Rp) (v1 v2 : Value) (q k : List UInt8) (a : Int) (ch : Nat) (w : World) (h : GateP 46 63 59 B w b L Q v1 v2) (hl : Q.length ≤ 1000000) (hc : 1 ≤ ch ∧ ch ≤ 7) :
    Calls Try.prog 24 #[.pointer (some ⟨b, 0, none⟩), .agg #[.string (st q), .string (st k), .int .i64 a], .int .u8 (ch : Int)] w (TellP B b v1 v2 L (lateL ch (q, k, a) Q) (told ch (q, k, a)) w) := by
  by_cases h5 : ch ≤ 5
  · exact tell_still B b L Q v1 v2 q k a ch w h ⟨hc.1, h5⟩
  · exact tell_more B b L Q v1 v2 q k a ch w h hl (by omega)
end Go.Proofs.Ytdahgmkbpiklpaa
