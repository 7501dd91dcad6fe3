/-
  Contract of slices.Delete of one late reply.
-/
import Derived.Test.YtdahgmkbpiklpaaGtP
import Derived.Deep.RegionLaw
import Derived.Deep.LoopGhost
import Derived.Lib.SliceRun
namespace Go.Proofs.Ytdahgmkbpiklpaa
open Go.RowKit Go.Deep Go.Lib

/-- cells laid into a block, from a place on -/
def layA : Array Value → Nat → List Value → Array Value
  | cs, _, [] => cs
  | cs, o, v :: r => layA (cs.setIfInBounds o v) (o + 1) r

theorem layA_list : ∀ (vs : List Value) (cs : Array Value) (o : Nat), o + vs.length ≤ cs.size → (layA cs o vs).toList = cs.toList.take o ++ vs ++ cs.toList.drop (o + vs.length)
  | [], cs, o, h => by simp [layA]
  | v :: r, cs, o, h => by
    have ho : o < cs.toList.length := by simp at h ⊢; omega
    rw [layA, layA_list r _ _ (by simp at h ⊢; omega), Array.toList_setIfInBounds, List.take_succ_eq_append_getElem (by simpa using ho), List.take_set_of_le (Nat.le_refl _), List.getElem_set_self, List.drop_set_of_lt (by omega)]
    simp [Nat.add_assoc, Nat.add_comm 1]
theorem layA_size : ∀ (vs : List Value) (cs : Array Value) (o : Nat), (layA cs o vs).size = cs.size
  | [], _, _ => rfl
  | v :: r, cs, o => by rw [layA, layA_size r]; simp
theorem Blk.setCells {b : Nat} {t : TypeId} : ∀ (vs : List Value) (o : Nat) (w : World) (cs : Array Value), Blk w b t cs → Blk (w.setCells b o vs) b t (layA cs o vs)
  | [], _, _, _, h => h
  | v :: r, o, _, _, h => Blk.setCells r (o + 1) _ _ (h.set o v)
theorem Stp.setCells {b : Nat} {fp : List Nat} {a : World} : ∀ (vs : List Value) (o : Nat) (w : World), Stp fp a w → b ∈ fp → Stp fp a (w.setCells b o vs)
  | [], _, _, h, _ => h
  | v :: r, o, _, h, hb => Stp.setCells r (o + 1) _ (h.setCell (x := ⟨b, o, none⟩) (.inl hb) v) hb

/-- clear of one struct's cells -/
theorem run_clear_one {P : Program} (w : World) (t e ty : TypeId) (z : Value) (ht : P.underlying t = some (.slice e)) (hv : ∀ w, (zeroValue e).run P w = .ok z w) (h1 : ∀ u ∈ z.cells.toList, u.oneCell' = true) (b o n c : Nat) (hn : n = 1)
    (hc : ∀ j, j < z.cells.size → (w.cell? ⟨b, o + j, none⟩).isSome = true) (hf : ∀ j, j < z.cells.size → w.frozen? ⟨b, o + j, none⟩ = false) :
    (Builtin.clear_ #[t] ty #[.slice (some ⟨b, o, none⟩) n c]).run P w = .ok (.tuple #[]) (w.setCells b o z.cells.toList) := by
  subst hn
  have hzc : (Builtin.zeroCells z.cells 1).toList = z.cells.toList := by
    simp [Builtin.zeroCells]
    apply List.ext_getElem
    · simp
    · intro i h1 h2
      simp at h1 h2
      simp [Nat.mod_eq_of_lt h2, getElem!_pos, h2]
  have hst := run_storeCells_cells (P := P) b o z.cells.toList 0 w (by simpa using hc) (by simpa using hf) h1
  simp only [Nat.add_zero] at hst
  simp [Builtin.clear_, run_underlying ht, hv, hzc, hst]

def zRp : List Value := [.string ⟨#[]⟩, .string ⟨#[]⟩, .int .i64 0]

/-- one reply is taken out -/
def DelP (B g cap : Nat) (Q : List Rp) (i : Nat) (w : World) (e : Ending) (w' : World) : Prop :=
  e = .returned (.slice (some ⟨g, 0, none⟩) (Q.length - 1) cap) ∧ w'.ownsRow B 59 3 (.slice (some ⟨g, 0, none⟩) (Q.length - 1) cap) (Q.length - 1) ((Q.eraseIdx i).flatMap cRp) ∧ Stp [g] w w'

set_option maxHeartbeats 3200000 in
set_option maxRecDepth 100000 in
theorem del_any (B : Nat) (Q : List Rp) (g cap i j : Nat) (w : World) (hown : w.ownsRow B 59 3 (.slice (some ⟨g, 0, none⟩) Q.length cap) Q.length (Q.flatMap cRp)) (hi : i < Q.length) (hj : j = i + 1) :
    Calls Try.prog 29 #[.slice (some ⟨g, 0, none⟩) Q.length cap, .int .i64 (i : Int), .int .i64 (j : Int)] w (DelP B g cap Q i w) := by
  obtain ⟨i0, hi0, hzz⟩ := Option.map_eq_some_iff.1 infoRp
  simp only [Prod.mk.injEq] at hzz
  obtain ⟨hz0, hz1, hz2⟩ := hzz
  rcases hown.2 with ⟨hv, h0⟩ | ⟨g', cap', cur, hv, hB, hg, hnc, hcm, hcs, htake⟩
  · omega
  injection hv with e1 _ e2
  injection e1 with e1
  injection e1 with e1 _ _
  subst e1
  subst e2
  have hblk : Blk w g 59 cur := hg
  obtain ⟨n, hn⟩ : ∃ n, n = Q.length := ⟨_, rfl⟩
  have hlen : (Q.flatMap cRp).length = Q.length * 3 := flat_len cRp_len Q
  -- the cells that are moved
  obtain ⟨news, hnews⟩ : ∃ news, news = (Q.drop j).flatMap cRp := ⟨_, rfl⟩
  have hnl : news.length = (n - j) * 3 := by rw [hnews, flat_len cRp_len, List.length_drop, hn]
  have hget : ∀ t u, news[t]? = some u → cur[j * 3 + t]? = some u := fun t u hu => by
    have hlt : t < (n - j) * 3 := by rw [← hnl]; exact (List.getElem?_eq_some_iff.1 hu).1
    have hq : (Q.flatMap cRp)[j * 3 + t]? = some u := by
      rw [← List.take_append_drop j Q, List.flatMap_append, List.getElem?_append_right (by rw [flat_len cRp_len, List.length_take]; omega), flat_len cRp_len, List.length_take, show min j Q.length = j by omega, Nat.add_sub_cancel_left, ← hnews]
      exact hu
    rw [← htake, List.getElem?_take_of_lt (by rw [← hn]; omega), Array.getElem?_toList] at hq
    exact hq
  obtain ⟨A, hA, hsrc⟩ : ∃ A : Addr, (if cap = j then some (⟨g, 0, none⟩ : Addr) else some ⟨g, j * 3, none⟩) = some A ∧ Hid (∀ t u, news[t]? = some u → w.drew.cell? (A.add t) = some u) := by
    by_cases h : cap = j
    · refine ⟨⟨g, 0, none⟩, by simp [h], fun t u hu => ?_⟩
      have : t < (n - j) * 3 := by rw [← hnl]; exact (List.getElem?_eq_some_iff.1 hu).1
      omega
    · refine ⟨⟨g, j * 3, none⟩, by simp [h], fun t u hu => ?_⟩
      rw [addr_add]
      show w.cell? _ = _
      rw [hblk.cell]
      exact hget t u hu
  have s1 : Hid (news.length = (n - j) * 3) := hnl
  have s2 : Hid (∀ u ∈ news, u.oneCell' = true) := by rw [hnews]; exact rp_one
  have s3 : Hid (∀ t, t < news.length → (w.drew.cell? ⟨g, 0 + i * 3 + t, none⟩).isSome = true ∧ w.drew.frozen? ⟨g, 0 + i * 3 + t, none⟩ = false) := by
    intro t ht
    refine ⟨?_, hblk.frozen _⟩
    show (w.cell? _).isSome = true
    rw [hblk.cell, Array.getElem?_eq_getElem (by rw [hcs]; omega)]
    rfl
  obtain ⟨W1, hW1⟩ : ∃ W1, W1 = w.drew.setCells g (0 + i * 3) news := ⟨_, rfl⟩
  have hb1 : Blk W1 g 59 (layA cur (0 + i * 3) news) := by rw [hW1]; exact Blk.setCells news _ _ _ hblk
  have hs1 : Stp [g] w W1 := by rw [hW1]; exact Stp.setCells news _ _ (Stp.refl [g] w).drew (by simp)
  have hcl : ∀ ty, (Builtin.clear_ #[44] ty #[.slice (some ⟨g, (i + (n - j)) * 3, none⟩) (n - (i + (n - j))) (cap - (i + (n - j)))]).run Try.prog W1 = .ok (.tuple #[]) (W1.setCells g ((i + (n - j)) * 3) zRp) :=
    fun ty => run_clear_one W1 _ _ ty (.agg zRp.toArray) Try.underlying44 (info_zero infoRp).1 (by simp [zRp, Value.cells, Value.oneCell']) g _ _ _ (by omega)
      (fun t ht => by
        have ht3 : t < 3 := by simpa [zRp, Value.cells] using ht
        rw [hb1.cell, Array.getElem?_eq_getElem (by rw [layA_size, hcs]; omega)]; rfl) (fun t ht => hb1.frozen _)
  have HFIN : Hid (DelP B g cap Q i w (.returned (.slice (some ⟨g, 0, none⟩) (i + (n - j)) cap)) (W1.setCells g ((i + (n - j)) * 3) zRp)) := by
    have hb2 := Blk.setCells zRp ((i + (n - j)) * 3) _ _ hb1
    have e1 : i + (n - j) = Q.length - 1 := by omega
    refine ⟨by rw [e1], ?_, Stp.setCells zRp _ _ hs1 (by simp)⟩
    have hle : (Q.eraseIdx i).length = Q.length - 1 := by rw [List.length_eraseIdx, if_pos hi]
    refine ⟨by rw [flat_len cRp_len, hle], .inr ⟨g, cap, _, rfl, hB, hb2, by omega, hcm, by rw [layA_size, layA_size, hcs], ?_⟩⟩
    have hz3 : zRp.length = 3 := rfl
    have hc1 : cur.toList.length = cap * 3 := by rw [← hcs]; exact Array.length_toList
    have hc2 : (layA cur (0 + i * 3) news).toList.length = cap * 3 := by rw [← hcs, ← layA_size news cur (0 + i * 3)]; exact Array.length_toList
    rw [layA_list _ _ _ (by rw [layA_size, hcs, hz3]; omega), List.append_assoc, List.take_append_of_le_length (by rw [List.length_take, hc2]; omega), e1, List.take_take, Nat.min_self, layA_list _ _ _ (by rw [hnl, hcs]; omega), List.take_append_of_le_length (by rw [List.length_append, List.length_take, hc1, hnl]; omega), List.take_of_length_le (by rw [List.length_append, List.length_take, hc1, hnl]; omega), hnews, List.eraseIdx_eq_take_drop_succ, List.flatMap_append, ← hj, Nat.zero_add]
    congr 1
    have h2 : (cur.toList.take (n * 3)).take (i * 3) = cur.toList.take (i * 3) := by rw [List.take_take]; congr 1; omega
    rw [← h2, hn, htake, ← List.take_append_drop i Q, List.flatMap_append, List.take_append_of_le_length (by rw [flat_len cRp_len, List.length_take]; omega), List.take_of_length_le (by rw [flat_len cRp_len, List.length_take]; omega)]
    simp
  have hW : Hid (W1 = w.drew.setCells g (0 + i * 3) news) := hW1
  rw [← hn] at hi hnc ⊢
  have hne : ((i : Int) == (j : Int)) = false := by rw [beq_eq_false_iff_ne]; omega
  have hij : (i : Int) ≤ (j : Int) := by omega
  have hjn : (j : Int) ≤ (n : Int) := by omega
  have hic : i ≤ cap := by omega
  have hnq : ¬ cap = i + (n - j) := by omega
  have hjc : j ≤ cap := by omega
  have hcap : cap ≤ 9223372036854775807 := by unfold maxLen at hcm; omega
  clear hown hB hg hcm hcs htake hblk hlen hnews hnl hget hW1 hb1 hs1 hn hj
  go_enter Try.func29, Try.ntmps29
  go_wp2_with fail
  go_region_law (refine step_append_room rfl (.tmp 22) (.tmp 25) 44 rfl 59 i0 3 Try.underlying44 hi0 hz1 g 0 i cap (by simp [Act.eval, Act.put]) A (n - j) (cap - j) news (by simp [Act.eval, Act.put]) s1.out hsrc.out s2.out (by omega) s3.out ?_; rw [← hW.out])
  go_wp2
  go_ret
  exact HFIN.out
end Go.Proofs.Ytdahgmkbpiklpaa
