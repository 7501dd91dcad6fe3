/-
  The program's disk, apart from other blocks; writes of distinct blocks, plain; the closure of souklaw05.DiskSynced.
-/
import Derived.Test.YthckcbnendjmpaaDkTwo
import Derived.Test.YthckcbnendjmpaaDkS
namespace Go.Proofs.Ythckcbnendjmpaa
open Go.RowKit Go.Lib

/-- the disk, apart from other blocks that are known -/
def One (W w : World) (B pb : Nat) (S : DS) (ot : List (Nat × Obj)) : Prop :=
  ∃ fp, PD w B pb S fp ∧ Below B W w ∧ B ≤ W.heap.size ∧ ∀ x ∈ ot, w.heap[x.1]? = some x.2 ∧ x.1 ∉ fp

theorem One.since {W w w' : World} {B pb : Nat} {S : DS} {ot : List (Nat × Obj)} (h : One W w B pb S ot) (hb : Below w.heap.size w w') : One W w' B pb S ot := by
  obtain ⟨fp, hp, hB, hW, ho⟩ := h
  refine ⟨fp, hp.since hb, hB.trans (hb.mono (Nat.le_trans hW hB.size)), hW, fun x hx => ?_⟩
  obtain ⟨h1, h2⟩ := ho x hx
  exact ⟨(hb.block x.1 (Array.getElem?_eq_some_iff.1 h1).1).trans h1, h2⟩
theorem One.drewN {W w : World} {B pb : Nat} {S : DS} {ot : List (Nat × Obj)} (h : One W w B pb S ot) (n : Nat) : One W (w.drewN n) B pb S ot := h.since ⟨rfl, rfl, rfl, Nat.le_refl _, fun _ _ => rfl⟩
theorem One.below {W w : World} {B pb : Nat} {S : DS} {ot : List (Nat × Obj)} (h : One W w B pb S ot) : Below B W w := by
  obtain ⟨fp, hp, hB, hW, ho⟩ := h
  exact hB
theorem One.other {W w : World} {B pb : Nat} {S : DS} {ot : List (Nat × Obj)} (h : One W w B pb S ot) {H : Nat} {cs : Array Value} {t : TypeId} (hm : (H, Obj.cells cs t (0, 0)) ∈ ot) : Blk w H t cs := by
  obtain ⟨fp, hp, hB, hW, ho⟩ := h
  exact (ho _ hm).1
theorem One.step {W w : World} {B pb : Nat} {S S' : DS} {ot : List (Nat × Obj)} {P : Program} {f : Nat} {args : Array Value} {E : Ending} (h : One W w B pb S ot)
    (hc : ∀ fp, PD w B pb S fp → (∀ k ∈ fp, B ≤ k) → Calls P f args w fun e w' => e = E ∧ After fp w w' (PD w' B pb S')) : Calls P f args w fun e w' => e = E ∧ One W w' B pb S' ot := by
  obtain ⟨fp, hp, hB, hW, ho⟩ := h
  refine (hc fp hp (fun k hk => (hp.lt k hk).1)).mono ?_
  rintro e w' ⟨rfl, fp', hp', hs, hf⟩
  have hWB := Nat.le_trans hW hB.size
  refine ⟨rfl, fp', hp', hB.trans (hs.below (fun k hk => (hp.lt k hk).1) hWB), hW, fun x hx => ?_⟩
  obtain ⟨h1, h2⟩ := ho x hx
  have hlt := (Array.getElem?_eq_some_iff.1 h1).1
  refine ⟨(hs.block x.1 hlt h2).trans h1, fun hm => ?_⟩
  rcases hf _ hm with h | h
  · exact h2 h
  · omega

section
variable {W w : World} {B pb : Nat} {S : DS} {ot : List (Nat × Obj)}
theorem one_write (h : One W w B pb S ot) (k : Int) (d : List UInt8) (hroom : Room S.pe.length) :
    Calls Try.prog 9 #[.pointer (some ⟨pb, 0, none⟩), .int .i64 k, .string (st d)] w fun e w' => e = .returned (.int .i64 (S.write k d).2) ∧ One W w' B pb (S.write k d).1 ot :=
  h.step fun fp hp _ => write_any B pb S fp k d w hp hroom
theorem one_sync (h : One W w B pb S ot) (hroom : Room S.pe.length) :
    Calls Try.prog 11 #[.pointer (some ⟨pb, 0, none⟩)] w fun e w' => e = .returned (.int .i64 S.sync.2) ∧ One W w' B pb S.sync.1 ot :=
  h.step fun fp hp _ => sync_any B pb S fp w hp (room_le hroom)
theorem one_restart (h : One W w B pb S ot) (a : Option Addr) (c : Nat) (keep : List Nat) (hroom : Room S.pe.length) (hkl : keep.length ≤ 4611686018427387904) (hrow : RowN w a keep) (hlt : 0 < keep.length → ∀ A, a = some A → A.block < B) :
    Calls Try.prog 16 #[.pointer (some ⟨pb, 0, none⟩), .slice a keep.length c] w fun e w' => e = .returned (.tuple #[]) ∧ One W w' B pb (S.restart keep) ot :=
  h.step fun fp hp hB => restart_any B pb S fp a c keep w hp (room_le hroom) hkl hrow (fun h0 A hA hm => by have := hB _ hm; have := hlt h0 A hA; omega)

/-- All's row, known whole -/
theorem one_all (h : One W w B pb S ot) : Calls Try.prog 21 #[.pointer (some ⟨pb, 0, none⟩)] w fun e w' =>
    ∃ (g : Nat) (cur : Array Value), e = .returned (.slice (some ⟨g, 0, none⟩) S.bl.length S.bl.length) ∧ One W w' B pb S ((g, .cells cur 9 (0, 0)) :: ot) ∧ ∀ (i : Nat) (x : List UInt8), S.bl[i]? = some x → cur[i]? = some (Value.string (st x)) := by
  have h' := h
  obtain ⟨fp, hp, hB, hW, ho⟩ := h'
  refine (all_any B pb S fp w hp).mono ?_
  rintro e w' ⟨g, n, rfl, rfl, hown, hb⟩
  obtain ⟨cur, hcur⟩ := own_blk_of2 hown (k := g) rfl
  have hge := (hown.lt g rfl).1
  have h2 := h.since hb
  refine ⟨g, cur, rfl, ?_, fun i x hx => ?_⟩
  · refine ⟨fp, hp.since hb, hB.trans (hb.mono (Nat.le_trans hW hB.size)), hW, fun x hx => ?_⟩
    rcases List.mem_cons.1 hx with rfl | hx
    · exact ⟨hcur, fun hm => by have h9 := (hp.lt _ hm).2; simp only at h9; omega⟩
    · obtain ⟨h1, h2⟩ := ho x hx
      exact ⟨(hb.block x.1 (Array.getElem?_eq_some_iff.1 h1).1).trans h1, h2⟩
  · have := hown.cells (g := g) rfl i _ (sv_get hx)
    rw [Addr.add_mid, Nat.zero_add, hcur.cell i] at this
    exact this
end

/-! writes of distinct blocks -/

def cutL (l : List UInt8) : List UInt8 := dots (l.take 64)
theorem cutL_length (l : List UInt8) : (cutL l).length = 64 := dots_length _ (by rw [List.length_take]; omega)

def pw (ls : List (List UInt8)) (k : Nat) : List (Nat × List UInt8) := (List.range k).map fun i => (i, cutL (ls.getD i []))
theorem pw_length (ls : List (List UInt8)) (k : Nat) : (pw ls k).length = k := by simp [pw]
theorem pw_succ (ls : List (List UInt8)) (k : Nat) : pw ls (k + 1) = pw ls k ++ [(k, cutL (ls.getD k []))] := by simp [pw, List.range_succ]
theorem pw_get (ls : List (List UInt8)) {k i : Nat} (h : i < k) : (pw ls k).getD i (0, []) = (i, cutL (ls.getD i [])) := by
  rw [List.getD_eq_getElem?_getD, pw, List.getElem?_map, List.getElem?_range h]; rfl

theorem write_fine (bl : List (List UInt8)) (pe : List (Nat × List UInt8)) (k : Nat) (d : List UInt8) (hk : k < bl.length) (hd : d.length = 64) :
    (DS.mk bl pe (-1) false).write (k : Nat) d = (⟨bl, pe ++ [(k, d)], -1, false⟩, 0) := by
  have hr : (DS.mk bl pe (-1) false).refusal (k : Nat) = 0 := by
    unfold DS.refusal
    rw [if_neg (by simp), if_neg (by simp only; omega)]
  unfold DS.write
  rw [if_neg (by rw [hr]; decide), if_neg (by simpa using hd), Int.toNat_natCast]
  rfl
theorem sync_fine (bl : List (List UInt8)) (pe : List (Nat × List UInt8)) : (DS.mk bl pe (-1) false).sync = (⟨settleN bl pe (fun _ => 64) pe.length, [], -1, false⟩, 0) := rfl

theorem settle_pw (bl : List (List UInt8)) (ls : List (List UInt8)) (L : Nat) (kf : Nat → Nat) : ∀ n, n ≤ L → L ≤ bl.length → ∀ i x, bl[i]? = some x →
    (settleN bl (pw ls L) kf n)[i]? = some (if i < n then (cutL (ls.getD i [])).take (kf i) ++ x.drop (kf i) else x)
  | 0, _, _, i, x, hx => by rw [settleN, if_neg (by omega)]; exact hx
  | n + 1, hn, hL, i, x, hx => by
    have ih := settle_pw bl ls L kf n (by omega) hL
    have hi := (List.getElem?_eq_some_iff.1 hx).1
    rw [settleN, pw_get ls (by omega), settle1]
    by_cases e : n = i
    · subst e
      have h1 := ih n x hx
      rw [if_neg (by omega)] at h1
      have hg : (settleN bl (pw ls L) kf n).getD n [] = x := by rw [List.getD_eq_getElem?_getD, h1]; rfl
      rw [List.getElem?_set_self (by rw [settleN_length]; exact hi), if_pos (by omega), hg]
    · rw [List.getElem?_set_ne e, ih i x hx]
      by_cases h2 : i < n
      · rw [if_pos h2, if_pos (by omega)]
      · rw [if_neg h2, if_neg (by omega)]

set_option maxHeartbeats 1000000 in
theorem cut_any (l : List UInt8) (w : World) (hl : l.length ≤ 9223372036854775807) :
    Calls Try.prog 22 #[.string (st l)] w fun e w' => e = .returned (.string (st (cutL l))) ∧ Below w.heap.size w w' := by
  have hs := st_size l
  obtain ⟨n, hn⟩ : ∃ n, n = l.length := ⟨_, rfl⟩
  have HN := Lib.hid hn
  rw [← hn] at hs hl
  clear hn
  by_cases h : n ≤ 64
  · have hi : min (n : Int) 64 = (n : Int) := by omega
    have hx : (st l).extract 0 n = st l := by rw [st_extract, List.drop_zero, Nat.sub_zero, List.take_of_length_le (by rw [← HN.out]; exact Nat.le_refl _)]
    have H1 : Hid (Calls Try.prog 23 #[.string (st l)] w fun e w' => e = .returned (.string (st (cutL l))) ∧ Below w.heap.size w w') := by
      have := block5_any l w (by rw [← HN.out]; exact h)
      rw [show cutL l = dots l by rw [cutL, List.take_of_length_le (by rw [← HN.out]; exact h)]]
      exact this
    go_enter Try.func22, Try.ntmps22
    go_wp2_with fail
    refine H1.out.mono ?_
    rintro e w1 ⟨rfl, hb⟩
    have HB := Lib.hid hb
    clear hb H1
    go_wp2
    go_ret
    exact ⟨rfl, HB.out⟩
  · have hi : min (n : Int) 64 = 64 := by omega
    have hi2 : (64 : Int) ≤ (n : Int) := by omega
    have hi3 : 64 ≤ n := by omega
    have hx : (st l).extract 0 64 = st (l.take 64) := by rw [st_extract]; rfl
    have H1 := Lib.hid (block5_any (l.take 64) w (by rw [List.length_take]; omega))
    go_enter Try.func22, Try.ntmps22
    go_wp2_with fail
    refine H1.out.mono ?_
    rintro e w1 ⟨rfl, hb⟩
    have HB := Lib.hid hb
    clear hb H1
    go_wp2
    go_ret
    exact ⟨rfl, HB.out⟩
end Go.Proofs.Ythckcbnendjmpaa
