/-
  Contract of block.Pack.
-/
import Derived.Test.YtbpklikmldpeiaaBlkCMA
namespace Go.Proofs.Ytbpklikmldpeiaa
open Go.RowKit

/-- how many blocks so many bytes need -/
def cnt (n : Nat) : Nat := (n + 48) / 49
/-- a record's bytes in its block at a place -/
def dat (p : List UInt8) (k : Nat) : List UInt8 := (p.drop (k * 49)).take 49
/-- a record's block at a place -/
def blkAt (number : Nat) (p : List UInt8) (k : Nat) : List UInt8 := blkL number k (cnt p.length) (dat p k)
/-- a record's blocks -/
def blks (number : Nat) (p : List UInt8) : List (List UInt8) := (List.range (cnt p.length)).map (blkAt number p)

theorem blks_length (number : Nat) (p : List UInt8) : (blks number p).length = cnt p.length := by simp [blks]

/-- is there such a record -/
def recOK (number : Int) (p : List UInt8) : Prop := 0 ≤ number ∧ number ≤ 4294967294 ∧ 1 ≤ p.length ∧ p.length ≤ 12495

theorem dat_length (p : List UInt8) (k : Nat) : (dat p k).length = min 49 (p.length - k * 49) := by simp [dat]

set_option maxHeartbeats 1000000 in
theorem pack_no (number : Int) (p : List UInt8) (w : World) (hl : p.length ≤ 100000000) (h : ¬ recOK number p) :
    Calls Try.prog 33 #[.int .i64 number, .string (st p)] w fun e w' => e = .returned (.tuple #[.slice none 0 0, .int .i64 1]) ∧ w = w' := by
  have hsz := st_size p
  by_cases hn : 0 ≤ number ∧ number ≤ 4294967294
  · have H1 := Lib.hid (isNum_yes number w hn.1 hn.2)
    have h2 : p.length = 0 ∨ 12495 < p.length := by
      rcases Nat.eq_zero_or_pos p.length with h0 | h0
      · exact .inl h0
      · exact .inr (Nat.lt_of_not_le fun h3 => h ⟨hn.1, hn.2, h0, h3⟩)
    obtain ⟨n, hnn⟩ : ∃ n, n = p.length := ⟨_, rfl⟩
    rw [← hnn] at hsz h2 hl
    clear h hn hnn
    rcases h2 with h0 | h0
    · subst h0
      go_enter Try.func33, Try.ntmps33
      go_wp2_with fail
      refine H1.out.mono ?_
      rintro e w1 ⟨rfl, rfl⟩
      go_wp2
      go_ret2
      exact ⟨rfl, rfl⟩
    · go_enter Try.func33, Try.ntmps33
      go_wp2_with fail
      refine H1.out.mono ?_
      rintro e w1 ⟨rfl, rfl⟩
      have t1 : ¬ (((n : Int) + 49 - 1) / 49 < 1) := by omega
      have t2 : (255 : Int) < ((n : Int) + 49 - 1) / 49 := by omega
      go_wp2
      go_ret2
      exact ⟨rfl, rfl⟩
  · have H1 := Lib.hid (isNum_no number w hn)
    obtain ⟨n, hnn⟩ : ∃ n, n = p.length := ⟨_, rfl⟩
    rw [← hnn] at hsz hl
    clear h hn hnn
    go_enter Try.func33, Try.ntmps33
    go_wp2_with fail
    refine H1.out.mono ?_
    rintro e w1 ⟨rfl, rfl⟩
    go_wp2
    go_ret2
    exact ⟨rfl, rfl⟩

/-- the row of blocks, the first k of which are laid -/
def laidB (number : Nat) (p : List UInt8) (k : Nat) : List Value := sv ((List.range k).map (blkAt number p)) ++ List.replicate (cnt p.length - k) (.string ⟨#[]⟩)

theorem laidB_length (number : Nat) (p : List UInt8) (k : Nat) (h : k ≤ cnt p.length) : (laidB number p k).length = cnt p.length := by
  unfold laidB; rw [List.length_append, sv_length, List.length_map, List.length_range, List.length_replicate]; omega

theorem laidB_step (number : Nat) (p : List UInt8) (k : Nat) (h : k < cnt p.length) : (laidB number p k).set k (.string (st (blkAt number p k))) = laidB number p (k + 1) := by
  unfold laidB
  have hl : (sv ((List.range k).map (blkAt number p))).length = k := by simp [sv]
  rw [List.set_append_right _ _ (by omega), hl, Nat.sub_self, show cnt p.length - k = (cnt p.length - (k + 1)) + 1 by omega, List.replicate_succ, List.set_cons_zero, List.range_succ]
  simp [sv]

theorem laidB_all (number : Nat) (p : List UInt8) : laidB number p (cnt p.length) = sv (blks number p) := by
  unfold laidB blks; rw [Nat.sub_self]; simp

theorem grown_none {w w' : World} (h : Below w.heap.size w w') : w.grownBy w' none := ⟨h.os, h.tape, h.output, h.size, fun k hk _ => h.block k hk⟩

set_option maxHeartbeats 2000000 in
set_option maxRecDepth 100000 in
theorem pack_yes (number : Nat) (p : List UInt8) (w : World) (h : recOK number p) :
    Calls Try.prog 33 #[.int .i64 number, .string (st p)] w fun e w' => ∃ g, e = .returned (.tuple #[.slice (some ⟨g, 0, none⟩) (cnt p.length) (cnt p.length), .int .i64 0]) ∧ Below w.heap.size w w' ∧ w'.ownsRow w.heap.size 9 1 (.slice (some ⟨g, 0, none⟩) (cnt p.length) (cnt p.length)) (cnt p.length) (sv (blks number p)) := by
  obtain ⟨hn0, hn1, hp1, hp2⟩ := h
  have hsz := st_size p
  have H1 := Lib.hid (isNum_yes number w hn0 hn1)
  obtain ⟨n, hnn⟩ : ∃ n, n = p.length := ⟨_, rfl⟩
  rw [← hnn] at hsz hp1 hp2 ⊢
  have HN := Lib.hid hnn
  obtain ⟨c, hc⟩ : ∃ c, c = cnt n := ⟨_, rfl⟩
  have hcv : ((n : Int) + 49 - 1) / 49 = (c : Int) := by rw [hc]; unfold cnt; omega
  have hc1 : 1 ≤ c := by rw [hc]; unfold cnt; omega
  have hc2 : c ≤ 255 := by rw [hc]; unfold cnt; omega
  have hcn : n ≤ c * 49 ∧ (c - 1) * 49 < n := by rw [hc]; unfold cnt; omega
  have HC := Lib.hid hc
  rw [← hc]
  clear hc hnn
  obtain ⟨i0, hi, hz0, hz1, hz2⟩ := info_parts infoStr
  obtain ⟨w1, hmk, hown, hgr⟩ := run_make_full (P := Try.prog) w w.heap.size 22 9 i0 (.string ⟨#[]⟩) 1 Try.underlying22 hi hz0 hz1 .i64 .i64 c (by rw [hz2]; omega) (by unfold maxLen; omega) (Nat.le_refl _)
  have e0 : (madeCells (Value.string ⟨#[]⟩).cells (c * 1)).toList = laidB number p 0 := by
    rw [Nat.mul_one]
    exact (toList_madeCells_one (.string ⟨#[]⟩) c).trans (by unfold laidB; rw [HC.out, HN.out]; simp [sv])
  rw [e0] at hown
  obtain ⟨B, hB⟩ : ∃ B, B = w.heap.size := ⟨_, rfl⟩
  have HB1 := Lib.hid (below_of_grown hgr (Nat.le_refl _) (fun k hk => by cases hk))
  rw [← hB] at hmk hown HB1 ⊢
  have HO := Lib.hid hown
  have HBS : Hid (B ≤ w.heap.size) := by show B ≤ _; omega
  clear e0 hown hgr hi hz0 hz1 hz2 hB
  go_enter Try.func33, Try.ntmps33
  go_wp2_with fail
  refine H1.out.mono ?_
  rintro e w2 ⟨rfl, rfl⟩
  go_wp2
  clear hmk
  go_loopg [8, 9, 30] c (fun gk _ _ i wr => ∃ k : Nat, k ≤ c ∧ i = .int .i64 k ∧ c - k ≤ gk ∧ Hid (wr.ownsRow B 9 1 (.slice (some ⟨B, 0, none⟩) c c) c (laidB number p k)) ∧ Hid (Below B w wr))
  case atStart => exact ⟨0, Nat.zero_le _, rfl, by omega, HO.out, HB1.out⟩
  case round =>
    obtain ⟨k, hk, rfl, hgk, HR, HW⟩ := hrel
    by_cases hlt : k < c
    · have hkc : k < cnt p.length := by rw [← HN.out, ← HC.out]; exact hlt
      have hd := dat_length p k
      rw [← HN.out] at hd
      obtain ⟨m, hm⟩ : ∃ m, m = (dat p k).length := ⟨_, rfl⟩
      rw [← hm] at hd
      have hmin : min (n : Int) (((k : Int) + 1) * 49) = (k : Int) * 49 + (m : Int) := by omega
      have hkm : k * 49 + m ≤ n := by omega
      have hex : (st p).extract (k * 49) (k * 49 + m) = st (dat p k) := by
        rw [st_extract]
        unfold dat
        rw [show k * 49 + m - k * 49 = m by omega, hm]
        unfold dat
        rw [List.length_take]
        congr 1
        rw [List.take_eq_take_iff]
        omega
      have H2 := Lib.hid (blockOf_any number k c (dat p k) wr (by omega) (by omega))
      have HK := Lib.hid hkc
      have hfz := HR.out.frozenAt k
      clear hd hm hkc
      go_wp2_with fail
      refine H2.out.mono ?_
      rintro e w2 ⟨rfl, hb2⟩
      have hR2 := HR.out.kept (grown_none hb2) (Or.inr (by simp [Value.ownBlock]))
      have HW2 := Lib.hid (HW.out.trans (hb2.mono (Nat.le_trans HBS.out HW.out.size)))
      have hfz2 := hR2.frozenAt k
      obtain ⟨v0, hv0⟩ := own_cell hR2 (by rw [laidB_length _ _ _ (by have := HK.out; omega)]; exact HK.out)
      have hst := hR2.stored k (.string (st (blkAt number p k)))
      rw [laidB_step number p k HK.out] at hst
      unfold blkAt at hst
      rw [← HN.out, ← HC.out] at hst
      have HS1 := Lib.hid hst.1
      have HS2 := Lib.hid (HW2.out.grown hst.2 (Nat.le_trans HBS.out HW2.out.size) (fun g hg => by injection hg with hg; omega))
      clear hst hR2 hb2 H2 hfz
      go_wp2
      go_roundg (c - (k + 1))
      case measure => omega
      case rel => exact ⟨k + 1, by omega, by go_num, by omega, HS1.out, HS2.out⟩
    · have e : k = c := by omega
      subst e
      have hR := HR.out
      rw [show k = cnt p.length by rw [← HN.out, ← HC.out], laidB_all, ← HN.out, ← HC.out] at hR
      have HR2 := Lib.hid hR
      clear hgk hR
      go_wp2
      go_ret2
      exact ⟨B, rfl, HW.out, HR2.out⟩
end Go.Proofs.Ytbpklikmldpeiaa
