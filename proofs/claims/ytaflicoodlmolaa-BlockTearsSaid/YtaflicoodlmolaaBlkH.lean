/-
  Contract of souklaw04.lives.
-/
import Derived.Test.YtaflicoodlmolaaBlkG
namespace Go.Proofs.Ytaflicoodlmolaa
open Go.RowKit

theorem repeat_a (c : Nat) : Lib.repeatL [97] c = List.replicate c (97 : UInt8) := by
  induction c with
  | zero => rfl
  | succ n ih => simp [Lib.repeatL, List.replicate_succ, ih]

def p50 : List UInt8 := List.replicate 50 97
theorem p50_length : p50.length = 50 := by simp [p50]
theorem p50_ok : recOK ((7 : Nat) : Int) p50 := ⟨by omega, by omega, by rw [p50_length]; omega, by rw [p50_length]; omega⟩

theorem blkAt_length (number : Nat) (p : List UInt8) (k : Nat) : (blkAt number p k).length = 64 := blkL_length _ _ _ _ (by rw [dat_length]; omega)
theorem blkAt_get6 (number : Nat) (p : List UInt8) (k : Nat) : ((blkAt number p k).getD 6 0).toNat = min 49 (p.length - k * 49) := by
  unfold blkAt
  rw [blkL_get6 _ _ _ _ (by rw [dat_length]; omega), dat_length]

theorem blks_get (number : Nat) (p : List UInt8) (k : Nat) (h : k < cnt p.length) : (blks number p)[k]? = some (blkAt number p k) := by
  unfold blks; rw [List.getElem?_map, List.getElem?_range h]; rfl

set_option maxHeartbeats 1000000 in
theorem lives4_any (w : World) : Calls Try.prog 6 #[] w fun e w' => e = .returned (.bool true) ∧ Below w.heap.size w w' := by
  have H1 : Hid (Calls Try.prog 13 #[.string ⟨#[97]⟩, .int .i64 50] w fun e w' => e = .returned (.string (st p50)) ∧ Below w.heap.size w w') := by
    refine (Try.strings_Repeat ⟨#[97]⟩ 50 w (by omega) (by show 1 * 50 ≤ _; omega)).mono ?_
    rintro e w' ⟨rfl, hb⟩
    refine ⟨?_, hb⟩
    rw [show (⟨#[97]⟩ : ByteArray).data.toList = [97] from rfl, repeat_a]
    rfl
  go_enter Try.func6, Try.ntmps6
  go_wp2_with fail
  refine H1.out.mono ?_
  rintro e w1 ⟨rfl, hb1⟩
  have HB1 := Lib.hid hb1
  have H2 := pack_yes 7 p50 w1 p50_ok
  rw [p50_length, show cnt 50 = 2 from rfl] at H2
  have H2 := Lib.hid H2
  clear hb1 H1
  go_wp2_with fail
  refine H2.out.mono ?_
  rintro e w2 ⟨g, rfl, hb2, hown⟩
  have HB2 := Lib.hid (HB1.out.trans (hb2.mono HB1.out.size))
  have c0 : w2.cell? ⟨g, 0, none⟩ = some (.string (st (blkAt 7 p50 0))) := hown.cells (g := g) rfl 0 _ (by rw [sv, List.getElem?_map, blks_get 7 p50 0 (by rw [p50_length]; decide)]; rfl)
  have c1 : w2.cell? ⟨g, 1, none⟩ = some (.string (st (blkAt 7 p50 1))) := hown.cells (g := g) rfl 1 _ (by rw [sv, List.getElem?_map, blks_get 7 p50 1 (by rw [p50_length]; decide)]; rfl)
  have s0 : (st (blkAt 7 p50 0)).size = 64 := by rw [st_size, blkAt_length]
  have s1 : (st (blkAt 7 p50 1)).size = 64 := by rw [st_size, blkAt_length]
  have g0 := st_at (blkAt 7 p50 0) 6 (by rw [s0]; omega)
  have g1 := st_at (blkAt 7 p50 1) 6 (by rw [s1]; omega)
  rw [blkAt_get6, p50_length] at g0 g1
  clear hb2 H2 hown
  go_wp2
  go_ret
  exact ⟨rfl, HB2.out⟩
end Go.Proofs.Ytaflicoodlmolaa
