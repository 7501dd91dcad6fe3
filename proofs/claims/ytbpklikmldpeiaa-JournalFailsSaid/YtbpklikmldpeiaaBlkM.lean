/-
  A record's block at a place: its length, its byte of length.
-/
import Derived.Test.YtbpklikmldpeiaaBlkG
namespace Go.Proofs.Ytbpklikmldpeiaa
open Go.RowKit

theorem blkAt_length (number : Nat) (p : List UInt8) (k : Nat) : (blkAt number p k).length = 64 := blkL_length _ _ _ _ (by rw [dat_length]; omega)
theorem blkAt_get6 (number : Nat) (p : List UInt8) (k : Nat) : ((blkAt number p k).getD 6 0).toNat = min 49 (p.length - k * 49) := by
  unfold blkAt
  rw [blkL_get6 _ _ _ _ (by rw [dat_length]; omega), dat_length]

theorem blks_get (number : Nat) (p : List UInt8) (k : Nat) (h : k < cnt p.length) : (blks number p)[k]? = some (blkAt number p k) := by
  unfold blks; rw [List.getElem?_map, List.getElem?_range h]; rfl
end Go.Proofs.Ytbpklikmldpeiaa
