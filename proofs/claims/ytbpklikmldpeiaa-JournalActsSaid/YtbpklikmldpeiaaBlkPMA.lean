/-
  Plain lemmas for layer 4: the sum of bytes, a block's bytes.
-/
import Derived.Test.YtbpklikmldpeiaaMA01
import Derived.WalkKit
import Derived.Laws.Bits64
import Derived.Laws.Closers25b
namespace Go.Proofs.Ytbpklikmldpeiaa
open Go.RowKit

/-- half of a number, turned if it was odd -/
def sHalf (n : Int) : Int := if n % 2 = 1 then bits .xor .u32 (n / 2) 3988292384 else n / 2
def sTimes : Nat → Int → Int
  | 0, n => n
  | k + 1, n => sHalf (sTimes k n)
def sByte (n : Int) (b : UInt8) : Int := sTimes 8 (bits .xor .u32 n (b.toNat : Int))
def sAll (l : List UInt8) : Int := l.foldl sByte 4294967295
/-- the sum of bytes -/
def sumI (l : List UInt8) : Int := bits .xor .u32 (sAll l) 4294967295

/-- thirty-two bits -/
def W32 (n : Int) : Prop := 0 ≤ n ∧ n ≤ 4294967295
theorem W32.bits (a b : Int) : W32 (bits .xor .u32 a b) := ⟨bits_lo_u32 _ _ _, bits_hi_u32 _ _ _⟩
theorem W32.half {n : Int} (h : W32 n) : W32 (sHalf n) := by
  unfold sHalf; split
  · exact W32.bits _ _
  · obtain ⟨h0, h1⟩ := h; exact ⟨by omega, by omega⟩
theorem W32.times {n : Int} (h : W32 n) : ∀ k, W32 (sTimes k n)
  | 0 => h
  | k + 1 => (W32.times h k).half
theorem W32.byte (n : Int) (b : UInt8) : W32 (sByte n b) := (W32.bits _ _).times 8
theorem W32.all (l : List UInt8) : W32 (sAll l) := by
  rcases List.eq_nil_or_concat l with rfl | ⟨r, b, rfl⟩
  · exact ⟨by decide, by decide⟩
  · unfold sAll; rw [List.concat_eq_append, List.foldl_append]; exact W32.byte _ _
theorem W32.sum (l : List UInt8) : W32 (sumI l) := W32.bits _ _

theorem sAll_succ (l : List UInt8) (k : Nat) (h : k < l.length) : sAll (l.take (k + 1)) = sByte (sAll (l.take k)) l[k] := by
  unfold sAll; rw [List.take_succ_eq_append_getElem h, List.foldl_append]; rfl

theorem not_u32 (n : Int) : bits .xor .u32 IntKind.u32.max n = bits .xor .u32 n 4294967295 := by
  show IntKind.u32.wrap ((BitVec.ofInt 32 IntKind.u32.max ^^^ BitVec.ofInt 32 n).toNat : Int) = IntKind.u32.wrap ((BitVec.ofInt 32 n ^^^ BitVec.ofInt 32 4294967295).toNat : Int)
  rw [BitVec.xor_comm]
  rfl
end Go.Proofs.Ytbpklikmldpeiaa
