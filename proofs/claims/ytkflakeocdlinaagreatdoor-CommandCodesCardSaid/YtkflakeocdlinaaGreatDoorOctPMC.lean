/-
  Plain lemmas on numbers as bytes, the lowest first.
-/
import Derived.Lib.Strings
namespace Go.Proofs.YtkflakeocdlinaaGreatDoor

/-- a number's lowest bytes, n of them -/
def lowL : Nat → Nat → List UInt8
  | 0, _ => []
  | n + 1, x => UInt8.ofNat (x % 256) :: lowL n (x / 256)

/-- the number of bytes -/
def numL : List UInt8 → Nat
  | [] => 0
  | b :: r => b.toNat + 256 * numL r

theorem lowL_length : ∀ (n x : Nat), (lowL n x).length = n
  | 0, _ => rfl
  | n + 1, x => by rw [lowL, List.length_cons, lowL_length n]

theorem lowL_snoc : ∀ (n x : Nat), lowL (n + 1) x = lowL n x ++ [UInt8.ofNat (x / 256 ^ n % 256)]
  | 0, x => by simp [lowL]
  | n + 1, x => by
    have h := lowL_snoc n (x / 256)
    rw [lowL, h, lowL, Nat.div_div_eq_div_mul, ← Nat.pow_succ']
    rfl

theorem numL_lt : ∀ (l : List UInt8), numL l < 256 ^ l.length
  | [] => by simp [numL]
  | b :: r => by
    have h := numL_lt r
    have hb : b.toNat < 256 := b.toNat_lt
    rw [numL, List.length_cons, Nat.pow_succ]
    omega

theorem numL_append : ∀ (a b : List UInt8), numL (a ++ b) = numL a + 256 ^ a.length * numL b
  | [], b => by simp [numL]
  | x :: a, b => by
    rw [List.cons_append, numL, numL, numL_append a b, List.length_cons, Nat.pow_succ, Nat.mul_add, ← Nat.mul_assoc, Nat.mul_comm (256 ^ a.length) 256]
    omega

theorem numL_lowL : ∀ (n x : Nat), x < 256 ^ n → numL (lowL n x) = x
  | 0, x, h => by simp at h; rw [h]; rfl
  | n + 1, x, h => by
    rw [lowL, numL, numL_lowL n (x / 256) (by rw [Nat.pow_succ] at h; omega), UInt8.toNat_ofNat']
    omega

theorem shr_pow (x k : Nat) : x / 2 ^ (8 * k) = x / 256 ^ k := by rw [Nat.pow_mul]

theorem lowL_8 (x : Nat) : lowL 8 x = [UInt8.ofNat (x % 256), UInt8.ofNat (x / 256 % 256), UInt8.ofNat (x / 256 / 256 % 256), UInt8.ofNat (x / 256 / 256 / 256 % 256), UInt8.ofNat (x / 256 / 256 / 256 / 256 % 256), UInt8.ofNat (x / 256 / 256 / 256 / 256 / 256 % 256), UInt8.ofNat (x / 256 / 256 / 256 / 256 / 256 / 256 % 256), UInt8.ofNat (x / 256 / 256 / 256 / 256 / 256 / 256 / 256 % 256)] := rfl

/-- an or of a number and one whose lower places are nothing is their sum -/
theorem or_shift (a b k : Nat) (h : a < 256 ^ k) : a ||| (b * 256 ^ k) = a + 256 ^ k * b := by
  have e : 256 ^ k = 2 ^ (8 * k) := by rw [Nat.pow_mul]
  rw [e] at h ⊢
  rw [Nat.or_comm, ← Nat.shiftLeft_eq, ← Nat.shiftLeft_add_eq_or_of_lt h, Nat.shiftLeft_eq, Nat.mul_comm, Nat.add_comm]

/-- a list's values, as bytes -/
def bv (l : List UInt8) : List Value := l.map fun b => Value.int .u8 (b.toNat : Int)

theorem bv_length (l : List UInt8) : (bv l).length = l.length := by simp [bv]
theorem bv_append (a b : List UInt8) : bv (a ++ b) = bv a ++ bv b := by simp [bv]

/-- a string of bytes -/
def st (l : List UInt8) : ByteArray := ⟨l.toArray⟩
theorem st_size (l : List UInt8) : (st l).size = l.length := by simp [st, ByteArray.size]
theorem st_toList (l : List UInt8) : (st l).data.toList = l := by simp [st]
theorem st_inj {a b : List UInt8} (h : st a = st b) : a = b := by rw [← st_toList a, h, st_toList]
theorem st_append (a b : List UInt8) : st a ++ st b = st (a ++ b) := by
  apply ByteArray.ext
  simp [st]
theorem of_data (s : ByteArray) : s = st s.data.toList := by apply ByteArray.ext; simp [st]
theorem st_extract (l : List UInt8) (i j : Nat) : (st l).extract i j = st ((l.drop i).take (j - i)) := by
  apply ByteArray.ext
  apply Array.toList_inj.1
  rw [Go.Lib.extract_data, st_toList, st_toList]
end Go.Proofs.YtkflakeocdlinaaGreatDoor
