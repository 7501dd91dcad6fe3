/-
  Contracts of octet.lowestFirst and octet.number.
-/
import Derived.Test.YtbpklikmldpeiaaShelfMA
import Derived.Test.YtbpklikmldpeiaaMA01
import Derived.WalkKit
import Derived.WalkLawsBesides
import Derived.WalkSpells
import Derived.Below
import Derived.OpenShut
import Derived.Lib.Hide
import Derived.Laws.IdiomStrings
import Derived.Outline
import Derived.Deep.LoopGhost
import Derived.Deep.QuietTactic
import Derived.BigQuiet
import Derived.RegionTactic
import Derived.Laws.OwnMore
import Derived.Laws.Bits64b
namespace Go.Proofs.Ytbpklikmldpeiaa
open Go.RowKit

/-- the bytes of which k are laid -/
def laid (n k x : Nat) : List Value := bv (lowL k x) ++ List.replicate (n - k) (.int .u8 0)

theorem laid_step (n k x : Nat) (h : k < n) : (laid n k x).set k (.int .u8 ((x / 256 ^ k % 256 : Nat) : Int)) = laid n (k + 1) x := by
  unfold laid
  have hl : (bv (lowL k x)).length = k := by rw [bv_length, lowL_length]
  rw [List.set_append_right _ _ (by omega), hl, Nat.sub_self, lowL_snoc, bv_append, show n - k = (n - (k + 1)) + 1 by omega, List.replicate_succ, List.set_cons_zero, List.append_assoc]
  simp [bv]

theorem laid_length (n k x : Nat) (h : k ≤ n) : (laid n k x).length = n := by
  unfold laid; rw [List.length_append, bv_length, lowL_length, List.length_replicate]; omega

theorem laid_byte (x k : Nat) : (x : Int) / 2 ^ (8 * k) % 256 = ((x / 256 ^ k % 256 : Nat) : Int) := by
  rw [← shr_pow]; simp

theorem own_cell {w : World} {base g n c : Nat} {e : TypeId} {xs : List Value} (h : w.ownsRow base e 1 (.slice (some ⟨g, 0, none⟩) n c) n xs) {k : Nat} (hk : k < xs.length) : ∃ v, w.cell? ⟨g, k, none⟩ = some v := by
  have h1 := h.cells (g := g) rfl k xs[k] (List.getElem?_eq_getElem hk)
  refine ⟨xs[k], ?_⟩
  rw [← h1]
  unfold Addr.add
  by_cases e0 : k = 0
  · subst e0; rfl
  · simp [e0]

theorem own_bytes {w : World} {base g n c : Nat} {e : TypeId} {l : List UInt8} (h : w.ownsRow base e 1 (.slice (some ⟨g, 0, none⟩) n c) n (bv l)) : ∀ j (hj : j < l.length), w.cell? ((⟨g, 0, none⟩ : Addr).add j) = some (.int .u8 (l[j].toNat : Int)) :=
  fun j hj => h.cells (g := g) rfl j _ (by simp [bv, hj])

theorem infoU8 : (Try.prog.info? 5).map (fun i => (i.zero, i.size, i.bytes)) = some (some (.int .u8 0), 1, 1) := by kernel_rfl

theorem below_of_grown {w w' : World} {row : Option Nat} (h : w.grownBy w' row) {B : Nat} (hB : B ≤ w.heap.size) (hr : ∀ k, row = some k → B ≤ k) : Below B w w' :=
  (Below.refl B w).grown h hB hr

set_option maxHeartbeats 1000000 in
theorem lowF_any (x n : Nat) (w : World) (hn : n ≤ 8) :
    Calls Try.prog 70 #[.int .u64 x, .int .i64 n] w fun e w' => e = .returned (.string (st (lowL n x))) ∧ Below w.heap.size w w' := by
  obtain ⟨i0, hi, hz0, hz1, hz2⟩ := info_parts infoU8
  obtain ⟨w1, hmk, hown, hgr⟩ := run_make_full (P := Try.prog) w w.heap.size 50 5 i0 (.int .u8 0) 1 Try.underlying50 hi hz0 hz1 .i64 .i64 n (by rw [hz2]; omega) (by unfold maxLen; omega) (Nat.le_refl _)
  have e0 : (madeCells (Value.int .u8 0).cells (n * 1)).toList = laid n 0 x := by
    rw [Nat.mul_one]
    exact (toList_madeCells_one (.int .u8 0) n).trans (by simp [laid, lowL, bv])
  rw [e0] at hown
  obtain ⟨B, hB⟩ : ∃ B, B = w.heap.size := ⟨_, rfl⟩
  have HB1 := Lib.hid (below_of_grown hgr (Nat.le_refl _) (fun k hk => by cases hk))
  rw [← hB] at hmk hown HB1 ⊢
  have HO := Lib.hid hown
  have HBS : Hid (B ≤ w.heap.size) := by show B ≤ _; omega
  clear e0 hown hgr hi hz0 hz1 hz2 hB
  go_enter Try.func70, Try.ntmps70
  go_wp2
  clear hmk
  go_loopg [6, 11] n (fun gk _ i wr => ∃ k : Nat, k ≤ n ∧ i = .int .i64 k ∧ n - k ≤ gk ∧ Hid (wr.ownsRow B 5 1 (.slice (some ⟨B, 0, none⟩) n n) n (laid n k x)) ∧ Hid (Below B w wr))
  case atStart => exact ⟨0, Nat.zero_le _, rfl, by omega, HO, HB1⟩
  case round =>
    obtain ⟨k, hk, rfl, hgk, HR, HW⟩ := hrel
    by_cases hlt : k < n
    · have hfz := HR.out.frozenAt k
      have hv0 := own_cell HR.out (by rw [laid_length _ _ _ (by omega)]; exact hlt)
      have hst := HR.out.stored k (.int .u8 ((x : Int) / 2 ^ (8 * k) % 256))
      rw [laid_byte, laid_step n k x hlt] at hst
      have HS1 := Lib.hid hst.1
      have HS2 := Lib.hid (HW.out.grown hst.2 (Nat.le_trans HBS.out HW.out.size) (fun g hg => by injection hg with hg; omega))
      rw [← laid_byte] at HS1 HS2
      obtain ⟨v0, hv0⟩ := hv0
      clear hst
      go_wp2
      go_roundg (n - (k + 1))
      case measure => omega
      case rel => exact ⟨k + 1, by omega, by go_num, by omega, HS1, HS2⟩
    · have e : k = n := by omega
      subst e
      have hcv := run_convert_bytes_back (P := Try.prog) wr 50 9 5 ⟨B, 0, none⟩ k (lowL k x) Try.underlying50 Try.underlying5 Try.underlying9 (own_bytes (by have := HR.out; unfold laid at this; rw [Nat.sub_self, List.replicate_zero, List.append_nil] at this; exact this))
      rw [lowL_length] at hcv
      clear hgk
      go_wp2
      go_ret
      exact ⟨rfl, HW.out⟩

theorem u64_wrap (z : Int) (h0 : 0 ≤ z) (h1 : z < 18446744073709551616) : IntKind.u64.wrap z = z := by
  simp only [IntKind.wrap, IntKind.bits, IntKind.signed]
  simp
  omega

theorem conv_one (W : World) (b : Nat) (hb : b < 256) : (convert 50 9 (.slice (some ⟨W.heap.size, 0, none⟩) 1 1)).run Try.prog (W.alloc (.cells #[.int .u8 (b : Int)] 5)) = .ok (.string (st [UInt8.ofNat b])) (W.alloc (.cells #[.int .u8 (b : Int)] 5)) := by
  have h := run_convert_bytes_back (P := Try.prog) (W.alloc (.cells #[.int .u8 (b : Int)] 5)) 50 9 5 ⟨W.heap.size, 0, none⟩ 1 [UInt8.ofNat b] Try.underlying50 Try.underlying5 Try.underlying9 (fun j hj => by
    have e : j = 0 := by simpa using hj
    subst e
    have e2 : ([UInt8.ofNat b][0]).toNat = b := by simp; omega
    rw [e2]
    exact cell_one_new W _ _ 0 _ rfl)
  exact h

set_option maxHeartbeats 1000000 in
theorem s3Low_any (x n : Nat) (w : World) (hx : x < 18446744073709551616) (hn : n ≤ 8) :
    Calls Try.prog 53 #[.int .u64 x, .int .i64 n] w fun e w' => e = .returned (.string (st (lowL n x))) ∧ Below w.heap.size w w' := by
  go_enter Try.func53, Try.ntmps53
  go_wp2
  go_loopg [0, 5, 6] n (fun gk y o i wr => ∃ k : Nat, k ≤ n ∧ i = .int .i64 k ∧ y = .int .u64 (x / 256 ^ k : Nat) ∧ o = .string (st (lowL k x)) ∧ n - k ≤ gk ∧ Hid (Below w.heap.size w wr))
  case atStart => exact ⟨0, Nat.zero_le _, rfl, by simp, rfl, by omega, Below.refl _ _⟩
  case round =>
    obtain ⟨k, hk, rfl, rfl, rfl, hgk, HW⟩ := hrel
    by_cases hlt : k < n
    · obtain ⟨y, hy⟩ : ∃ y, y = x / 256 ^ k := ⟨_, rfl⟩
      have hyx : y < 18446744073709551616 := by rw [hy]; exact Nat.lt_of_le_of_lt (Nat.div_le_self _ _) hx
      have HY := Lib.hid hy
      rw [← hy]
      have hcv := conv_one wr (y % 256) (Nat.mod_lt _ (by decide))
      rw [show ((y % 256 : Nat) : Int) = (y : Int) % 256 from Int.natCast_emod y 256] at hcv
      have hs1 : (st (lowL k x)).size ≤ 8 := by rw [st_size, lowL_length]; omega
      have hs2 : (st [UInt8.ofNat (y % 256)]).size ≤ 8 := by rw [st_size]; simp
      clear hy
      go_wp2
      go_roundg (n - (k + 1))
      case measure => omega
      case rel =>
        refine ⟨k + 1, by omega, by go_num, ?_, ?_, by omega, HW.out.alloc HW.out.size _⟩
        · rw [HY.out, Nat.pow_succ, ← Nat.div_div_eq_div_mul]; rfl
        · rw [lowL_snoc, ← st_append, ← HY.out]
    · go_wp2
      go_ret
      have e : k = n := by omega
      subst e
      exact ⟨rfl, HW.out⟩

end Go.Proofs.Ytbpklikmldpeiaa
