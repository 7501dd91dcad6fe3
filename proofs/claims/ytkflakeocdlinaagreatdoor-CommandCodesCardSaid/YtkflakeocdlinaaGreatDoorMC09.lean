/-
  Contracts of octet.lowestFirst and octet.number.
-/
import Derived.Test.YtkflakeocdlinaaGreatDoorShelfMC
import Derived.Test.YtkflakeocdlinaaGreatDoorOctPMC
import Derived.WalkKit
import Derived.WalkLawsBesides
import Derived.WalkSpells
import Derived.Below
import Derived.OpenShut
import Derived.Lib.Hide
import Derived.Laws.IdiomStrings
import Derived.Outline
import Derived.Deep.LoopGhost
import Derived.Deep.QuietTactic
import Derived.BigQuiet
import Derived.RegionTactic
import Derived.Laws.OwnMore
import Derived.Laws.Bits64b
namespace Go.Proofs.YtkflakeocdlinaaGreatDoor
open Go.RowKit

/-- the bytes of which k are laid -/
def laid (n k x : Nat) : List Value := bv (lowL k x) ++ List.replicate (n - k) (.int .u8 0)

theorem laid_step (n k x : Nat) (h : k < n) : (laid n k x).set k (.int .u8 ((x / 256 ^ k % 256 : Nat) : Int)) = laid n (k + 1) x := by
  unfold laid
  have hl : (bv (lowL k x)).length = k := by rw [bv_length, lowL_length]
  rw [List.set_append_right _ _ (by omega), hl, Nat.sub_self, lowL_snoc, bv_append, show n - k = (n - (k + 1)) + 1 by omega, List.replicate_succ, List.set_cons_zero, List.append_assoc]
  simp [bv]

theorem laid_length (n k x : Nat) (h : k ≤ n) : (laid n k x).length = n := by
  unfold laid; rw [List.length_append, bv_length, lowL_length, List.length_replicate]; omega

theorem laid_byte (x k : Nat) : (x : Int) / 2 ^ (8 * k) % 256 = ((x / 256 ^ k % 256 : Nat) : Int) := by
  rw [← shr_pow]; simp

theorem own_cell {w : World} {base g n c : Nat} {e : TypeId} {xs : List Value} (h : w.ownsRow base e 1 (.slice (some ⟨g, 0, none⟩) n c) n xs) {k : Nat} (hk : k < xs.length) : ∃ v, w.cell? ⟨g, k, none⟩ = some v := by
  have h1 := h.cells (g := g) rfl k xs[k] (List.getElem?_eq_getElem hk)
  refine ⟨xs[k], ?_⟩
  rw [← h1]
  unfold Addr.add
  by_cases e0 : k = 0
  · subst e0; rfl
  · simp [e0]

theorem own_bytes {w : World} {base g n c : Nat} {e : TypeId} {l : List UInt8} (h : w.ownsRow base e 1 (.slice (some ⟨g, 0, none⟩) n c) n (bv l)) : ∀ j (hj : j < l.length), w.cell? ((⟨g, 0, none⟩ : Addr).add j) = some (.int .u8 (l[j].toNat : Int)) :=
  fun j hj => h.cells (g := g) rfl j _ (by simp [bv, hj])

theorem infoU8 : (Tryz.prog.info? 5).map (fun i => (i.zero, i.size, i.bytes)) = some (some (.int .u8 0), 1, 1) := by kernel_rfl

theorem below_of_grown {w w' : World} {row : Option Nat} (h : w.grownBy w' row) {B : Nat} (hB : B ≤ w.heap.size) (hr : ∀ k, row = some k → B ≤ k) : Below B w w' :=
  (Below.refl B w).grown h hB hr

set_option maxHeartbeats 1000000 in
theorem lowF_any (x n : Nat) (w : World) (hn : n ≤ 8) :
    Calls Tryz.prog 53 #[.int .u64 x, .int .i64 n] w fun e w' => e = .returned (.string (st (lowL n x))) ∧ Below w.heap.size w w' := by
  obtain ⟨i0, hi, hz0, hz1, hz2⟩ := info_parts infoU8
  obtain ⟨w1, hmk, hown, hgr⟩ := run_make_full (P := Tryz.prog) w w.heap.size 93 5 i0 (.int .u8 0) 1 Tryz.underlying93 hi hz0 hz1 .i64 .i64 n (by rw [hz2]; omega) (by unfold maxLen; omega) (Nat.le_refl _)
  have e0 : (madeCells (Value.int .u8 0).cells (n * 1)).toList = laid n 0 x := by
    rw [Nat.mul_one]
    exact (toList_madeCells_one (.int .u8 0) n).trans (by simp [laid, lowL, bv])
  rw [e0] at hown
  obtain ⟨B, hB⟩ : ∃ B, B = w.heap.size := ⟨_, rfl⟩
  have HB1 := Lib.hid (below_of_grown hgr (Nat.le_refl _) (fun k hk => by cases hk))
  rw [← hB] at hmk hown HB1 ⊢
  have HO := Lib.hid hown
  have HBS : Hid (B ≤ w.heap.size) := by show B ≤ _; omega
  clear e0 hown hgr hi hz0 hz1 hz2 hB
  go_enter Tryz.func53, Tryz.ntmps53
  go_wp2
  clear hmk
  go_loopg [6, 11] n (fun gk _ i wr => ∃ k : Nat, k ≤ n ∧ i = .int .i64 k ∧ n - k ≤ gk ∧ Hid (wr.ownsRow B 5 1 (.slice (some ⟨B, 0, none⟩) n n) n (laid n k x)) ∧ Hid (Below B w wr))
  case atStart => exact ⟨0, Nat.zero_le _, rfl, by omega, HO, HB1⟩
  case round =>
    obtain ⟨k, hk, rfl, hgk, HR, HW⟩ := hrel
    by_cases hlt : k < n
    · have hfz := HR.out.frozenAt k
      have hv0 := own_cell HR.out (by rw [laid_length _ _ _ (by omega)]; exact hlt)
      have hst := HR.out.stored k (.int .u8 ((x : Int) / 2 ^ (8 * k) % 256))
      rw [laid_byte, laid_step n k x hlt] at hst
      have HS1 := Lib.hid hst.1
      have HS2 := Lib.hid (HW.out.grown hst.2 (Nat.le_trans HBS.out HW.out.size) (fun g hg => by injection hg with hg; omega))
      rw [← laid_byte] at HS1 HS2
      obtain ⟨v0, hv0⟩ := hv0
      clear hst
      go_wp2
      go_roundg (n - (k + 1))
      case measure => omega
      case rel => exact ⟨k + 1, by omega, by go_num, by omega, HS1, HS2⟩
    · have e : k = n := by omega
      subst e
      have hcv := run_convert_bytes_back (P := Tryz.prog) wr 93 9 5 ⟨B, 0, none⟩ k (lowL k x) Tryz.underlying93 Tryz.underlying5 Tryz.underlying9 (own_bytes (by have := HR.out; unfold laid at this; rw [Nat.sub_self, List.replicate_zero, List.append_nil] at this; exact this))
      rw [lowL_length] at hcv
      clear hgk
      go_wp2
      go_ret
      exact ⟨rfl, HW.out⟩

theorem u64_wrap (z : Int) (h0 : 0 ≤ z) (h1 : z < 18446744073709551616) : IntKind.u64.wrap z = z := by
  simp only [IntKind.wrap, IntKind.bits, IntKind.signed]
  simp
  omega

theorem conv_one (W : World) (b : Nat) (hb : b < 256) : (convert 93 9 (.slice (some ⟨W.heap.size, 0, none⟩) 1 1)).run Tryz.prog (W.alloc (.cells #[.int .u8 (b : Int)] 5)) = .ok (.string (st [UInt8.ofNat b])) (W.alloc (.cells #[.int .u8 (b : Int)] 5)) := by
  have h := run_convert_bytes_back (P := Tryz.prog) (W.alloc (.cells #[.int .u8 (b : Int)] 5)) 93 9 5 ⟨W.heap.size, 0, none⟩ 1 [UInt8.ofNat b] Tryz.underlying93 Tryz.underlying5 Tryz.underlying9 (fun j hj => by
    have e : j = 0 := by simpa using hj
    subst e
    have e2 : ([UInt8.ofNat b][0]).toNat = b := by simp; omega
    rw [e2]
    exact cell_one_new W _ _ 0 _ rfl)
  exact h

set_option maxHeartbeats 1000000 in
theorem s3Low_any (x n : Nat) (w : World) (hx : x < 18446744073709551616) (hn : n ≤ 8) :
    Calls Tryz.prog 67 #[.int .u64 x, .int .i64 n] w fun e w' => e = .returned (.string (st (lowL n x))) ∧ Below w.heap.size w w' := by
  go_enter Tryz.func67, Tryz.ntmps67
  go_wp2
  go_loopg [0, 5, 6] n (fun gk y o i wr => ∃ k : Nat, k ≤ n ∧ i = .int .i64 k ∧ y = .int .u64 (x / 256 ^ k : Nat) ∧ o = .string (st (lowL k x)) ∧ n - k ≤ gk ∧ Hid (Below w.heap.size w wr))
  case atStart => exact ⟨0, Nat.zero_le _, rfl, by simp, rfl, by omega, Below.refl _ _⟩
  case round =>
    obtain ⟨k, hk, rfl, rfl, rfl, hgk, HW⟩ := hrel
    by_cases hlt : k < n
    · obtain ⟨y, hy⟩ : ∃ y, y = x / 256 ^ k := ⟨_, rfl⟩
      have hyx : y < 18446744073709551616 := by rw [hy]; exact Nat.lt_of_le_of_lt (Nat.div_le_self _ _) hx
      have HY := Lib.hid hy
      rw [← hy]
      have hcv := conv_one wr (y % 256) (Nat.mod_lt _ (by decide))
      rw [show ((y % 256 : Nat) : Int) = (y : Int) % 256 from Int.natCast_emod y 256] at hcv
      have hs1 : (st (lowL k x)).size ≤ 8 := by rw [st_size, lowL_length]; omega
      have hs2 : (st [UInt8.ofNat (y % 256)]).size ≤ 8 := by rw [st_size]; simp
      clear hy
      go_wp2
      go_roundg (n - (k + 1))
      case measure => omega
      case rel =>
        refine ⟨k + 1, by omega, by go_num, ?_, ?_, by omega, HW.out.alloc HW.out.size _⟩
        · rw [HY.out, Nat.pow_succ, ← Nat.div_div_eq_div_mul]; rfl
        · rw [lowL_snoc, ← st_append, ← HY.out]
    · go_wp2
      go_ret
      have e : k = n := by omega
      subst e
      exact ⟨rfl, HW.out⟩

end Go.Proofs.YtkflakeocdlinaaGreatDoor
/-
  Contracts of octet.number and soukref03.Number.
-/
namespace Go.Proofs.YtkflakeocdlinaaGreatDoor
open Go.RowKit

theorem st_get (l : List UInt8) (k : Nat) (h : k < (st l).size) (h' : k < l.length) : (st l)[k]'h = l[k]'h' := rfl

theorem pow_256_8 : 256 ^ 8 = 18446744073709551616 := by decide

theorem numL_take_succ (l : List UInt8) (k : Nat) (h : k < l.length) : numL (l.take (k + 1)) = numL (l.take k) + 256 ^ k * l[k].toNat := by
  rw [List.take_succ_eq_append_getElem h, numL_append, List.length_take, Nat.min_eq_left (by omega)]
  simp [numL]

theorem onum_step (l : List UInt8) (k : Nat) (hk : k < (st l).size) (h8 : l.length ≤ 8) :
    bits .or .u64 (numL (l.take k) : Nat) (IntKind.u64.wrap (IntKind.u64.wrap ((st l)[k].toNat : Nat) * 2 ^ (8 * k))) = (numL (l.take (k + 1)) : Nat) := by
  have hk' : k < l.length := by rw [st_size] at hk; exact hk
  rw [st_get l k hk hk', numL_take_succ l k hk']
  have hb : l[k].toNat < 256 := UInt8.toNat_lt _
  have hn := numL_lt (l.take k)
  rw [List.length_take, Nat.min_eq_left (by omega)] at hn
  obtain ⟨b, hbe⟩ : ∃ b, b = l[k].toNat := ⟨_, rfl⟩
  obtain ⟨a, hae⟩ : ∃ a, a = numL (l.take k) := ⟨_, rfl⟩
  rw [← hbe] at hb ⊢
  rw [← hae] at hn ⊢
  have hp : 256 ^ (k + 1) ≤ 256 ^ 8 := Nat.pow_le_pow_right (by decide) (by omega)
  rw [pow_256_8, Nat.pow_succ] at hp
  have hm : b * 256 ^ k ≤ 255 * 256 ^ k := Nat.mul_le_mul_right _ (by omega)
  have hp0 : 0 < 256 ^ k := Nat.pow_pos (by decide)
  rw [u64_wrap (b : Int) (by omega) (by omega)]
  have e : (b : Int) * 2 ^ (8 * k) = ((b * 256 ^ k : Nat) : Int) := by
    rw [show (256 : Nat) ^ k = 2 ^ (8 * k) by rw [Nat.pow_mul]]; simp
  rw [e, u64_wrap _ (by omega) (by omega), bits_or_u64_nat a (b * 256 ^ k) (by omega) (by omega), or_shift a b k hn]

set_option maxHeartbeats 1000000 in
theorem onum_any (l : List UInt8) (w : World) (hl : l.length ≤ 8) :
    Calls Tryz.prog 61 #[.string (st l)] w fun e w' => e = .returned (.int .u64 (numL l : Nat)) ∧ w = w' := by
  have hsz := st_size l
  obtain ⟨n, hn⟩ : ∃ n, n = l.length := ⟨_, rfl⟩
  have HS : Hid (∀ k (hk : k < (st l).size), bits .or .u64 (numL (l.take k) : Nat) (IntKind.u64.wrap (IntKind.u64.wrap ((st l)[k].toNat : Nat) * 2 ^ (8 * k))) = (numL (l.take (k + 1)) : Nat)) := fun k hk => onum_step l k hk hl
  rw [← hn] at hsz hl
  have HN := Lib.hid hn
  clear hn
  go_enter Tryz.func61, Tryz.ntmps61
  go_wp2
  go_loop [3, 4, 7] (fun x _ i => ∃ k : Nat, k ≤ n ∧ i = .int .i64 k ∧ x = .int .u64 (numL (l.take k) : Nat)) (fun _ _ i => n - (intOf i).toNat)
  case atStart => exact ⟨0, Nat.zero_le _, rfl, rfl⟩
  case round =>
    obtain ⟨k, hk, rfl, rfl⟩ := hrel
    by_cases hlt : k < n
    · go_wp2
      go_round
      case rel => exact ⟨k + 1, by omega, by go_num, by rw [HS.out k (by omega)]⟩
      case measure => simp [intOf]; omega
    · go_wp2
      go_ret
      exact ⟨by rw [List.take_of_length_le (by have := HN.out; omega)]; rfl, rfl⟩

theorem numL_drop (l : List UInt8) (k : Nat) (h : k < l.length) : numL (l.drop k) = l[k].toNat + 256 * numL (l.drop (k + 1)) := by
  rw [List.drop_eq_getElem_cons h, numL]

theorem s3num_step (l : List UInt8) (k : Nat) (hk : k < (st l).size) (h8 : l.length ≤ 8) :
    IntKind.u64.wrap (IntKind.u64.wrap ((numL (l.drop (k + 1)) : Nat) * 256) + IntKind.u64.wrap ((st l)[k].toNat : Nat)) = (numL (l.drop k) : Nat) := by
  have hk' : k < l.length := by rw [st_size] at hk; exact hk
  rw [st_get l k hk hk', numL_drop l k hk']
  have hb : l[k].toNat < 256 := UInt8.toNat_lt _
  have hn := numL_lt (l.drop k)
  have hp : 256 ^ (l.drop k).length ≤ 256 ^ 8 := Nat.pow_le_pow_right (by decide) (by simp; omega)
  rw [pow_256_8] at hp
  rw [numL_drop l k hk'] at hn
  rw [u64_wrap ((l[k].toNat : Nat) : Int) (by omega) (by omega), u64_wrap ((numL (l.drop (k + 1)) : Int) * 256) (by omega) (by omega), u64_wrap _ (by omega) (by omega)]
  omega

set_option maxHeartbeats 1000000 in
theorem s3Num_any (l : List UInt8) (w : World) (hl : l.length ≤ 8) :
    Calls Tryz.prog 68 #[.string (st l)] w fun e w' => e = .returned (.int .u64 (numL l : Nat)) ∧ w = w' := by
  have hsz := st_size l
  obtain ⟨n, hn⟩ : ∃ n, n = l.length := ⟨_, rfl⟩
  have HS : Hid (∀ k (hk : k < (st l).size), IntKind.u64.wrap (IntKind.u64.wrap ((numL (l.drop (k + 1)) : Nat) * 256) + IntKind.u64.wrap ((st l)[k].toNat : Nat)) = (numL (l.drop k) : Nat)) := fun k hk => s3num_step l k hk hl
  have HN := Lib.hid hn
  rw [← hn] at hsz hl
  have h0 : numL (l.drop n) = 0 := by rw [List.drop_of_length_le (by omega)]; rfl
  have H0 := Lib.hid h0
  clear hn h0
  go_enter Tryz.func68, Tryz.ntmps68
  go_wp2
  go_loop [3, 4] (fun x i => ∃ k : Nat, k ≤ n ∧ i = .int .i64 ((k : Int) - 1) ∧ x = .int .u64 (numL (l.drop k) : Nat)) (fun _ i => (intOf i + 1).toNat)
  case atStart => exact ⟨n, Nat.le_refl _, rfl, by rw [H0.out]; rfl⟩
  case round =>
    obtain ⟨k, hk, rfl, rfl⟩ := hrel
    by_cases hlt : 0 < k
    · obtain ⟨m, rfl⟩ : ∃ m, k = m + 1 := ⟨k - 1, by omega⟩
      rw [show ((m + 1 : Nat) : Int) - 1 = (m : Int) by omega]
      go_wp2
      go_round
      case rel => exact ⟨m, by omega, rfl, by rw [HS.out m (by omega)]⟩
      case measure => simp [intOf]
    · have e : k = 0 := by omega
      subst e
      go_wp2
      go_ret
      exact ⟨rfl, rfl⟩
end Go.Proofs.YtkflakeocdlinaaGreatDoor
