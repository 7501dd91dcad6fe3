/-
  Contract of the document's Text of layer 18.
-/
import Derived.Test.YtkflakeocdlinaaGreatDoorMC08
import Derived.Test.YtkflakeocdlinaaGreatDoorRDigMC
import Derived.Deep.CutRange
import Derived.BigQuiet
namespace Go.Proofs.YtkflakeocdlinaaGreatDoor
open Go.RowKit Go.Deep

set_option maxHeartbeats 3200000 in
set_option maxRecDepth 100000 in
theorem rtext_tick  (a : Option Addr) (cp : Nat) (w : World)  :
    Calls Tryz.prog 15 #[.agg #[.string (st kTick), .string (st []), .string (st []), .string (st []), .string (st []), .int .i64 0, .slice a 0 cp]] w fun e w' => e = .returned (.string (st kTick)) ∧ Below w.heap.size w w' := by
  have fkSale : ((st kTick).toList == [115, 97, 108, 101]) = false := by rw [lit_eqA]; decide
  have fkRefund : ((st kTick).toList == [114, 101, 102, 117, 110, 100]) = false := by rw [lit_eqA]; decide
  have fkCharge : ((st kTick).toList == [99, 104, 97, 114, 103, 101, 98, 97, 99, 107]) = false := by rw [lit_eqA]; decide
  have fkTick : ((st kTick).toList == [116, 105, 99, 107]) = true := by rw [lit_eqA]; decide
  have fkReply : ((st kTick).toList == [114, 101, 112, 108, 121]) = false := by rw [lit_eqA]; decide
  have q0 : (st []).toList.isEmpty = true := by rw [empty_eqA]; rfl
  have HB0 : Hid (∀ o, Below w.heap.size w (w.alloc o)) := fun o => (Below.refl _ w).alloc (Nat.le_refl _) o
  go_enter Tryz.func15, Tryz.ntmps15
  go_wp2
  go_ret
  exact ⟨rfl, HB0.out _⟩

set_option maxHeartbeats 3200000 in
set_option maxRecDepth 100000 in
theorem rtext_kReverse (i b : List UInt8) (a : Option Addr) (cp : Nat) (w : World) (hi : i.length ≤ 20) (hb : b.length ≤ 20) :
    Calls Tryz.prog 15 #[.agg #[.string (st kReverse), .string (st i), .string (st b), .string (st []), .string (st []), .int .i64 0, .slice a 0 cp]] w fun e w' => e = .returned (.string (st ((((kReverse ++ [32]) ++ i) ++ [32]) ++ b))) ∧ Below w.heap.size w w' := by
  have fkSale : ((st kReverse).toList == [115, 97, 108, 101]) = false := by rw [lit_eqA]; decide
  have fkRefund : ((st kReverse).toList == [114, 101, 102, 117, 110, 100]) = false := by rw [lit_eqA]; decide
  have fkCharge : ((st kReverse).toList == [99, 104, 97, 114, 103, 101, 98, 97, 99, 107]) = false := by rw [lit_eqA]; decide
  have fkTick : ((st kReverse).toList == [116, 105, 99, 107]) = false := by rw [lit_eqA]; decide
  have fkReply : ((st kReverse).toList == [114, 101, 112, 108, 121]) = false := by rw [lit_eqA]; decide
  have q0 : (st []).toList.isEmpty = true := by rw [empty_eqA]; rfl
  have HB0 : Hid (∀ o, Below w.heap.size w (w.alloc o)) := fun o => (Below.refl _ w).alloc (Nat.le_refl _) o
  have hkl : kReverse.length ≤ 10 := by decide
  obtain ⟨SK, hSK⟩ : ∃ S, S = st kReverse := ⟨_, rfl⟩
  obtain ⟨SI, hSI⟩ : ∃ S, S = st i := ⟨_, rfl⟩
  obtain ⟨SB, hSB⟩ : ∃ S, S = st b := ⟨_, rfl⟩
  obtain ⟨S1, hS1⟩ : ∃ S, S = st (kReverse ++ [32]) := ⟨_, rfl⟩
  have eS1 : SK ++ ⟨#[32]⟩ = S1 := by rw [hS1, hSK]; exact st_append _ _
  have bS1 : ¬ 9223372036854775807 < SK.size + 1 := by rw [hSK, st_size]; simp; omega
  obtain ⟨S2, hS2⟩ : ∃ S, S = st ((kReverse ++ [32]) ++ i) := ⟨_, rfl⟩
  have eS2 : S1 ++ SI = S2 := by rw [hS2, hS1, hSI]; exact st_append _ _
  have bS2 : ¬ 9223372036854775807 < S1.size + SI.size := by rw [hS1, st_size, hSI, st_size]; simp; omega
  obtain ⟨S3, hS3⟩ : ∃ S, S = st (((kReverse ++ [32]) ++ i) ++ [32]) := ⟨_, rfl⟩
  have eS3 : S2 ++ ⟨#[32]⟩ = S3 := by rw [hS3, hS2]; exact st_append _ _
  have bS3 : ¬ 9223372036854775807 < S2.size + 1 := by rw [hS2, st_size]; simp; omega
  obtain ⟨S4, hS4⟩ : ∃ S, S = st ((((kReverse ++ [32]) ++ i) ++ [32]) ++ b) := ⟨_, rfl⟩
  have eS4 : S3 ++ SB = S4 := by rw [hS4, hS3, hSB]; exact st_append _ _
  have bS4 : ¬ 9223372036854775807 < S3.size + SB.size := by rw [hS3, st_size, hSB, st_size]; simp; omega
  rw [← hS4, ← hSK, ← hSI, ← hSB]
  simp only [← hSK] at fkSale fkRefund fkCharge fkTick fkReply
  clear hS1 hS2 hS3 hS4 hSK hSI hSB hi hb hkl
  go_enter Tryz.func15, Tryz.ntmps15
  go_wp2
  go_ret
  exact ⟨rfl, HB0.out _⟩

set_option maxHeartbeats 3200000 in
set_option maxRecDepth 100000 in
theorem rtext_kHold (i b : List UInt8) (a : Option Addr) (cp : Nat) (w : World) (hi : i.length ≤ 20) (hb : b.length ≤ 20) :
    Calls Tryz.prog 15 #[.agg #[.string (st kHold), .string (st i), .string (st b), .string (st []), .string (st []), .int .i64 0, .slice a 0 cp]] w fun e w' => e = .returned (.string (st ((((kHold ++ [32]) ++ i) ++ [32]) ++ b))) ∧ Below w.heap.size w w' := by
  have fkSale : ((st kHold).toList == [115, 97, 108, 101]) = false := by rw [lit_eqA]; decide
  have fkRefund : ((st kHold).toList == [114, 101, 102, 117, 110, 100]) = false := by rw [lit_eqA]; decide
  have fkCharge : ((st kHold).toList == [99, 104, 97, 114, 103, 101, 98, 97, 99, 107]) = false := by rw [lit_eqA]; decide
  have fkTick : ((st kHold).toList == [116, 105, 99, 107]) = false := by rw [lit_eqA]; decide
  have fkReply : ((st kHold).toList == [114, 101, 112, 108, 121]) = false := by rw [lit_eqA]; decide
  have q0 : (st []).toList.isEmpty = true := by rw [empty_eqA]; rfl
  have HB0 : Hid (∀ o, Below w.heap.size w (w.alloc o)) := fun o => (Below.refl _ w).alloc (Nat.le_refl _) o
  have hkl : kHold.length ≤ 10 := by decide
  obtain ⟨SK, hSK⟩ : ∃ S, S = st kHold := ⟨_, rfl⟩
  obtain ⟨SI, hSI⟩ : ∃ S, S = st i := ⟨_, rfl⟩
  obtain ⟨SB, hSB⟩ : ∃ S, S = st b := ⟨_, rfl⟩
  obtain ⟨S1, hS1⟩ : ∃ S, S = st (kHold ++ [32]) := ⟨_, rfl⟩
  have eS1 : SK ++ ⟨#[32]⟩ = S1 := by rw [hS1, hSK]; exact st_append _ _
  have bS1 : ¬ 9223372036854775807 < SK.size + 1 := by rw [hSK, st_size]; simp; omega
  obtain ⟨S2, hS2⟩ : ∃ S, S = st ((kHold ++ [32]) ++ i) := ⟨_, rfl⟩
  have eS2 : S1 ++ SI = S2 := by rw [hS2, hS1, hSI]; exact st_append _ _
  have bS2 : ¬ 9223372036854775807 < S1.size + SI.size := by rw [hS1, st_size, hSI, st_size]; simp; omega
  obtain ⟨S3, hS3⟩ : ∃ S, S = st (((kHold ++ [32]) ++ i) ++ [32]) := ⟨_, rfl⟩
  have eS3 : S2 ++ ⟨#[32]⟩ = S3 := by rw [hS3, hS2]; exact st_append _ _
  have bS3 : ¬ 9223372036854775807 < S2.size + 1 := by rw [hS2, st_size]; simp; omega
  obtain ⟨S4, hS4⟩ : ∃ S, S = st ((((kHold ++ [32]) ++ i) ++ [32]) ++ b) := ⟨_, rfl⟩
  have eS4 : S3 ++ SB = S4 := by rw [hS4, hS3, hSB]; exact st_append _ _
  have bS4 : ¬ 9223372036854775807 < S3.size + SB.size := by rw [hS3, st_size, hSB, st_size]; simp; omega
  rw [← hS4, ← hSK, ← hSI, ← hSB]
  simp only [← hSK] at fkSale fkRefund fkCharge fkTick fkReply
  clear hS1 hS2 hS3 hS4 hSK hSI hSB hi hb hkl
  go_enter Tryz.func15, Tryz.ntmps15
  go_wp2
  go_ret
  exact ⟨rfl, HB0.out _⟩

set_option maxHeartbeats 3200000 in
set_option maxRecDepth 100000 in
theorem rtext_kFree (i b : List UInt8) (a : Option Addr) (cp : Nat) (w : World) (hi : i.length ≤ 20) (hb : b.length ≤ 20) :
    Calls Tryz.prog 15 #[.agg #[.string (st kFree), .string (st i), .string (st b), .string (st []), .string (st []), .int .i64 0, .slice a 0 cp]] w fun e w' => e = .returned (.string (st ((((kFree ++ [32]) ++ i) ++ [32]) ++ b))) ∧ Below w.heap.size w w' := by
  have fkSale : ((st kFree).toList == [115, 97, 108, 101]) = false := by rw [lit_eqA]; decide
  have fkRefund : ((st kFree).toList == [114, 101, 102, 117, 110, 100]) = false := by rw [lit_eqA]; decide
  have fkCharge : ((st kFree).toList == [99, 104, 97, 114, 103, 101, 98, 97, 99, 107]) = false := by rw [lit_eqA]; decide
  have fkTick : ((st kFree).toList == [116, 105, 99, 107]) = false := by rw [lit_eqA]; decide
  have fkReply : ((st kFree).toList == [114, 101, 112, 108, 121]) = false := by rw [lit_eqA]; decide
  have q0 : (st []).toList.isEmpty = true := by rw [empty_eqA]; rfl
  have HB0 : Hid (∀ o, Below w.heap.size w (w.alloc o)) := fun o => (Below.refl _ w).alloc (Nat.le_refl _) o
  have hkl : kFree.length ≤ 10 := by decide
  obtain ⟨SK, hSK⟩ : ∃ S, S = st kFree := ⟨_, rfl⟩
  obtain ⟨SI, hSI⟩ : ∃ S, S = st i := ⟨_, rfl⟩
  obtain ⟨SB, hSB⟩ : ∃ S, S = st b := ⟨_, rfl⟩
  obtain ⟨S1, hS1⟩ : ∃ S, S = st (kFree ++ [32]) := ⟨_, rfl⟩
  have eS1 : SK ++ ⟨#[32]⟩ = S1 := by rw [hS1, hSK]; exact st_append _ _
  have bS1 : ¬ 9223372036854775807 < SK.size + 1 := by rw [hSK, st_size]; simp; omega
  obtain ⟨S2, hS2⟩ : ∃ S, S = st ((kFree ++ [32]) ++ i) := ⟨_, rfl⟩
  have eS2 : S1 ++ SI = S2 := by rw [hS2, hS1, hSI]; exact st_append _ _
  have bS2 : ¬ 9223372036854775807 < S1.size + SI.size := by rw [hS1, st_size, hSI, st_size]; simp; omega
  obtain ⟨S3, hS3⟩ : ∃ S, S = st (((kFree ++ [32]) ++ i) ++ [32]) := ⟨_, rfl⟩
  have eS3 : S2 ++ ⟨#[32]⟩ = S3 := by rw [hS3, hS2]; exact st_append _ _
  have bS3 : ¬ 9223372036854775807 < S2.size + 1 := by rw [hS2, st_size]; simp; omega
  obtain ⟨S4, hS4⟩ : ∃ S, S = st ((((kFree ++ [32]) ++ i) ++ [32]) ++ b) := ⟨_, rfl⟩
  have eS4 : S3 ++ SB = S4 := by rw [hS4, hS3, hSB]; exact st_append _ _
  have bS4 : ¬ 9223372036854775807 < S3.size + SB.size := by rw [hS3, st_size, hSB, st_size]; simp; omega
  rw [← hS4, ← hSK, ← hSI, ← hSB]
  simp only [← hSK] at fkSale fkRefund fkCharge fkTick fkReply
  clear hS1 hS2 hS3 hS4 hSK hSI hSB hi hb hkl
  go_enter Tryz.func15, Tryz.ntmps15
  go_wp2
  go_ret
  exact ⟨rfl, HB0.out _⟩

set_option maxHeartbeats 3200000 in
set_option maxRecDepth 100000 in
theorem rtext_kRefund (i b : List UInt8) (m : Int) (a : Option Addr) (cp : Nat) (w : World) (hi : i.length ≤ 20) (hb : b.length ≤ 20) (hm : 0 ≤ m ∧ m ≤ 1125899906842624) :
    Calls Tryz.prog 15 #[.agg #[.string (st kRefund), .string (st i), .string (st b), .string (st []), .string (st []), .int .i64 m, .slice a 0 cp]] w fun e w' => e = .returned (.string (st ((((((kRefund ++ [32]) ++ i) ++ [32]) ++ b) ++ [32]) ++ digL m.toNat))) ∧ Below w.heap.size w w' := by
  have fkSale : ((st kRefund).toList == [115, 97, 108, 101]) = false := by rw [lit_eqA]; decide
  have fkRefund : ((st kRefund).toList == [114, 101, 102, 117, 110, 100]) = true := by rw [lit_eqA]; decide
  have fkCharge : ((st kRefund).toList == [99, 104, 97, 114, 103, 101, 98, 97, 99, 107]) = false := by rw [lit_eqA]; decide
  have fkTick : ((st kRefund).toList == [116, 105, 99, 107]) = false := by rw [lit_eqA]; decide
  have fkReply : ((st kRefund).toList == [114, 101, 112, 108, 121]) = false := by rw [lit_eqA]; decide
  have q0 : (st []).toList.isEmpty = true := by rw [empty_eqA]; rfl
  have HB0 : Hid (∀ o n, Below w.heap.size w ((w.alloc o).drewN n)) := fun o n => drewN_below ((Below.refl _ w).alloc (Nat.le_refl _) o) n
  have hkl : kRefund.length ≤ 10 := by decide
  obtain ⟨SK, hSK⟩ : ∃ S, S = st kRefund := ⟨_, rfl⟩
  obtain ⟨SI, hSI⟩ : ∃ S, S = st i := ⟨_, rfl⟩
  obtain ⟨SB, hSB⟩ : ∃ S, S = st b := ⟨_, rfl⟩
  obtain ⟨SD, hSD⟩ : ∃ S, S = st (digL m.toNat) := ⟨_, rfl⟩
  have HD : ∀ W, Hid (Calls Tryz.prog 42 #[.int .i64 m] W fun e w' => e = .returned (.string SD) ∧ w' = W) := fun W => by
    have h := (rdigits_any m.toNat m.toNat W (Nat.le_refl _) (by omega)).mono (fun e w' ⟨h, h'⟩ => (⟨h, h'.symm⟩ : _ ∧ w' = W))
    rw [show ((m.toNat : Nat) : Int) = m by omega] at h
    rw [hSD]
    exact h
  have hdl := digL_len (n := m.toNat) (by omega)
  obtain ⟨S1, hS1⟩ : ∃ S, S = st (kRefund ++ [32]) := ⟨_, rfl⟩
  have eS1 : SK ++ ⟨#[32]⟩ = S1 := by rw [hS1, hSK]; exact st_append _ _
  have bS1 : ¬ 9223372036854775807 < SK.size + 1 := by rw [hSK, st_size]; simp; omega
  obtain ⟨S2, hS2⟩ : ∃ S, S = st ((kRefund ++ [32]) ++ i) := ⟨_, rfl⟩
  have eS2 : S1 ++ SI = S2 := by rw [hS2, hS1, hSI]; exact st_append _ _
  have bS2 : ¬ 9223372036854775807 < S1.size + SI.size := by rw [hS1, st_size, hSI, st_size]; simp; omega
  obtain ⟨S3, hS3⟩ : ∃ S, S = st (((kRefund ++ [32]) ++ i) ++ [32]) := ⟨_, rfl⟩
  have eS3 : S2 ++ ⟨#[32]⟩ = S3 := by rw [hS3, hS2]; exact st_append _ _
  have bS3 : ¬ 9223372036854775807 < S2.size + 1 := by rw [hS2, st_size]; simp; omega
  obtain ⟨S4, hS4⟩ : ∃ S, S = st ((((kRefund ++ [32]) ++ i) ++ [32]) ++ b) := ⟨_, rfl⟩
  have eS4 : S3 ++ SB = S4 := by rw [hS4, hS3, hSB]; exact st_append _ _
  have bS4 : ¬ 9223372036854775807 < S3.size + SB.size := by rw [hS3, st_size, hSB, st_size]; simp; omega
  obtain ⟨S5, hS5⟩ : ∃ S, S = st (((((kRefund ++ [32]) ++ i) ++ [32]) ++ b) ++ [32]) := ⟨_, rfl⟩
  have eS5 : S4 ++ ⟨#[32]⟩ = S5 := by rw [hS5, hS4]; exact st_append _ _
  have bS5 : ¬ 9223372036854775807 < S4.size + 1 := by rw [hS4, st_size]; simp; omega
  obtain ⟨S6, hS6⟩ : ∃ S, S = st ((((((kRefund ++ [32]) ++ i) ++ [32]) ++ b) ++ [32]) ++ digL m.toNat) := ⟨_, rfl⟩
  have eS6 : S5 ++ SD = S6 := by rw [hS6, hS5, hSD]; exact st_append _ _
  have bS6 : ¬ 9223372036854775807 < S5.size + SD.size := by rw [hS5, st_size, hSD, st_size]; simp; omega
  rw [← hS6, ← hSK, ← hSI, ← hSB]
  simp only [← hSK] at fkSale fkRefund fkCharge fkTick fkReply
  clear hS1 hS2 hS3 hS4 hS5 hS6 hSK hSI hSB hSD hi hb hm hkl hdl
  have HBX : Hid (Blk (w.alloc (.cells #[.string SK, .string SI, .string SB, .string (st []), .string (st []), .int .i64 m, .slice a 0 cp] 24)) w.heap.size 24 #[.string SK, .string SI, .string SB, .string (st []), .string (st []), .int .i64 m, .slice a 0 cp]) := Blk.new w _ _
  have HBW : Hid (Below w.heap.size w (w.alloc (.cells #[.string SK, .string SI, .string SB, .string (st []), .string (st []), .int .i64 m, .slice a 0 cp] 24))) := (Below.refl _ w).alloc (Nat.le_refl _) _
  go_enter Tryz.func15, Tryz.ntmps15
  go_upto_region 1 with fail
  obtain ⟨bx, hbx⟩ : ∃ bx, bx = w.heap.size := ⟨_, rfl⟩
  have HE := Lib.hid hbx
  rw [← hbx] at HBX ⊢
  generalize w.alloc (.cells #[.string SK, .string SI, .string SB, .string (st []), .string (st []), .int .i64 m, .slice a 0 cp] 24) = w0 at HBX HBW ⊢
  clear hbx
  obtain ⟨d0, d1, d2, d3, d4, d5, d6⟩ := cell_seven HBX.out
  go_wp2
  go_quiet ((go_at_call 42; exact Calls.quiet_of_same (HD _).out))
  go_wp2
  go_ret
  exact ⟨rfl, drewN_below HBW.out _⟩

set_option maxHeartbeats 3200000 in
set_option maxRecDepth 100000 in
theorem rtext_kCharge (i b : List UInt8) (m : Int) (a : Option Addr) (cp : Nat) (w : World) (hi : i.length ≤ 20) (hb : b.length ≤ 20) (hm : 0 ≤ m ∧ m ≤ 1125899906842624) :
    Calls Tryz.prog 15 #[.agg #[.string (st kCharge), .string (st i), .string (st b), .string (st []), .string (st []), .int .i64 m, .slice a 0 cp]] w fun e w' => e = .returned (.string (st ((((((kCharge ++ [32]) ++ i) ++ [32]) ++ b) ++ [32]) ++ digL m.toNat))) ∧ Below w.heap.size w w' := by
  have fkSale : ((st kCharge).toList == [115, 97, 108, 101]) = false := by rw [lit_eqA]; decide
  have fkRefund : ((st kCharge).toList == [114, 101, 102, 117, 110, 100]) = false := by rw [lit_eqA]; decide
  have fkCharge : ((st kCharge).toList == [99, 104, 97, 114, 103, 101, 98, 97, 99, 107]) = true := by rw [lit_eqA]; decide
  have fkTick : ((st kCharge).toList == [116, 105, 99, 107]) = false := by rw [lit_eqA]; decide
  have fkReply : ((st kCharge).toList == [114, 101, 112, 108, 121]) = false := by rw [lit_eqA]; decide
  have q0 : (st []).toList.isEmpty = true := by rw [empty_eqA]; rfl
  have HB0 : Hid (∀ o n, Below w.heap.size w ((w.alloc o).drewN n)) := fun o n => drewN_below ((Below.refl _ w).alloc (Nat.le_refl _) o) n
  have hkl : kCharge.length ≤ 10 := by decide
  obtain ⟨SK, hSK⟩ : ∃ S, S = st kCharge := ⟨_, rfl⟩
  obtain ⟨SI, hSI⟩ : ∃ S, S = st i := ⟨_, rfl⟩
  obtain ⟨SB, hSB⟩ : ∃ S, S = st b := ⟨_, rfl⟩
  obtain ⟨SD, hSD⟩ : ∃ S, S = st (digL m.toNat) := ⟨_, rfl⟩
  have HD : ∀ W, Hid (Calls Tryz.prog 42 #[.int .i64 m] W fun e w' => e = .returned (.string SD) ∧ w' = W) := fun W => by
    have h := (rdigits_any m.toNat m.toNat W (Nat.le_refl _) (by omega)).mono (fun e w' ⟨h, h'⟩ => (⟨h, h'.symm⟩ : _ ∧ w' = W))
    rw [show ((m.toNat : Nat) : Int) = m by omega] at h
    rw [hSD]
    exact h
  have hdl := digL_len (n := m.toNat) (by omega)
  obtain ⟨S1, hS1⟩ : ∃ S, S = st (kCharge ++ [32]) := ⟨_, rfl⟩
  have eS1 : SK ++ ⟨#[32]⟩ = S1 := by rw [hS1, hSK]; exact st_append _ _
  have bS1 : ¬ 9223372036854775807 < SK.size + 1 := by rw [hSK, st_size]; simp; omega
  obtain ⟨S2, hS2⟩ : ∃ S, S = st ((kCharge ++ [32]) ++ i) := ⟨_, rfl⟩
  have eS2 : S1 ++ SI = S2 := by rw [hS2, hS1, hSI]; exact st_append _ _
  have bS2 : ¬ 9223372036854775807 < S1.size + SI.size := by rw [hS1, st_size, hSI, st_size]; simp; omega
  obtain ⟨S3, hS3⟩ : ∃ S, S = st (((kCharge ++ [32]) ++ i) ++ [32]) := ⟨_, rfl⟩
  have eS3 : S2 ++ ⟨#[32]⟩ = S3 := by rw [hS3, hS2]; exact st_append _ _
  have bS3 : ¬ 9223372036854775807 < S2.size + 1 := by rw [hS2, st_size]; simp; omega
  obtain ⟨S4, hS4⟩ : ∃ S, S = st ((((kCharge ++ [32]) ++ i) ++ [32]) ++ b) := ⟨_, rfl⟩
  have eS4 : S3 ++ SB = S4 := by rw [hS4, hS3, hSB]; exact st_append _ _
  have bS4 : ¬ 9223372036854775807 < S3.size + SB.size := by rw [hS3, st_size, hSB, st_size]; simp; omega
  obtain ⟨S5, hS5⟩ : ∃ S, S = st (((((kCharge ++ [32]) ++ i) ++ [32]) ++ b) ++ [32]) := ⟨_, rfl⟩
  have eS5 : S4 ++ ⟨#[32]⟩ = S5 := by rw [hS5, hS4]; exact st_append _ _
  have bS5 : ¬ 9223372036854775807 < S4.size + 1 := by rw [hS4, st_size]; simp; omega
  obtain ⟨S6, hS6⟩ : ∃ S, S = st ((((((kCharge ++ [32]) ++ i) ++ [32]) ++ b) ++ [32]) ++ digL m.toNat) := ⟨_, rfl⟩
  have eS6 : S5 ++ SD = S6 := by rw [hS6, hS5, hSD]; exact st_append _ _
  have bS6 : ¬ 9223372036854775807 < S5.size + SD.size := by rw [hS5, st_size, hSD, st_size]; simp; omega
  rw [← hS6, ← hSK, ← hSI, ← hSB]
  simp only [← hSK] at fkSale fkRefund fkCharge fkTick fkReply
  clear hS1 hS2 hS3 hS4 hS5 hS6 hSK hSI hSB hSD hi hb hm hkl hdl
  have HBX : Hid (Blk (w.alloc (.cells #[.string SK, .string SI, .string SB, .string (st []), .string (st []), .int .i64 m, .slice a 0 cp] 24)) w.heap.size 24 #[.string SK, .string SI, .string SB, .string (st []), .string (st []), .int .i64 m, .slice a 0 cp]) := Blk.new w _ _
  have HBW : Hid (Below w.heap.size w (w.alloc (.cells #[.string SK, .string SI, .string SB, .string (st []), .string (st []), .int .i64 m, .slice a 0 cp] 24))) := (Below.refl _ w).alloc (Nat.le_refl _) _
  go_enter Tryz.func15, Tryz.ntmps15
  go_upto_region 1 with fail
  obtain ⟨bx, hbx⟩ : ∃ bx, bx = w.heap.size := ⟨_, rfl⟩
  have HE := Lib.hid hbx
  rw [← hbx] at HBX ⊢
  generalize w.alloc (.cells #[.string SK, .string SI, .string SB, .string (st []), .string (st []), .int .i64 m, .slice a 0 cp] 24) = w0 at HBX HBW ⊢
  clear hbx
  obtain ⟨d0, d1, d2, d3, d4, d5, d6⟩ := cell_seven HBX.out
  go_wp2
  go_quiet ((go_at_call 42; exact Calls.quiet_of_same (HD _).out))
  go_wp2
  go_ret
  exact ⟨rfl, drewN_below HBW.out _⟩

set_option maxHeartbeats 3200000 in
set_option maxRecDepth 100000 in
theorem rtext_kReply (b t : List UInt8) (m : Int) (a : Option Addr) (cp : Nat) (w : World) (hb : b.length ≤ 60) (ht : t.length ≤ 20) (hne : t ≠ []) (hm : 0 ≤ m ∧ m ≤ 1125899906842624) :
    Calls Tryz.prog 15 #[.agg #[.string (st kReply), .string (st []), .string (st b), .string (st []), .string (st t), .int .i64 m, .slice a 0 cp]] w fun e w' => e = .returned (.string (st ((((([114, 101, 112, 108, 121, 32] ++ b) ++ [32]) ++ t) ++ [32]) ++ digL m.toNat))) ∧ Below w.heap.size w w' := by
  have fkSale : ((st kReply).toList == [115, 97, 108, 101]) = false := by rw [lit_eqA]; decide
  have fkRefund : ((st kReply).toList == [114, 101, 102, 117, 110, 100]) = false := by rw [lit_eqA]; decide
  have fkCharge : ((st kReply).toList == [99, 104, 97, 114, 103, 101, 98, 97, 99, 107]) = false := by rw [lit_eqA]; decide
  have fkTick : ((st kReply).toList == [116, 105, 99, 107]) = false := by rw [lit_eqA]; decide
  have fkReply : ((st kReply).toList == [114, 101, 112, 108, 121]) = true := by rw [lit_eqA]; decide
  have q0 := empty_eqA t
  rw [decide_eq_false hne] at q0
  have HB0 : Hid (∀ o n, Below w.heap.size w ((w.alloc o).drewN n)) := fun o n => drewN_below ((Below.refl _ w).alloc (Nat.le_refl _) o) n
  obtain ⟨SB, hSB⟩ : ∃ S, S = st b := ⟨_, rfl⟩
  obtain ⟨SC, hSC⟩ : ∃ S, S = st t := ⟨_, rfl⟩
  obtain ⟨SD, hSD⟩ : ∃ S, S = st (digL m.toNat) := ⟨_, rfl⟩
  have HD : ∀ W, Hid (Calls Tryz.prog 42 #[.int .i64 m] W fun e w' => e = .returned (.string SD) ∧ w' = W) := fun W => by
    have h := (rdigits_any m.toNat m.toNat W (Nat.le_refl _) (by omega)).mono (fun e w' ⟨h, h'⟩ => (⟨h, h'.symm⟩ : _ ∧ w' = W))
    rw [show ((m.toNat : Nat) : Int) = m by omega] at h
    rw [hSD]
    exact h
  have hdl := digL_len (n := m.toNat) (by omega)
  obtain ⟨S1, hS1⟩ : ∃ S, S = st ([114, 101, 112, 108, 121, 32] ++ b) := ⟨_, rfl⟩
  have eS1 : ⟨#[114, 101, 112, 108, 121, 32]⟩ ++ SB = S1 := by rw [hS1, hSB]; exact st_append _ _
  have bS1 : ¬ 9223372036854775807 < 6 + SB.size := by rw [hSB, st_size]; simp; omega
  obtain ⟨S2, hS2⟩ : ∃ S, S = st (([114, 101, 112, 108, 121, 32] ++ b) ++ [32]) := ⟨_, rfl⟩
  have eS2 : S1 ++ ⟨#[32]⟩ = S2 := by rw [hS2, hS1]; exact st_append _ _
  have bS2 : ¬ 9223372036854775807 < S1.size + 1 := by rw [hS1, st_size]; simp; omega
  obtain ⟨S3, hS3⟩ : ∃ S, S = st ((([114, 101, 112, 108, 121, 32] ++ b) ++ [32]) ++ t) := ⟨_, rfl⟩
  have eS3 : S2 ++ SC = S3 := by rw [hS3, hS2, hSC]; exact st_append _ _
  have bS3 : ¬ 9223372036854775807 < S2.size + SC.size := by rw [hS2, st_size, hSC, st_size]; simp; omega
  obtain ⟨S4, hS4⟩ : ∃ S, S = st (((([114, 101, 112, 108, 121, 32] ++ b) ++ [32]) ++ t) ++ [32]) := ⟨_, rfl⟩
  have eS4 : S3 ++ ⟨#[32]⟩ = S4 := by rw [hS4, hS3]; exact st_append _ _
  have bS4 : ¬ 9223372036854775807 < S3.size + 1 := by rw [hS3, st_size]; simp; omega
  obtain ⟨S5, hS5⟩ : ∃ S, S = st ((((([114, 101, 112, 108, 121, 32] ++ b) ++ [32]) ++ t) ++ [32]) ++ digL m.toNat) := ⟨_, rfl⟩
  have eS5 : S4 ++ SD = S5 := by rw [hS5, hS4, hSD]; exact st_append _ _
  have bS5 : ¬ 9223372036854775807 < S4.size + SD.size := by rw [hS4, st_size, hSD, st_size]; simp; omega
  rw [← hS5, ← hSB, ← hSC]
  rw [← hSC] at q0
  clear hS1 hS2 hS3 hS4 hS5 hSB hSC hSD hb ht hm hdl hne
  have HBX : Hid (Blk (w.alloc (.cells #[.string (st kReply), .string (st []), .string SB, .string (st []), .string SC, .int .i64 m, .slice a 0 cp] 24)) w.heap.size 24 #[.string (st kReply), .string (st []), .string SB, .string (st []), .string SC, .int .i64 m, .slice a 0 cp]) := Blk.new w _ _
  have HBW : Hid (Below w.heap.size w (w.alloc (.cells #[.string (st kReply), .string (st []), .string SB, .string (st []), .string SC, .int .i64 m, .slice a 0 cp] 24))) := (Below.refl _ w).alloc (Nat.le_refl _) _
  go_enter Tryz.func15, Tryz.ntmps15
  go_upto_region 1 with fail
  obtain ⟨bx, hbx⟩ : ∃ bx, bx = w.heap.size := ⟨_, rfl⟩
  have HE := Lib.hid hbx
  rw [← hbx] at HBX ⊢
  generalize w.alloc (.cells #[.string (st kReply), .string (st []), .string SB, .string (st []), .string SC, .int .i64 m, .slice a 0 cp] 24) = w0 at HBX HBW ⊢
  clear hbx
  obtain ⟨d0, d1, d2, d3, d4, d5, d6⟩ := cell_seven HBX.out
  go_wp2
  go_quiet ((go_at_call 42; exact Calls.quiet_of_same (HD _).out))
  go_wp2
  go_ret
  exact ⟨rfl, drewN_below HBW.out _⟩

/-- the shares, as the document's text has them -/
def shF (xs : List Sh) : List UInt8 := xs.flatMap fun s => [32] ++ s.1 ++ [58] ++ digL s.2.toNat
theorem shF_len : ∀ (xs : List Sh), (∀ s ∈ xs, badS s = false) → (shF xs).length ≤ 43 * xs.length
  | [], _ => by simp [shF]
  | x :: r, h => by
    have h1 := badS_not (h x (by simp))
    have h2 := shF_len r (fun s hs => h s (by simp [hs]))
    have h3 := digL_len (n := x.2.toNat) (by omega)
    have e : shF (x :: r) = ([32] ++ x.1 ++ [58] ++ digL x.2.toNat) ++ shF r := by simp [shF]
    rw [e, List.length_append, List.length_cons]
    simp only [List.length_append, List.length_cons, List.length_nil]
    omega
theorem shF_next {xs : List Sh} {j : Nat} {p : List UInt8} {q : Int} (h : xs[j]? = some (p, q)) : shF (xs.take (j + 1)) = shF (xs.take j) ++ ([32] ++ p ++ [58] ++ digL q.toNat) := by
  obtain ⟨h1, h2⟩ := List.getElem?_eq_some_iff.1 h
  unfold shF
  rw [List.take_succ_eq_append_getElem h1, h2, List.flatMap_append]
  simp

set_option maxHeartbeats 6400000 in
set_option maxRecDepth 100000 in
theorem rtext_kSale (i u t : List UInt8) (m : Int) (xs : List Sh) (a : Option Addr) (cp : Nat) (w : World) (hi : i.length ≤ 20) (hu : u.length ≤ 3) (ht : t.length ≤ 20) (hm : 0 ≤ m ∧ m ≤ 1125899906842624) (hr : RowG 2 cSh w a xs) (hl : xs.length ≤ 8) (hbs : ∀ s ∈ xs, badS s = false) (H : List UInt8) (hH : H = ((((((([115, 97, 108, 101, 32] ++ i) ++ [32]) ++ u) ++ [32]) ++ (orD t)) ++ [32]) ++ digL m.toNat)) :
    Calls Tryz.prog 15 #[.agg #[.string (st kSale), .string (st i), .string (st []), .string (st u), .string (st t), .int .i64 m, .slice a xs.length cp]] w fun e w' => e = .returned (.string (st (H ++ shF xs))) ∧ Below w.heap.size w w' := by
  have fkSale : ((st kSale).toList == [115, 97, 108, 101]) = true := by rw [lit_eqA]; decide
  have fkRefund : ((st kSale).toList == [114, 101, 102, 117, 110, 100]) = false := by rw [lit_eqA]; decide
  have fkCharge : ((st kSale).toList == [99, 104, 97, 114, 103, 101, 98, 97, 99, 107]) = false := by rw [lit_eqA]; decide
  have fkTick : ((st kSale).toList == [116, 105, 99, 107]) = false := by rw [lit_eqA]; decide
  have fkReply : ((st kSale).toList == [114, 101, 112, 108, 121]) = false := by rw [lit_eqA]; decide
  have q0 := empty_eqA t
  have hHL : H.length ≤ 200 := by
    have h1 := orD_len ht
    have h2 := digL_len (n := m.toNat) (by omega)
    rw [hH]
    simp only [List.length_append, List.length_cons, List.length_nil]
    omega
  have hob := orD_len ht
  have HBX : Hid (Blk (w.alloc (.cells #[.string (st kSale), .string (st i), .string (st []), .string (st u), .string (st t), .int .i64 m, .slice a xs.length cp] 24)) w.heap.size 24 #[.string (st kSale), .string (st i), .string (st []), .string (st u), .string (st t), .int .i64 m, .slice a xs.length cp]) := Blk.new w _ _
  have hb0 : Below w.heap.size w (w.alloc (.cells #[.string (st kSale), .string (st i), .string (st []), .string (st u), .string (st t), .int .i64 m, .slice a xs.length cp] 24)) := (Below.refl _ w).alloc (Nat.le_refl _) _
  have HBW := Lib.hid hb0
  have HR := Lib.hid (hr.keep hb0)
  have HBS := Lib.hid hbs
  have HHL := Lib.hid hHL
  obtain ⟨SI, hSI⟩ : ∃ S, S = st i := ⟨_, rfl⟩
  obtain ⟨SU, hSU⟩ : ∃ S, S = st u := ⟨_, rfl⟩
  obtain ⟨SC, hSC⟩ : ∃ S, S = st (orD t) := ⟨_, rfl⟩
  obtain ⟨SD, hSD⟩ : ∃ S, S = st (digL m.toNat) := ⟨_, rfl⟩
  have HD : ∀ W, Hid (Calls Tryz.prog 42 #[.int .i64 m] W fun e w' => e = .returned (.string SD) ∧ w' = W) := fun W => by
    have h := (rdigits_any m.toNat m.toNat W (Nat.le_refl _) (by omega)).mono (fun e w' ⟨h, h'⟩ => (⟨h, h'.symm⟩ : _ ∧ w' = W))
    rw [show ((m.toNat : Nat) : Int) = m by omega] at h
    rw [hSD]
    exact h
  have hdl := digL_len (n := m.toNat) (by omega)
  obtain ⟨S1, hS1⟩ : ∃ S, S = st ([115, 97, 108, 101, 32] ++ i) := ⟨_, rfl⟩
  have eS1 : ⟨#[115, 97, 108, 101, 32]⟩ ++ SI = S1 := by rw [hS1, hSI]; exact st_append _ _
  have bS1 : ¬ 9223372036854775807 < 5 + SI.size := by rw [hSI, st_size]; simp; omega
  obtain ⟨S2, hS2⟩ : ∃ S, S = st (([115, 97, 108, 101, 32] ++ i) ++ [32]) := ⟨_, rfl⟩
  have eS2 : S1 ++ ⟨#[32]⟩ = S2 := by rw [hS2, hS1]; exact st_append _ _
  have bS2 : ¬ 9223372036854775807 < S1.size + 1 := by rw [hS1, st_size]; simp; omega
  obtain ⟨S3, hS3⟩ : ∃ S, S = st ((([115, 97, 108, 101, 32] ++ i) ++ [32]) ++ u) := ⟨_, rfl⟩
  have eS3 : S2 ++ SU = S3 := by rw [hS3, hS2, hSU]; exact st_append _ _
  have bS3 : ¬ 9223372036854775807 < S2.size + SU.size := by rw [hS2, st_size, hSU, st_size]; simp; omega
  obtain ⟨S4, hS4⟩ : ∃ S, S = st (((([115, 97, 108, 101, 32] ++ i) ++ [32]) ++ u) ++ [32]) := ⟨_, rfl⟩
  have eS4 : S3 ++ ⟨#[32]⟩ = S4 := by rw [hS4, hS3]; exact st_append _ _
  have bS4 : ¬ 9223372036854775807 < S3.size + 1 := by rw [hS3, st_size]; simp; omega
  obtain ⟨S5, hS5⟩ : ∃ S, S = st ((((([115, 97, 108, 101, 32] ++ i) ++ [32]) ++ u) ++ [32]) ++ (orD t)) := ⟨_, rfl⟩
  have eS5 : S4 ++ SC = S5 := by rw [hS5, hS4, hSC]; exact st_append _ _
  have bS5 : ¬ 9223372036854775807 < S4.size + SC.size := by rw [hS4, st_size, hSC, st_size]; simp; omega
  obtain ⟨S6, hS6⟩ : ∃ S, S = st (((((([115, 97, 108, 101, 32] ++ i) ++ [32]) ++ u) ++ [32]) ++ (orD t)) ++ [32]) := ⟨_, rfl⟩
  have eS6 : S5 ++ ⟨#[32]⟩ = S6 := by rw [hS6, hS5]; exact st_append _ _
  have bS6 : ¬ 9223372036854775807 < S5.size + 1 := by rw [hS5, st_size]; simp; omega
  obtain ⟨S7, hS7⟩ : ∃ S, S = st ((((((([115, 97, 108, 101, 32] ++ i) ++ [32]) ++ u) ++ [32]) ++ (orD t)) ++ [32]) ++ digL m.toNat) := ⟨_, rfl⟩
  have eS7 : S6 ++ SD = S7 := by rw [hS7, hS6, hSD]; exact st_append _ _
  have bS7 : ¬ 9223372036854775807 < S6.size + SD.size := by rw [hS6, st_size, hSD, st_size]; simp; omega
  have HSL : Hid (S7 = st H) := by show _ = _; rw [hS7, hH]
  have HSC := Lib.hid hSC
  obtain ⟨n, hn⟩ : ∃ n, n = xs.length := ⟨_, rfl⟩
  have HN := Lib.hid hn
  rw [← hn] at hl
  simp only [← hn] at HBX HBW HR ⊢
  simp only [← hSI, ← hSU] at HBX HBW HR ⊢
  clear hn hS1 hS2 hS3 hS4 hS5 hS6 hS7 hSI hSU hSC hSD hi hu ht hm hr hbs hob hdl hHL hH hb0
  go_enter Tryz.func15, Tryz.ntmps15
  go_upto_region 1 with fail
  obtain ⟨bx, hbx⟩ : ∃ bx, bx = w.heap.size := ⟨_, rfl⟩
  have HE := Lib.hid hbx
  rw [← hbx] at HBX ⊢
  generalize w.alloc (.cells #[.string (st kSale), .string SI, .string (st []), .string SU, .string (st t), .int .i64 m, .slice a n cp] 24) = w0 at HBX HBW HR ⊢
  clear hbx
  obtain ⟨d0, d1, d2, d3, d4, d5, d6⟩ := cell_seven HBX.out
  go_upto_if 9 with fail
  go_cut [3] from 8 to 9 (fun v3 wx => v3 = .string SC ∧ w0 = wx)
  case first =>
    by_cases h0 : t = []
    · have HZ : Hid (SC = ⟨#[45]⟩) := by show _ = _; rw [HSC.out, orD, if_pos h0]; rfl
      clear q0
      subst h0
      go_wp2
      go_meet
      exact ⟨by rw [HZ.out], rfl⟩
    · have HZ : Hid (SC = st t) := by show _ = _; rw [HSC.out, orD, if_neg h0]
      clear q0
      go_wp2
      go_meet
      exact ⟨by rw [HZ.out], rfl⟩
  case rest =>
    obtain ⟨rfl, hwc⟩ := hcut
    subst hwc
    go_upto_region 6 with fail
    go_quiet ((go_at_call 42; exact Calls.quiet_of_same (HD _).out))
    rw [HSL.out]
    go_upto_region 7 with fail
    have hbd : ∀ k, Below w0.heap.size w0 (w0.drewN k) := fun k => drewN_below (Below.refl _ w0) k
    have HBd := Lib.hid hbd
    clear HD eS1 bS1 eS2 bS2 eS3 bS3 eS4 bS4 eS5 bS5 eS6 bS6 eS7 bS7 hbd
    clear d0 d1 d2 d3 d4 d5 d6 q0
    go_wp2
    go_loopg [4, 5] n (fun gk v4 ix wr => ∃ j : Nat, j ≤ n ∧ ix = .int .i64 j ∧ n - j ≤ gk ∧ v4 = .string (st (H ++ shF (xs.take j))) ∧ Hid (Below w0.heap.size w0 wr))
    case atStart => exact ⟨0, Nat.zero_le _, rfl, by omega, by simp [shF], HBd.out _⟩
    case round =>
      obtain ⟨j, hj, rfl, hgk, rfl, HB⟩ := hrel
      have HBXr := Lib.hid (HBX.out.since HB.out)
      obtain ⟨d0, d1, d2, d3, d4, d5, d6⟩ := cell_seven HBXr.out
      by_cases hlt : j < n
      · obtain ⟨x, hx⟩ : ∃ x, xs[j]? = some x := ⟨_, List.getElem?_eq_getElem (by rw [← HN.out]; exact hlt)⟩
        have hbad := badS_not (HBS.out x (List.mem_of_getElem? hx))
        obtain ⟨p, q⟩ := x
        simp only at hbad
        obtain ⟨b1, off, rfl⟩ := HR.out.form (by rw [← HN.out]; omega)
        have hat := (HR.out.keep HB.out).at hx
        have c0 : wr.cell? ⟨b1, off + j * 2, none⟩ = some (.string (st p)) := by simpa using hat 0 _ rfl
        have c1 : wr.cell? ⟨b1, off + j * 2 + 1, none⟩ = some (.int .i64 q) := hat 1 _ rfl
        have hql := digL_len (n := q.toNat) (by omega)
        have hfl := shF_len (xs.take j) (fun s hs => HBS.out s (List.mem_of_mem_take hs))
        rw [List.length_take] at hfl
        have hhl := HHL.out
        have HNX : Hid (H ++ shF (xs.take (j + 1)) = (((((H ++ shF (xs.take j)) ++ [32]) ++ p) ++ [58]) ++ digL q.toNat)) := by show _ = _; rw [shF_next hx]; simp
        obtain ⟨S0, hS0⟩ : ∃ S, S = st (H ++ shF (xs.take j)) := ⟨_, rfl⟩
        obtain ⟨SP, hSP⟩ : ∃ S, S = st p := ⟨_, rfl⟩
        obtain ⟨SE, hSE⟩ : ∃ S, S = st (digL q.toNat) := ⟨_, rfl⟩
        have HD : ∀ W, Hid (Calls Tryz.prog 42 #[.int .i64 q] W fun e w' => e = .returned (.string SE) ∧ w' = W) := fun W => by
          have h := (rdigits_any q.toNat q.toNat W (Nat.le_refl _) (by omega)).mono (fun e w' ⟨h, h'⟩ => (⟨h, h'.symm⟩ : _ ∧ w' = W))
          rw [show ((q.toNat : Nat) : Int) = q by omega] at h
          rw [hSE]
          exact h
        obtain ⟨Q1, hQ1⟩ : ∃ S, S = st ((H ++ shF (xs.take j)) ++ [32]) := ⟨_, rfl⟩
        have eQ1 : S0 ++ ⟨#[32]⟩ = Q1 := by rw [hQ1, hS0]; exact st_append _ _
        have bQ1 : ¬ 9223372036854775807 < S0.size + 1 := by rw [hS0, st_size]; simp; omega
        obtain ⟨Q2, hQ2⟩ : ∃ S, S = st (((H ++ shF (xs.take j)) ++ [32]) ++ p) := ⟨_, rfl⟩
        have eQ2 : Q1 ++ SP = Q2 := by rw [hQ2, hQ1, hSP]; exact st_append _ _
        have bQ2 : ¬ 9223372036854775807 < Q1.size + SP.size := by rw [hQ1, st_size, hSP, st_size]; simp; omega
        obtain ⟨Q3, hQ3⟩ : ∃ S, S = st ((((H ++ shF (xs.take j)) ++ [32]) ++ p) ++ [58]) := ⟨_, rfl⟩
        have eQ3 : Q2 ++ ⟨#[58]⟩ = Q3 := by rw [hQ3, hQ2]; exact st_append _ _
        have bQ3 : ¬ 9223372036854775807 < Q2.size + 1 := by rw [hQ2, st_size]; simp; omega
        obtain ⟨Q4, hQ4⟩ : ∃ S, S = st (((((H ++ shF (xs.take j)) ++ [32]) ++ p) ++ [58]) ++ digL q.toNat) := ⟨_, rfl⟩
        have eQ4 : Q3 ++ SE = Q4 := by rw [hQ4, hQ3, hSE]; exact st_append _ _
        have bQ4 : ¬ 9223372036854775807 < Q3.size + SE.size := by rw [hQ3, st_size, hSE, st_size]; simp; omega
        have HQL : Hid (Q4 = st (H ++ shF (xs.take (j + 1)))) := by show _ = _; rw [hQ4, HNX.out]
        have hkz : (0 : Int) ≤ (j : Int) := by omega
        have hkn : (j : Int) < (n : Int) := by omega
        rw [← hSP] at c0
        have HBn : Hid (∀ z, Below w0.heap.size w0 (wr.drewN z)) := fun z => drewN_below HB.out z
        rw [← hS0]
        clear hQ1 hQ2 hQ3 hQ4 hS0 hSP hSE hx hbad hat hql hfl hhl HNX
        go_upto_region 10 with fail
        go_quiet ((go_at_call 42; exact Calls.quiet_of_same (HD _).out))
        go_wp2
        go_roundg (n - (j + 1))
        case measure => omega
        case rel => exact ⟨j + 1, by omega, by go_num, by omega, by rw [HQL.out], HBn.out _⟩
      · have hkn : ¬ ((j : Int) < (n : Int)) := by omega
        have HT : Hid (xs.take j = xs) := List.take_of_length_le (by rw [← HN.out]; omega)
        have HBF := Lib.hid (bel_onG HBW.out HBW.out.size HB.out)
        go_wp2
        go_ret
        exact ⟨by rw [HT.out]; first | done | rfl, HBF.out⟩
/-- ████ THE CONTRACT OF the document's Text ████ -/
theorem rtext_any (c : Cm) (hg : GoodC c) (a : Option Addr) (cp : Nat) (w : World) (hr : RowG 2 cSh w a c.sh) :
    Calls Tryz.prog 15 #[.agg #[.string (st c.kind), .string (st c.id), .string (st c.about), .string (st c.cur), .string (st c.cat), .int .i64 c.amt, .slice a c.sh.length cp]] w fun e w' => e = .returned (.string (st (textC c))) ∧ Below w.heap.size w w' := by
  cases hg with
  | sale i u t m s h1 h2 h3 h4 h5 h6 =>
    obtain ⟨r1, r2, r3⟩ := rgF_few8 h6
    have q3 : t.length ≤ 20 := by
      rcases h3 with h3 | h3
      · rw [h3]; simp
      · exact (nameB_some h3).2.2.1
    have h := rtext_kSale i u t m s a cp w (nameB_some h1).2.2.1 (by have := (curB_some h2).1; omega) q3 (by omega) hr r2 r3 _ rfl
    have e : textC ⟨kSale, i, [], u, t, m, s⟩ = ((((((([115, 97, 108, 101, 32] ++ i) ++ [32]) ++ u) ++ [32]) ++ (orD t)) ++ [32]) ++ digL m.toNat) ++ shF s := by
      have ht : textC ⟨kSale, i, [], u, t, m, s⟩ = Go.Lib.join (kSale :: i :: u :: orD t :: digL m.toNat :: s.map fun y => y.1 ++ [58] ++ digL y.2.toNat) [32] := by
        have hw : wordsC ⟨kSale, i, [], u, t, m, s⟩ [0, 3, 4, 6, 8] = kSale :: i :: u :: orD t :: digL m.toNat :: s.map fun y => y.1 ++ [58] ++ digL y.2.toNat := by simp [wordsC, wordsF]
        rw [← hw]; rfl
      rw [ht, Go.Lib.join_cons]
      simp [Go.Lib.joinTail, shF, List.flatMap_def, Function.comp_def, kSale]
    rw [e]
    exact h
  | take k i b m hk h1 h2 h4 =>
    have hf : formC k = some [0, 1, 6] := by rcases hk with rfl | rfl <;> rfl
    have ht : textC ⟨k, i, b, [], [], m, []⟩ = ((((((k ++ [32]) ++ i) ++ [32]) ++ b) ++ [32]) ++ digL m.toNat) := by
      have hw : wordsC ⟨k, i, b, [], [], m, []⟩ [0, 1, 6] = k :: [i, b, digL m.toNat] := by simp [wordsC, wordsF]
      unfold textC textF
      simp only [hf]
      rw [hw, Go.Lib.join_cons]
      simp [Go.Lib.joinTail]
    rw [ht]
    rcases hk with rfl | rfl
    · exact rtext_kRefund i b m a cp w (nameB_some h1).2.2.1 (nameB_some h2).2.2.1 (by omega)
    · exact rtext_kCharge i b m a cp w (nameB_some h1).2.2.1 (nameB_some h2).2.2.1 (by omega)
  | two k i b hk h1 h2 =>
    have hf : formC k = some [0, 1] := by rcases hk with rfl | rfl | rfl <;> rfl
    have ht : textC ⟨k, i, b, [], [], 0, []⟩ = ((((k ++ [32]) ++ i) ++ [32]) ++ b) := by
      have hw : wordsC ⟨k, i, b, [], [], 0, []⟩ [0, 1] = k :: [i, b] := by simp [wordsC, wordsF]
      unfold textC textF
      simp only [hf]
      rw [hw, Go.Lib.join_cons]
      simp [Go.Lib.joinTail]
    rw [ht]
    rcases hk with rfl | rfl | rfl
    · exact rtext_kReverse i b a cp w (nameB_some h1).2.2.1 (nameB_some h2).2.2.1
    · exact rtext_kHold i b a cp w (nameB_some h1).2.2.1 (nameB_some h2).2.2.1
    · exact rtext_kFree i b a cp w (nameB_some h1).2.2.1 (nameB_some h2).2.2.1
  | tick => exact rtext_tick a cp w
  | reply b t m h1 h2 h4 =>
    have hot : orD t = t := by unfold orD; rw [if_neg (nameB_some h2).1]
    have ht : textC ⟨kReply, [], b, [], t, m, []⟩ = ((((([114, 101, 112, 108, 121, 32] ++ b) ++ [32]) ++ t) ++ [32]) ++ digL m.toNat) := by
      have hw : wordsC ⟨kReply, [], b, [], t, m, []⟩ [2, 5, 7] = kReply :: [b, t, digL m.toNat] := by simp [wordsC, wordsF, hot]
      have hf : formC kReply = some [2, 5, 7] := rfl
      unfold textC textF
      simp only [hf]
      rw [hw, Go.Lib.join_cons]
      simp [Go.Lib.joinTail, kReply]
    rw [ht]
    exact rtext_kReply b t m a cp w (nameB_some h1).2.2.1 (nameB_some h2).2.2.1 (nameB_some h2).1 h4
end Go.Proofs.YtkflakeocdlinaaGreatDoor
