/-
  Contract of souklaw16.lives.
-/
import Derived.Test.YtkhkcpoadccflaaGtC
import Derived.Test.YtkhkcpoadccflaaGtK
namespace Go.Proofs.Ytkhkcpoadccflaa
open Go.RowKit Go.Deep

def rcK : Rc := ([107], [], [], 5, true)
def rpK : Rp := ([107], kAcc, 2)

theorem zero_gate {tg tr tq : TypeId} (ht : tg ≠ tr ∧ tg ≠ tq ∧ tr ≠ tq) (w : World) (B : Nat) (hB : B ≤ w.heap.size) : GateP tg tr tq B (w.alloc (.cells #[.slice none 0 0, .slice none 0 0] tg)) w.heap.size [] [] (.slice none 0 0) (.slice none 0 0) :=
  ⟨ht, hB, Blk.new w _ _, World.ownsRow_nil _ _ _ _, World.ownsRow_nil _ _ _ _⟩
theorem tyG : (28 : Nat) ≠ 58 ∧ (28 : Nat) ≠ 40 ∧ (58 : Nat) ≠ 40 := by decide
theorem tyR : (33 : Nat) ≠ 52 ∧ (33 : Nat) ≠ 43 ∧ (52 : Nat) ≠ 43 := by decide

theorem lvG1 (B b : Nat) (v1 v2 : Value) (w : World) (h : GateP 28 58 40 B w b [] [] v1 v2) :
    Calls Try.prog 10 #[.pointer (some ⟨b, 0, none⟩), .agg #[.string ⟨#[112, 97, 121]⟩, .string ⟨#[107]⟩, .string ⟨#[]⟩, .string ⟨#[]⟩, .int .i64 5, .int .i64 0], .int .u8 2] w fun e w' => ∃ ar cp v1' v2', e = .returned (.slice ar 0 cp) ∧ GateP 28 58 40 B w' b [rcK] [] v1' v2' ∧ Stp (fpG b v1 v2) w w' :=
  (ask_any B b [] [] v1 v2 (kPay, [107], [], [], 5, 0) 2 w h (by decide) (by decide) (by decide)).mono fun e w' ⟨ar, cp, he, _, _, v1', v2', hg, hs, _⟩ => ⟨ar, cp, v1', v2', he, hg, hs⟩
theorem lvG2 (B b : Nat) (v1 v2 : Value) (w : World) (h : GateP 28 58 40 B w b [rcK] [] v1 v2) :
    Calls Try.prog 10 #[.pointer (some ⟨b, 0, none⟩), .agg #[.string ⟨#[113, 117, 101, 114, 121]⟩, .string ⟨#[107]⟩, .string ⟨#[]⟩, .string ⟨#[]⟩, .int .i64 0, .int .i64 2], .int .u8 1] w fun e w' => ∃ ar cp, e = .returned (.slice ar 1 cp) ∧ RowG 3 cRp w' ar [rpK] ∧ Stp (fpG b v1 v2) w w' :=
  (ask_any B b [rcK] [] v1 v2 (kQuery, [107], [], [], 0, 2) 1 w h (by decide) (by decide) (by decide)).mono fun e w' ⟨ar, cp, he, hr, _, v1', v2', hg, hs, _⟩ => ⟨ar, cp, he, hr, hs⟩

set_option maxHeartbeats 1600000 in
theorem lives16_any (w : World) : Calls Try.prog 5 #[] w fun e w' => e = .returned (.bool true) ∧ Below w.heap.size w w' := by
  have HG0 := Lib.hid (zero_gate (tg := 28) (tr := 58) (tq := 40) tyG w w.heap.size (Nat.le_refl _))
  have HB0 : Hid (Below w.heap.size w (w.alloc (.cells #[.slice none 0 0, .slice none 0 0] 28))) := (Below.refl _ w).alloc (Nat.le_refl _) _
  obtain ⟨B, hB⟩ : ∃ B, B = w.heap.size := ⟨_, rfl⟩
  have HBE := Lib.hid hB
  rw [← hB] at HG0 HB0
  go_enter Try.func5, Try.ntmps5
  go_wp2_with fail
  rw [← hB]
  clear hB
  refine (lvG1 B B _ _ _ HG0.out).mono ?_
  rintro e w1 ⟨ar, cp, v1, v2, rfl, hg1, hs1⟩
  have HG1 := Lib.hid hg1
  have HB1 : Hid (Below B w w1) := HB0.out.trans (hs1.below (fun k hk => (HG0.out.lt k hk).2) (by have := HG0.out.box.lt; have := HG0.out.hb; omega))
  clear hg1 hs1 HG0 HB0
  go_wp2_with fail
  refine (lvG2 B B v1 v2 w1 HG1.out).mono ?_
  rintro e w2 ⟨ar2, cp2, rfl, hr2, hs2⟩
  have HB2 : Hid (Below B w w2) := HB1.out.trans (hs2.below (fun k hk => (HG1.out.lt k hk).2) (by have := HG1.out.box.lt; have := HG1.out.hb; omega))
  have HBS : Hid (B ≤ w2.heap.size) := Nat.le_trans (by have := HBE.out; omega) HB2.out.size
  have hbe : Below w2.heap.size w2 (w2.alloc (.cells #[.string ⟨#[107]⟩, .string ⟨#[97, 99, 99, 101, 112, 116, 101, 100]⟩, .int .i64 2] 40)) := (Below.refl _ w2).alloc (Nat.le_refl _) _
  have HEQ := Lib.hid (fun c => eqRp_same ar2 (some ⟨w2.heap.size, 0, none⟩) cp2 c [rpK] 1 (w2.alloc (.cells #[.string ⟨#[107]⟩, .string ⟨#[97, 99, 99, 101, 112, 116, 101, 100]⟩, .int .i64 2] 40)) rfl (hr2.keep hbe) (row_one (x := rpK) rfl rfl) (by decide))
  have HB3 : Hid (Below B w (w2.alloc (.cells #[.string ⟨#[107]⟩, .string ⟨#[97, 99, 99, 101, 112, 116, 101, 100]⟩, .int .i64 2] 40))) := HB2.out.alloc HBS.out _
  clear hr2 hs2 hbe HG1 HB1 HB2
  go_wp2_with fail
  refine (HEQ.out _).mono ?_
  rintro e w3 ⟨rfl, hb3⟩
  have HB4 : Hid (Below B w w3) := bel_onG HB3.out (by have := HB3.out.size; have := HBE.out; omega) hb3
  clear hb3 HEQ
  go_wp2
  go_ret
  exact ⟨rfl, by rw [← HBE.out]; exact HB4.out⟩
end Go.Proofs.Ytkhkcpoadccflaa
