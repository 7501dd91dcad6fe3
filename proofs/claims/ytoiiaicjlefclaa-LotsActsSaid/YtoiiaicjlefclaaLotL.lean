/-
  Contract of souklaw14.lives.
-/
import Derived.Test.YtoiiaicjlefclaaLotF
import Derived.Test.YtoiiaicjlefclaaLotG
namespace Go.Proofs.Ytoiiaicjlefclaa
open Go.RowKit Go.Deep

def lvA : Lt := ([97], [69, 85, 82], 1, 5)
def lvB : Lt := ([98], [69, 85, 82], 2, 3)

theorem lv1 (B b : Nat) (v : Value) (w : World) (h : LotsP B w b [] v) :
    Calls Try.prog 11 #[.pointer (some ⟨b, 0, none⟩), .agg #[.string ⟨#[97]⟩, .string ⟨#[69, 85, 82]⟩, .int .i64 1, .int .i64 5]] w (AddP B b [] v lvA w) :=
  add_yes B b [] v [97] [69, 85, 82] 1 5 w h (by decide) (by decide) (by decide)
theorem lv2 (B b : Nat) (v : Value) (w : World) (h : LotsP B w b [lvA] v) :
    Calls Try.prog 11 #[.pointer (some ⟨b, 0, none⟩), .agg #[.string ⟨#[98]⟩, .string ⟨#[69, 85, 82]⟩, .int .i64 2, .int .i64 3]] w (AddP B b [lvA] v lvB w) :=
  add_yes B b [lvA] v [98] [69, 85, 82] 2 3 w h (by decide) (by decide) (by decide)
theorem lv3 (B b : Nat) (v : Value) (w : World) (h : LotsP B w b [lvA, lvB] v) :
    Calls Try.prog 9 #[.pointer (some ⟨b, 0, none⟩), .int .i64 4] w fun e w' => ∃ g off c v', e = .returned (.slice (some ⟨g, off, none⟩) 1 c) ∧ w'.cell? ⟨g, off, none⟩ = some (.string ⟨#[98]⟩) ∧ LotsP B w' b [lvA] v' ∧ Stp [b] w w' :=
  (due_any 4 B b [lvA, lvB] v w h (by decide)).mono fun e w' ⟨a, c, v', he, hr, _, hl, hs, _⟩ => by
    have e1 : dueL 4 [lvA, lvB] = [lvB] := by decide
    have e2 : restL 4 [lvA, lvB] = [lvA] := by decide
    rw [e1] at he hr
    rw [e2] at hl
    obtain ⟨g, off, rfl⟩ := hr.form (by decide)
    have := hr.at (i := 0) (x := lvB) rfl 0 (.string ⟨#[98]⟩) rfl
    exact ⟨g, off, c, v', he, by simpa using this, hl, hs⟩
theorem lv4 (B b : Nat) (v : Value) (w : World) (h : LotsP B w b [lvA] v) :
    Calls Try.prog 16 #[.pointer (some ⟨b, 0, none⟩)] w fun e w' => e = .returned (.int .i64 5) ∧ Below w.heap.size w w' :=
  (next_any B b [lvA] v w h (by decide)).mono fun e w' ⟨he, hb⟩ => ⟨by rw [he]; rfl, hb⟩

theorem stp_bel {B b : Nat} {l : List Lt} {v : Value} {w0 w w' : World} {fp : List Nat} (hb : Below B w0 w) (h : LotsP B w b l v) (hs : Stp fp w w') (hf : ∀ k ∈ fp, k ∈ fpL b v) (hB : B ≤ w.heap.size) : Below B w0 w' :=
  hb.trans (hs.below (fun k hk => (h.lt k (hf k hk)).2) hB)

set_option maxHeartbeats 1600000 in
theorem lives14_any (w : World) : Calls Try.prog 4 #[] w fun e w' => e = .returned (.bool true) ∧ Below w.heap.size w w' := by
  have HB0 : Hid (Below w.heap.size w (w.alloc (.cells #[.slice none 0 0] 27))) := (Below.refl _ w).alloc (Nat.le_refl _) _
  have HL0 : Hid (LotsP w.heap.size (w.alloc (.cells #[.slice none 0 0] 27)) w.heap.size [] (.slice none 0 0)) := ⟨Nat.le_refl _, Blk.new w _ _, World.ownsRow_nil _ _ _ _⟩
  obtain ⟨B, hB⟩ : ∃ B, B = w.heap.size := ⟨_, rfl⟩
  have HBE := Lib.hid hB
  rw [← hB] at HB0 HL0
  go_enter Try.func4, Try.ntmps4
  go_wp2_with fail
  rw [← hB]
  clear hB
  refine (lv1 B B _ _ HL0.out).mono ?_
  rintro e w1 ⟨rfl, v1, hl1, hs1, _⟩
  have HB1 := Lib.hid (stp_bel HB0.out HL0.out hs1 (fun k hk => hk) (by have h := HB0.out.size; rw [← HBE.out] at h; exact h))
  have HL1 := Lib.hid hl1
  have HBS : Hid (B ≤ w1.heap.size) := Nat.le_of_lt (Nat.lt_of_le_of_lt hl1.hb hl1.box.lt)
  clear hl1 hs1 HL0 HB0
  go_wp2_with fail
  refine (lv2 B B v1 w1 HL1.out).mono ?_
  rintro e w2 ⟨rfl, v2, hl2, hs2, _⟩
  have HB2 := Lib.hid (stp_bel HB1.out HL1.out hs2 (fun k hk => hk) HBS.out)
  have HL2 := Lib.hid hl2
  have HBS2 : Hid (B ≤ w2.heap.size) := Nat.le_of_lt (Nat.lt_of_le_of_lt hl2.hb hl2.box.lt)
  clear hl2 hs2 HL1 HB1 HBS
  go_wp2_with fail
  refine (lv3 B B v2 w2 HL2.out).mono ?_
  rintro e w3 ⟨g, off, c, v3, rfl, hcell, hl3, hs3⟩
  have HB3 := Lib.hid (stp_bel HB2.out HL2.out hs3 (fun k hk => by rw [List.mem_singleton] at hk; exact mem_fpL.2 (.inl hk)) HBS2.out)
  have HBS3 : Hid (B ≤ w3.heap.size) := Nat.le_of_lt (Nat.lt_of_le_of_lt hl3.hb hl3.box.lt)
  have H4 := Lib.hid (lv4 B B v3 w3 hl3)
  clear hl3 hs3 HL2 HB2 HBS2
  go_wp2_with fail
  refine H4.out.mono ?_
  rintro e w4 ⟨rfl, hb⟩
  have HB4 := Lib.hid (bel_onG HB3.out HBS3.out hb)
  clear hb H4
  go_wp2
  go_ret
  exact ⟨rfl, by rw [← HBE.out]; exact HB4.out⟩
end Go.Proofs.Ytoiiaicjlefclaa
