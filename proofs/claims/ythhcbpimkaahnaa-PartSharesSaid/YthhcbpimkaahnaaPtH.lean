/-
  souklaw12.lives.
-/
import Derived.Test.YthhcbpimkaahnaaPtG
namespace Go.Proofs.Ythhcbpimkaahnaa
open Go.RowKit Go.Deep

def xs0 : List Sh := [([97], 1), ([98], 2)]
def ps0 : List Prt := [([97], 33, 0), ([98], 67, 0)]

theorem lives12_parts {s t : Nat → Nat} (h : Ordr 2 (fun i => (rf 100 (ptS xs0) (ptW xs0) i : Int)) s t) : prtL xs0 (partK 100 (ptS xs0) (ptW xs0) t (leftN 100 (ptS xs0) (ptW xs0) 2)) 0 = ps0 := by
  have k0 : rf 100 (ptS xs0) (ptW xs0) 0 = 1 := by decide
  have k1 : rf 100 (ptS xs0) (ptW xs0) 1 = 2 := by decide
  have b := h.ordd 0 1 (by omega) (by omega) (by omega)
  have l0 := h.lt 0 (by omega)
  have l1 := h.lt 1 (by omega)
  have e0 : s 0 = 1 := by
    rcases (by omega : s 0 = 0 ∨ s 0 = 1) with e | e
    · rcases (by omega : s 1 = 0 ∨ s 1 = 1) with e' | e'
      · rw [e, e'] at b; unfold bef at b; omega
      · rw [e, e'] at b; unfold bef at b; simp only [k0, k1] at b; omega
    · exact e
  have e1 : s 1 = 0 := by
    rcases (by omega : s 1 = 0 ∨ s 1 = 1) with e' | e'
    · exact e'
    · rw [e0, e'] at b; unfold bef at b; omega
  have t1 : t 1 = 0 := by have := h.ts 0; rwa [e0] at this
  have t0 : t 0 = 1 := by have := h.ts 1; rwa [e1] at this
  have hl : leftN 100 (ptS xs0) (ptW xs0) 2 = 1 := by decide
  have p0 : partK 100 (ptS xs0) (ptW xs0) t 1 0 = 33 := by
    unfold partK
    rw [t0, if_neg (by omega)]
    decide
  have p1 : partK 100 (ptS xs0) (ptW xs0) t 1 1 = 67 := by
    unfold partK
    rw [t1, if_pos (by omega)]
    decide
  rw [hl]
  show [(([97] : List UInt8), ((partK 100 (ptS xs0) (ptW xs0) t 1 0 : Nat) : Int), mdV ((partK 100 (ptS xs0) (ptW xs0) t 1 0 : Nat) : Int) 0 10000 0), (([98] : List UInt8), ((partK 100 (ptS xs0) (ptW xs0) t 1 1 : Nat) : Int), mdV ((partK 100 (ptS xs0) (ptW xs0) t 1 1 : Nat) : Int) 0 10000 0)] = ps0
  rw [p0, p1]
  rfl

theorem row_xs0 (w : World) : RowG 2 cSh (w.alloc (.cells #[.string ⟨#[97]⟩, .int .i64 1, .string ⟨#[98]⟩, .int .i64 2] 41)) (some ⟨w.heap.size, 0, none⟩) xs0 := fun _ => by
  refine ⟨w.heap.size, 0, rfl, fun i x hx j u hu => ?_⟩
  rw [Nat.zero_add, (Blk.new w _ _).cell]
  match i, hx with
  | 0, hx =>
    injection hx with hx
    subst hx
    match j, hu with
    | 0, hu => exact hu
    | 1, hu => exact hu
    | j + 2, hu => simp [cSh] at hu
  | 1, hx =>
    injection hx with hx
    subst hx
    match j, hu with
    | 0, hu => exact hu
    | 1, hu => exact hu
    | j + 2, hu => simp [cSh] at hu
  | i + 2, hx => simp [xs0] at hx

theorem row_ps0 (w : World) : RowG 3 cPt (w.alloc (.cells #[.string ⟨#[97]⟩, .int .i64 33, .int .i64 0, .string ⟨#[98]⟩, .int .i64 67, .int .i64 0] 35)) (some ⟨w.heap.size, 0, none⟩) ps0 := fun _ => by
  refine ⟨w.heap.size, 0, rfl, fun i x hx j u hu => ?_⟩
  rw [Nat.zero_add, (Blk.new w _ _).cell]
  match i, hx with
  | 0, hx =>
    injection hx with hx
    subst hx
    match j, hu with
    | 0, hu => exact hu
    | 1, hu => exact hu
    | 2, hu => exact hu
    | j + 3, hu => simp [cPt] at hu
  | 1, hx =>
    injection hx with hx
    subst hx
    match j, hu with
    | 0, hu => exact hu
    | 1, hu => exact hu
    | 2, hu => exact hu
    | j + 3, hu => simp [cPt] at hu
  | i + 2, hx => simp [ps0] at hx

/-- the example's parts -/
theorem of_lives (w : World) (a : Option Addr) (hr : RowG 2 cSh w a xs0) :
    Calls Try.prog 6 #[.int .i64 100, .agg #[.int .i64 0, .int .i64 0, .int .i64 0, .int .i64 0], .slice a 2 2] w fun e w' => (∃ g, e = .returned (.tuple #[.slice (some ⟨g, 0, none⟩) 2 2, .int .i64 0]) ∧ RowG 3 cPt w' (some ⟨g, 0, none⟩) ps0) ∧ Below w.heap.size w w' := by
  have h := of_yes 100 0 0 0 0 a 2 xs0 w (by decide) (by decide) (by decide) hr (by decide) (by decide)
  refine Calls.mono h ?_
  rintro e w' ⟨g, s, t, rfl, hO, hrow, hb⟩
  have hT : ((100 : Int) - 0 - 0).toNat = 100 := by decide
  rw [hT] at hO hrow
  have hp := lives12_parts hO
  rw [show xs0.length = 2 from rfl, hp] at hrow
  exact ⟨⟨g, rfl, hrow⟩, hb⟩

set_option maxHeartbeats 1600000 in
theorem lives12_any (w : World) : Calls Try.prog 5 #[] w fun e w' => e = .returned (.bool true) ∧ Below w.heap.size w w' := by
  have HO := Lib.hid (of_lives (w.alloc (.cells #[.string ⟨#[97]⟩, .int .i64 1, .string ⟨#[98]⟩, .int .i64 2] 41)) (some ⟨w.heap.size, 0, none⟩) (row_xs0 w))
  have HB : Hid (Below w.heap.size w (w.alloc (.cells #[.string ⟨#[97]⟩, .int .i64 1, .string ⟨#[98]⟩, .int .i64 2] 41))) := (Below.refl _ w).alloc (Nat.le_refl _) _
  go_enter Try.func5, Try.ntmps5
  go_wp2_with fail
  refine HO.out.mono ?_
  rintro e w2 ⟨⟨g, rfl, hrow⟩, hb⟩
  have HB2 := Lib.hid (bel_onG HB.out HB.out.size hb)
  have HEQ := Lib.hid (equalPart_same (some ⟨g, 0, none⟩) (some ⟨w2.heap.size, 0, none⟩) 2 2 ps0 (w2.alloc (.cells #[.string ⟨#[97]⟩, .int .i64 33, .int .i64 0, .string ⟨#[98]⟩, .int .i64 67, .int .i64 0] 35)) (hrow.keep ((Below.refl _ w2).alloc (Nat.le_refl _) _)) (row_ps0 w2) (by decide))
  have HB3 : Hid (Below w.heap.size w (w2.alloc (.cells #[.string ⟨#[97]⟩, .int .i64 33, .int .i64 0, .string ⟨#[98]⟩, .int .i64 67, .int .i64 0] 35))) := HB2.out.alloc HB2.out.size _
  clear hrow hb
  go_wp2_with (first | (go_at_call 9; (refine HEQ.out.mono ?_); rintro e w3 ⟨rfl, hb3⟩; have HB4 := Lib.hid hb3; clear hb3) | fail)
  go_ret
  exact ⟨rfl, bel_onG HB3.out HB3.out.size HB4.out⟩
end Go.Proofs.Ythhcbpimkaahnaa
