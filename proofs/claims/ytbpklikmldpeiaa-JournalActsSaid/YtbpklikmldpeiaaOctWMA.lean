/-
  Contracts of octet.Writer: put, refuse, Int, Text.
-/
import Derived.Test.YtbpklikmldpeiaaOctAMA
import Derived.Test.YtbpklikmldpeiaaMA01
namespace Go.Proofs.Ytbpklikmldpeiaa
open Go.RowKit

/-- the pieces from here on, the newest first -/
def Chain (w : World) (B : Nat) : Option Addr → List (List UInt8) → Prop
  | p, [] => p = none
  | p, s :: r => ∃ b q, p = some ⟨b, 0, none⟩ ∧ B ≤ b ∧ s ≠ [] ∧ Blk w b 129 #[.pointer q, .string (st s)] ∧ Chain w B q r

theorem Chain.keep {w w' : World} {B : Nat} (h : ∀ b cs, Blk w b 129 cs → Blk w' b 129 cs) : ∀ {p : Option Addr} {l : List (List UInt8)}, Chain w B p l → Chain w' B p l
  | _, [], hc => hc
  | _, _ :: _, ⟨b, q, e, hB, hs, hb, hr⟩ => ⟨b, q, e, hB, hs, h _ _ hb, Chain.keep h hr⟩

/-- a Writer, with the pieces that were put; none: a text was too long -/
def WAt (w : World) (B b : Nat) : Option (List (List UInt8)) → Prop
  | none => B ≤ b ∧ Blk w b 124 #[.pointer none, .bool true]
  | some l => B ≤ b ∧ ∃ p, Blk w b 124 #[.pointer p, .bool false] ∧ Chain w B p l

theorem WAt.keep {w w' : World} {B b : Nat} {o : Option (List (List UInt8))} (h : WAt w B b o) (hg : Below w.heap.size w w') : WAt w' B b o := by
  cases o with
  | none => exact ⟨h.1, h.2.since hg⟩
  | some l =>
    obtain ⟨hB, p, hb, hc⟩ := h
    exact ⟨hB, p, hb.since hg, hc.keep fun _ _ hk => hk.since hg⟩

theorem WAt.base {w : World} {B b : Nat} {o : Option (List (List UInt8))} (h : WAt w B b o) : B ≤ b ∧ b < w.heap.size := by
  cases o with
  | none => exact ⟨h.1, h.2.lt⟩
  | some l => obtain ⟨hB, p, hb, hc⟩ := h; exact ⟨hB, hb.lt⟩

theorem put_nil (s : List UInt8) (w : World) :
    Calls Try.prog 69 #[.pointer none, .string (st s)] w fun e w' => e = .returned (.pointer none) ∧ w = w' := by
  go_enter Try.func69, Try.ntmps69
  go_wp2
  go_ret
  exact ⟨rfl, rfl⟩

theorem put_any (b B : Nat) (o : Option (List (List UInt8))) (s : List UInt8) (w : World) (h : WAt w B b o) (hBs : B ≤ w.heap.size) (hne : s ≠ []) :
    Calls Try.prog 69 #[.pointer (some ⟨b, 0, none⟩), .string (st s)] w fun e w' => e = .returned (.pointer (some ⟨b, 0, none⟩)) ∧ w.grownBy w' (some b) ∧ WAt w' B b (o.map (s :: ·)) := by
  cases o with
  | none =>
    obtain ⟨hB, hb⟩ := h
    have c1 : w.cell? ⟨b, 1, none⟩ = some (.bool true) := hb.cell 1
    have HB := Lib.hid hb
    clear hb
    go_enter Try.func69, Try.ntmps69
    go_wp2
    go_ret
    exact ⟨rfl, World.grownBy.refl _ _, hB, HB.out⟩
  | some l =>
    obtain ⟨hB, p, hb, hc⟩ := h
    have c0 : w.cell? ⟨b, 0, none⟩ = some (.pointer p) := hb.cell 0
    have c1 : w.cell? ⟨b, 1, none⟩ = some (.bool false) := hb.cell 1
    have hb1 := hb.alloc (.cells #[.pointer p, .string (st s)] 129)
    have d0 : (w.alloc (.cells #[.pointer p, .string (st s)] 129)).cell? ⟨b, 0, none⟩ = some (.pointer p) := hb1.cell 0
    have f0 : (w.alloc (.cells #[.pointer p, .string (st s)] 129)).frozen? ⟨b, 0, none⟩ = false := hb1.frozen 0
    have HB := Lib.hid hb1
    have HC := Lib.hid hc
    have HL : Hid (b < w.heap.size) := hb.lt
    have HS : Hid (B ≤ w.heap.size) := hBs
    have HNE : Hid (s ≠ []) := hne
    clear hb hc hb1 hne
    go_enter Try.func69, Try.ntmps69
    go_wp2
    go_ret
    have hlt := HL.out
    refine ⟨rfl, Go.Lib.grownBy_setB (Go.Lib.grownBy_allocR (World.grownBy.refl _ _) _) _ _, hB, some ⟨w.heap.size, 0, none⟩, HB.out.set 0 _, w.heap.size, p, rfl, HS.out, HNE.out, ?_, ?_⟩
    · exact (Blk.new w _ _).other (by show w.heap.size ≠ b; omega) _
    · refine HC.out.keep fun b' cs hk => ?_
      exact (hk.alloc _).other ((hk.alloc _).ne HB.out (by decide)) _

theorem low8_ne (x : Nat) : lowL 8 x ≠ [] := by simp [lowL]

/-- a number's word -/
def wd (z : Int) : Nat := (z % 18446744073709551616).toNat

theorem wInt_any (b B : Nat) (o : Option (List (List UInt8))) (z : Int) (w : World) (h : WAt w B b o) (hBs : B ≤ w.heap.size) :
    Calls Try.prog 67 #[.pointer (some ⟨b, 0, none⟩), .int .i64 z] w fun e w' => e = .returned (.pointer (some ⟨b, 0, none⟩)) ∧ w.grownBy w' (some b) ∧ WAt w' B b (o.map (lowL 8 (wd z) :: ·)) := by
  have H1 := Lib.hid (lowF_any (wd z) 8 w (by decide))
  have hz : (wd z : Int) = z % 18446744073709551616 := by unfold wd; omega
  have HA := Lib.hid h
  have HS : Hid (B ≤ w.heap.size) := hBs
  rw [hz] at H1
  clear h hz
  go_enter Try.func67, Try.ntmps67
  go_wp2_with fail
  refine H1.out.mono ?_
  rintro e w1 ⟨rfl, hb⟩
  have HA1 := Lib.hid (HA.out.keep hb)
  have HG := Lib.hid (grown_since (b := b) hb)
  have H2 := Lib.hid (put_any b B o (lowL 8 (wd z)) w1 HA1.out (Nat.le_trans HS.out hb.size) (low8_ne _))
  clear hb
  go_wp2_with fail
  refine H2.out.mono ?_
  rintro e w2 ⟨rfl, hg, ha⟩
  have HG2 := Lib.hid hg
  have HA2 := Lib.hid ha
  clear hg ha
  go_wp2
  go_ret
  exact ⟨rfl, Go.Lib.grownBy_trans HG.out HG2.out, HA2.out⟩

theorem wInt_nil (z : Int) (w : World) :
    Calls Try.prog 67 #[.pointer none, .int .i64 z] w fun e w' => e = .returned (.pointer none) ∧ Below w.heap.size w w' := by
  have H1 := Lib.hid (lowF_any (wd z) 8 w (by decide))
  have hz : (wd z : Int) = z % 18446744073709551616 := by unfold wd; omega
  rw [hz] at H1
  clear hz
  go_enter Try.func67, Try.ntmps67
  go_wp2_with fail
  refine H1.out.mono ?_
  rintro e w1 ⟨rfl, hb⟩
  have HG := Lib.hid hb
  have H2 := Lib.hid (put_nil (lowL 8 (wd z)) w1)
  clear hb
  go_wp2_with fail
  refine H2.out.mono ?_
  rintro e w2 ⟨rfl, rfl⟩
  go_wp2
  go_ret
  exact ⟨rfl, HG.out⟩

end Go.Proofs.Ytbpklikmldpeiaa
