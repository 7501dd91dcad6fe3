/-
  A journal of the program and one of the document, of which nothing fails; a region's condition, once it is known.
-/
import Derived.Test.YtbpklikmldpeiaaMA05
import Derived.Test.YtbpklikmldpeiaaJnTMA
import Derived.Test.YtbpklikmldpeiaaOrdGMA
namespace Go.Proofs.Ytbpklikmldpeiaa
open Go.RowKit Go.Lib

section
variable {P : Program} {ops : Array Oper} {Q : Exit → Act → World → Prop} {md : Region.Mode} {S S' : World → Prop} {E : List Nat}
/-- what shows more shows less -/
theorem wpAnyE_less (h : ∀ w, S' w → S w) : ∀ (fuel : Nat) (listed : Array Bool) (a : Act) (w : World), wpAnyE P md ops Q S' E fuel listed a w → wpAnyE P md ops Q S E fuel listed a w
  | 0, _, _, _, hh => hh
  | fuel + 1, _, _, _, hh => ⟨hh.1, fun i hi => wpOp_mono (fun a' w' h' => ⟨fun hc => h _ (h'.1 hc), wpAnyE_less h fuel _ a' w' h'.2⟩) (hh.2 i hi)⟩
end

theorem ropen_cl (b : Nat) (L : List (List UInt8)) (z : Nat) (fp : List Nat) (w : World) (h : RDr b (Cl L z) w fp) (hk : AllOk L) (hz : used L + z ≤ 65536) :
    Calls Try.prog 11 #[.pointer (some ⟨b, 0, none⟩)] w fun e w' => ∃ x : JX, e = .returned (.tuple #[.pointer (some ⟨x.jb, 0, none⟩), .int .i64 0]) ∧ After fp w w' (RJr x.jb b (Cl L z) x.v L (used L) w') := by
  have := rOpenB_any b (bl := fitL L z) fp w h (Recs.ofCl hk hz)
  rw [fitL_length, Nat.add_sub_cancel_left] at this
  exact this

theorem rappend_cl (kb rb : Nat) {L L' : List (List UInt8)} {z z' : Nat} {p : List UInt8} {t : Int} {v : Value} (hx : Next L z p L' z' t) (fp : List Nat) (w : World) (h : RJr kb rb (Cl L z) v L (used L) w fp) (hk : AllOk L) (hz : used L + z ≤ 65536) (hp : p.length ≤ 100000000) :
    Calls Try.prog 13 #[.pointer (some ⟨kb, 0, none⟩), .string (st p)] w fun e w' => ∃ x : Value, e = .returned (.int .i64 t) ∧ After fp w w' (RJr kb rb (Cl L' z') x L' (used L') w') := by
  have hps : psAfter (Cl L' z', t) L p = L' := by
    unfold psAfter
    rcases hx.or with ⟨h1, h2⟩ | ⟨h1, h2⟩
    · rw [if_pos h1, h2]
    · rw [if_neg h1, h2]
  have := rAppend_any kb rb (used L) v (Cl L z) L p fp w h (by simp [Cl]) (by rw [Cl.len]; omega) (by have := hk.few; omega) hp
  rw [hx.app, hps, hx.u] at this
  exact this

theorem jnLen_cell (jb n : Nat) (w : World) (c1 : w.cell? ⟨jb, 1, none⟩ = some (.int .i64 n)) :
    Calls Try.prog 14 #[.pointer (some ⟨jb, 0, none⟩)] w fun e w' => e = .returned (.int .i64 n) ∧ w = w' := by
  go_enter Try.func14, Try.ntmps14
  go_wp2
  go_ret
  exact ⟨rfl, rfl⟩
end Go.Proofs.Ytbpklikmldpeiaa
