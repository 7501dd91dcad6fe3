/-
  Proved: souklaw06.JournalFails answers true for every two lists of records, every last record and every list of failures, and leaves them as they were. Conditions: none beyond the row's own.
-/
import Derived.Test.YtbpklikmldpeiaaRows
import Derived.WalkKit
import Derived.ProofKit
import Derived.OpenShut
import Derived.ShutString
import Derived.ChangeOld
import Derived.Below
import Derived.SizedLaws
import Derived.Test.YtbpklikmldpeiaaJnO
import Derived.Test.YtbpklikmldpeiaaJournalFailsW
namespace Go.Proofs.Ytbpklikmldpeiaa.journalFails
open Go.ChangeShapes Go.WideShapes Go.ChangeAt Go.RowKit
set_option linter.unusedVariables false

theorem own : ownKnob Try.prog.godebug = none := by kernel_rfl
theorem laidOut : laidOutB Try.prog = true := by kernel_rfl

set_option maxRecDepth 100000 in
theorem lifted (os : Os) (started : os.Started) (H : Type) (enc : TypeId × Value → H) :
    ReturnsInHanded {} Try.checked os 4 .any (Rows.journalFailsSpec.pre6 enc Try.prog Try.f4 Rows.journalFailsRow.domain false) (Rows.journalFailsSpec.post enc Try.prog Try.f4 false true false false) := by
  refine returnsInHanded_of_change_sized (C := Try.checked) own started (by kernel_rfl) Try.func4
    (ChangeSpec.witness6 (enc := enc) (C := Try.checked) false ⟨#[], #[.agg #[.slice none 0 0, .slice none 0 0], .string ⟨#[]⟩, .slice none 0 0], []⟩ 8 (by kernel_rfl) (by kernel_rfl) (by kernel_rfl) (by kernel_rfl)) ?_
  intro W base args ds gs before hval0 hW hcnd hsz _
  have hval : ∀ (j : Nat) t v, Try.f4.params[j]? = some t → args[j]? = some v → Value.okWide Try.prog W .any base t v := hval0
  have hW' := hW
  obtain ⟨p, q, hA0, hV, rfl, hfz, hnd⟩ := hW
  have hA : DataW.TrodAll enc Try.prog W 0 (fun _ => true) true Try.f4.params.toList args.toList ds p := hA0
  rw [Try.params4] at hA hval
  obtain ⟨v0, vs0, d0, ds0, p0, q0, hargs, rfl, rfl, h0, r0⟩ := trodAll_cons hA
  obtain ⟨v1, vs1, d1, ds1, p1, q1, hargs1, rfl, rfl, h1, r1⟩ := trodAll_cons r0
  obtain ⟨v2, vs2, d2, ds2, p2, q2, hargs2, rfl, rfl, h2, r2⟩ := trodAll_cons r1
  obtain ⟨rfl, rfl, rfl⟩ := trodAll_nil r2
  obtain rfl : args = #[v0, v1, v2] := by cases args; simp_all
  obtain ⟨rfl, rfl⟩ := trodVars_none hV
  obtain ⟨a3, len3, cap3, rfl⟩ := okWide_slice Try.underlying49 (hval 2 49 v2 rfl rfl)
  have k0 := h0
  have k1 := h1
  have k2 := h2
  have lt0 : ∀ x ∈ p0, x.block < W.heap.size := by obtain ⟨m, hm⟩ := k0; exact DataW.trod_lt m _ _ _ hm
  have lt1 : ∀ x ∈ p1, x.block < W.heap.size := by obtain ⟨m, hm⟩ := k1; exact DataW.trod_lt m _ _ _ hm
  have lt2 : ∀ x ∈ p2, x.block < W.heap.size := by obtain ⟨m, hm⟩ := k2; exact DataW.trod_lt m _ _ _ hm
  have hwt0 : ∀ n ∈ d0.weights Try.prog 48, n ≤ reachBytes := by
    intro n hn
    have h2 := List.all_eq_true.1 hsz n (DataW.weights_mem_each (j := 0) (t := 48) (d := d0) (by show (Try.f4.params.toList ++ _)[0]? = _; rw [Try.params4]; rfl) rfl n hn)
    simpa using h2
  have hwt2 : ∀ n ∈ d2.weights Try.prog 49, n ≤ reachBytes := by
    intro n hn
    have h2 := List.all_eq_true.1 hsz n (DataW.weights_mem_each (j := 2) (t := 49) (d := d2) (by show (Try.f4.params.toList ++ _)[2]? = _; rw [Try.params4]; rfl) rfl n hn)
    simpa using h2
  obtain ⟨a1, a2, c1, c2, l1, l2, rfl, hr1, hr2, hs1, hs2, hz1, hz2⟩ := open_pair6 (hval 0 48 v0 rfl rfl) h0 hwt0
  obtain ⟨last, hlast, hll⟩ : ∃ last : List UInt8, v1 = .string (st last) ∧ last.length ≤ maxLen := by
    obtain ⟨s, rfl⟩ := okWide_string Try.underlying9 (hval 1 9 v1 rfl rfl)
    obtain ⟨fuel, hf⟩ := h1
    obtain ⟨x0, f0, _, w0⟩ := DataW.trod_string Try.underlying9 hf
    simp [Value.cells] at f0
    subst f0
    exact ⟨s.data.toList, by rw [← of_data], by rw [Array.length_toList]; exact w0⟩
  subst hlast
  obtain ⟨l3, hlen, hrow, hok, hmx⟩ := open_fails6 h2 hwt2
  clear hA0 hval0
  have hwalk : Calls Try.prog 4 #[.agg #[.slice a1 l1.length c1, .slice a2 l2.length c2], .string (st last), .slice a3 len3 cap3] W fun e w' => e = .returned (.bool true) ∧ Below W.heap.size W w' := by
    rw [← hlen]
    exact fails_walk a1 a2 a3 c1 c2 cap3 l1 l2 last l3 W hr1 hr2 hrow hok hs1 hs2 hz1 hz2 (by omega) (by unfold maxLen at hll; omega)
  refine hwalk.mono fun e W' ⟨he, bel⟩ => ?_
  subst he
  exact ⟨_, rfl, _, _, _, [], _, [], hW', trodAll_mk1 (shut_bool Try.underlying4 _), (trodAll_cons_mk (Below.trod laidOut (by kernel_rfl) (of_decide_eq_true (by kernel_rfl)) k0 bel lt0) (trodAll_cons_mk (Below.trod laidOut (by kernel_rfl) (of_decide_eq_true (by kernel_rfl)) k1 bel lt1) (trodAll_cons_mk (Below.trod laidOut (by kernel_rfl) (of_decide_eq_true (by kernel_rfl)) k2 bel lt2) trodAll_mk0))), rfl, bel.frame _, fun h => by cases h⟩

theorem over : Rows.journalFailsRow.holds Try.pinned (OpenSpec.ofChange Rows.journalFailsSpec) :=
  OpenClaim.holds_of_wide 4 Try.f4 rfl rfl rfl rfl rfl rfl rfl ⟨rfl, rfl, rfl, rfl, rfl⟩ rfl rfl rfl rfl rfl (by kernel_rfl) Try.func4 (by kernel_rfl)
    (of_decide_eq_true (by kernel_rfl)) (by unfold Func.isWrapper; first | (rw [if_pos (by decide +kernel)]; kernel_rfl) | (rw [if_neg (by decide +kernel)]; exact ⟨rfl, rfl⟩))
    (fun os started H enc _ => lifted os started H enc)

theorem proved : Rows.JournalFailsSaid := over
#print axioms proved
end Go.Proofs.Ytbpklikmldpeiaa.journalFails
