/-
  Contract of souklaw07.lives.
-/
import Derived.Test.YteclhcjfnmkkjaaBkQ
import Derived.Test.YteclhcjfnmkkjaaBkR
import Derived.Test.YteclhcjfnmkkjaaBkU
namespace Go.Proofs.Yteclhcjfnmkkjaa
open Go.RowKit Go.Lib

def kEUR : List UInt8 := [69, 85, 82]
def livesL : List Ln := [((kClearing, [], kEUR), -5), ((kFee, [], kEUR), 5)]
theorem lives_post : postL [] livesL = (livesL, 0) := by decide +kernel
theorem lives_ok : OkLs livesL := by
  intro x hx
  simp only [livesL, List.mem_cons, List.not_mem_nil, or_false] at hx
  rcases hx with rfl | rfl
  · exact ⟨by decide, by decide, by decide, ⟨by decide, by decide⟩⟩
  · exact ⟨by decide, by decide, by decide, ⟨by decide, by decide⟩⟩

theorem rowL_new (w : World) (t : TypeId) (ls : List Ln) (cs : Array Value) (h : cs.toList = ls.flatMap cL) : RowL (w.alloc (.cells cs t)) (some ⟨w.heap.size, 0, none⟩) ls := by
  intro _
  refine ⟨w.heap.size, 0, rfl, fun i x hx j u hu => ?_⟩
  have hb := Blk.new w t cs
  rw [Nat.zero_add, hb.cell, ← Array.getElem?_toList, h]
  exact flat_get ls i j x u hx hu

set_option maxHeartbeats 4000000 in
set_option maxRecDepth 100000 in
theorem lives7_any (w : World) : Calls Try.prog 5 #[] w fun e w' => e = .returned (.bool true) ∧ Below w.heap.size w w' := by
  have H1 := Lib.hid (new_any w)
  have HRW : Hid (∀ W : World, RowL (W.alloc (.cells #[.string ⟨#[99, 108, 101, 97, 114, 105, 110, 103]⟩, .string ⟨#[]⟩, .string ⟨#[69, 85, 82]⟩, .int .i64 (-5), .string ⟨#[102, 101, 101]⟩, .string ⟨#[]⟩, .string ⟨#[69, 85, 82]⟩, .int .i64 5] 42)) (some ⟨W.heap.size, 0, none⟩) livesL) := fun W => rowL_new W _ livesL _ rfl
  go_enter Try.func5, Try.ntmps5
  go_wp2_with fail
  with_reducible refine H1.out.mono ?_
  rintro e w1 ⟨b, rfl, ha⟩
  have HA1 := Lib.hid (ha.since (PBk.stays b [] 0) ((Below.refl w1.heap.size w1).alloc (Nat.le_refl _) (.cells #[.string ⟨#[99, 108, 101, 97, 114, 105, 110, 103]⟩, .string ⟨#[]⟩, .string ⟨#[69, 85, 82]⟩, .int .i64 (-5), .string ⟨#[102, 101, 101]⟩, .string ⟨#[]⟩, .string ⟨#[69, 85, 82]⟩, .int .i64 5] 42)))
  have hpost := (HA1.out.call1 (f := 9) (args := #[.pointer (some ⟨b, 0, none⟩), .slice (some ⟨w1.heap.size, 0, none⟩) 2 2]) (p := Try.prog) fun fp hp => post_any b [] 0 (some ⟨w1.heap.size, 0, none⟩) 2 livesL fp _ hp (HRW.out w1) (by decide) lives_ok (by decide))
  rw [lives_post] at hpost
  have H2 := Lib.hid hpost
  clear ha H1 hpost
  go_wp2_with fail
  with_reducible refine H2.out.mono ?_
  rintro e w2 ⟨rfl, ha⟩
  have HA2 := Lib.hid ha
  have H3 : Hid (Calls Try.prog 14 #[.pointer (some ⟨b, 0, none⟩), .string ⟨#[102, 101, 101]⟩, .string ⟨#[]⟩, .string ⟨#[69, 85, 82]⟩] w2 fun e w' => e = .returned (.int .i64 5) ∧ w2 = w') := ha.know fun fp hp => get_any b livesL (0 + livesL.length) (kFee, [], kEUR) fp w2 hp ⟨by decide, by decide, by decide⟩
  have H4 : Hid (Calls Try.prog 13 #[.pointer (some ⟨b, 0, none⟩)] w2 fun e w' => ∃ g cap, e = .returned (.slice (some ⟨g, 0, none⟩) 2 cap) ∧ RowL w' (some ⟨g, 0, none⟩) livesL ∧ Below w2.heap.size w2 w') := ha.know fun fp hp => all_any b livesL (0 + livesL.length) fp w2 hp (by decide)
  clear ha H2 HA1 HRW
  go_wp2_with fail
  with_reducible refine H3.out.mono ?_
  rintro e w3 ⟨rfl, rfl⟩
  go_wp2_with fail
  with_reducible refine H4.out.mono ?_
  rintro e w3 ⟨g, cap, rfl, _, hb⟩
  have HB : Hid (Below w.heap.size w w3) := below_on HA2.out.bel HA2.out.bel.size hb
  clear hb H3 H4
  go_wp2
  go_ret
  exact ⟨rfl, HB.out⟩
end Go.Proofs.Yteclhcjfnmkkjaa
