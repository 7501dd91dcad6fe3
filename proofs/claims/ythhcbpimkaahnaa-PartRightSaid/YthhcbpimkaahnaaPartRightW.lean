/-
  The walk of souklaw12.PartRight.
-/
import Derived.Test.YthhcbpimkaahnaaPtH
namespace Go.Proofs.Ythhcbpimkaahnaa
open Go.RowKit Go.Deep

theorem ofE_plain (xs : List Sh) : ofE 1000 0 0 0 xs = rgF xs := by
  unfold ofE
  rw [show cstB 1000 0 0 0 = true by decide]
  rfl

/-- the document's Parts of 1000 without costs: its error -/
def ErrPost (E : Int) (w : World) (e : Ending) (w' : World) : Prop := ∃ v, e = .returned (.tuple #[v, .int .i64 E]) ∧ Below w.heap.size w w'

theorem rparts_err (a : Option Addr) (c : Nat) (xs : List Sh) (w : World) (hr : RowG 2 cSh w a xs) :
    Calls Try.prog 7 #[.int .i64 1000, .agg #[.int .i64 0, .int .i64 0, .int .i64 0, .int .i64 0], .slice a xs.length c] w (ErrPost (rgF xs) w) := by
  obtain ⟨s, t, ho⟩ := Ordr.exists xs.length (fun i => (rf ((1000 : Int) - 0 - 0).toNat (ptS xs) (ptW xs) i : Int))
  have h := rparts_any 1000 0 0 0 0 a c xs s t w (by decide) hr (fun _ => ho)
  rw [ofE_plain] at h
  refine Calls.mono h ?_
  rintro e w' (⟨_, he, hb⟩ | ⟨h0, ar, cr, he, _, hb⟩)
  · exact ⟨_, he, hb⟩
  · exact ⟨_, by rw [he, h0], hb⟩

theorem of_err (a : Option Addr) (c : Nat) (xs : List Sh) (w : World) (hr : RowG 2 cSh w a xs) (hc : xs.length ≤ c) :
    Calls Try.prog 6 #[.int .i64 1000, .agg #[.int .i64 0, .int .i64 0, .int .i64 0, .int .i64 0], .slice a xs.length c] w (ErrPost (rgF xs) w) := by
  by_cases hE : ofE 1000 0 0 0 xs = 0
  · have h := of_yes 1000 0 0 0 0 a c xs w (by decide) (by decide) (by decide) hr hc hE
    refine Calls.mono h ?_
    rintro e w' ⟨g, s, t, he, _, _, hb⟩
    exact ⟨_, by rw [he, ← ofE_plain, hE], hb⟩
  · have h := of_bad 1000 0 0 0 0 a c xs w (by decide) (by decide) (by decide) hr hc hE
    rw [ofE_plain] at h
    refine Calls.mono h ?_
    rintro e w' ⟨he, hb⟩
    exact ⟨_, he, hb⟩

set_option maxHeartbeats 1600000 in
theorem right_many (a : Option Addr) (n c : Nat) (w : World) (hn : 20 < n) :
    Calls Try.prog 4 #[.slice a n c] w fun e w' => e = .returned (.bool true) ∧ Below w.heap.size w w' := by
  have HL := Lib.hid (lives12_any w)
  have hgt : (20 : Int) < (n : Int) := by omega
  clear hn
  go_enter Try.func4, Try.ntmps4
  go_wp2_with fail
  refine HL.out.mono ?_
  rintro e w1 ⟨rfl, hb⟩
  have HB := Lib.hid hb
  have HL2 := Lib.hid (lives12_any w1)
  clear hb HL
  go_wp2_with fail
  refine HL2.out.mono ?_
  rintro e w2 ⟨rfl, hb⟩
  have HB2 := Lib.hid (HB.out.trans (hb.mono HB.out.size))
  clear hb HL2
  go_wp2
  go_ret
  exact ⟨rfl, HB2.out⟩

set_option maxHeartbeats 1600000 in
theorem right_some (a : Option Addr) (c : Nat) (xs : List Sh) (w : World) (hr : RowG 2 cSh w a xs) (hc : xs.length ≤ c) (hn : xs.length ≤ 20) :
    Calls Try.prog 4 #[.slice a xs.length c] w fun e w' => e = .returned (.bool true) ∧ Below w.heap.size w w' := by
  have HL := Lib.hid (lives12_any w)
  have H1 : ∀ W, Below w.heap.size w W → Calls Try.prog 8 #[.slice a xs.length c] W fun e w' => e = .returned (.int .i64 (rgF xs)) ∧ Below W.heap.size W w' := fun W hb => right_any a c xs W (hr.keep hb) hc
  have H2 : ∀ W, Below w.heap.size w W → Calls Try.prog 7 #[.int .i64 1000, .agg #[.int .i64 0, .int .i64 0, .int .i64 0, .int .i64 0], .slice a xs.length c] W (ErrPost (rgF xs) W) := fun W hb => rparts_err a c xs W (hr.keep hb)
  have H3 : ∀ W, Below w.heap.size w W → Calls Try.prog 6 #[.int .i64 1000, .agg #[.int .i64 0, .int .i64 0, .int .i64 0, .int .i64 0], .slice a xs.length c] W (ErrPost (rgF xs) W) := fun W hb => of_err a c xs W (hr.keep hb) hc
  have H1 := Lib.hid H1
  have H2 := Lib.hid H2
  have H3 := Lib.hid H3
  obtain ⟨n, hnn⟩ : ∃ n, n = xs.length := ⟨_, rfl⟩
  obtain ⟨E, hE⟩ : ∃ E, E = rgF xs := ⟨_, rfl⟩
  rw [← hnn, ← hE] at H1 H2 H3
  rw [← hnn] at hn ⊢
  have hgt : ¬ (20 : Int) < (n : Int) := by omega
  clear hr hc hnn hE hn
  go_enter Try.func4, Try.ntmps4
  go_wp2_with fail
  refine HL.out.mono ?_
  rintro e w1 ⟨rfl, hb⟩
  have HB := Lib.hid hb
  clear hb HL
  go_wp2_with fail
  refine (H1.out _ HB.out).mono ?_
  rintro e w2 ⟨rfl, hb⟩
  have HB2 := Lib.hid (bel_onG HB.out HB.out.size hb)
  clear hb
  go_wp2_with fail
  refine (H2.out _ HB2.out).mono ?_
  rintro e w3 ⟨v3, rfl, hb⟩
  have HB3 := Lib.hid (bel_onG HB2.out HB2.out.size hb)
  clear hb
  go_wp2_with fail
  refine (H3.out _ HB3.out).mono ?_
  rintro e w4 ⟨v4, rfl, hb⟩
  have HB4 := Lib.hid (bel_onG HB3.out HB3.out.size hb)
  clear hb H1 H2 H3 HB HB2 HB3
  go_wp2
  go_ret
  exact ⟨by simp, HB4.out⟩

theorem right_walk (a : Option Addr) (c : Nat) (xs : List Sh) (w : World) (hr : RowG 2 cSh w a xs) (hc : xs.length ≤ c) :
    Calls Try.prog 4 #[.slice a xs.length c] w fun e w' => e = .returned (.bool true) ∧ Below w.heap.size w w' := by
  by_cases h : 20 < xs.length
  · exact right_many a xs.length c w h
  · exact right_some a c xs w hr hc (by omega)
end Go.Proofs.Ythhcbpimkaahnaa
