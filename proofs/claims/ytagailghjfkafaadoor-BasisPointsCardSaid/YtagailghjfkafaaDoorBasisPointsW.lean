/-
  The walk of souklaw02.BasisPoints.
-/
import Derived.Test.YtagailghjfkafaaDoorBasI
namespace Go.Proofs.YtagailghjfkafaaDoor
open Go.RowKit Ieee

set_option maxHeartbeats 1600000 in
theorem pointsL_walk (s : Bool) (r : Nat) (w : World) (hr : r < 9223372036854775808) (ht : Tab w) :
    Calls Tryd.prog 3 #[.int .u64 ((wd s r : Nat) : Int)] w fun e w' => e = .returned (.bool true) ∧ Below w.heap.size w w' := by
  have HL := Lib.hid (lives_any w)
  have f1 := from_run (wd s r)
  have C1 := fun w => points_any s r w hr
  have C2 := fun w => rpoints_any s r w hr
  have C3 : ∀ w, Hid (Calls Tryd.prog 10 #[.float .f64 (wd s r)] w fun e w' => e = .returned (.int .i64 (kindN r)) ∧ w = w') := fun w => of_any s r w hr
  have C4 : ∀ w, Hid (Calls Tryd.prog 11 #[.int .u64 ((wd s r : Nat) : Int)] w fun e w' => e = .returned (.int .i64 (kindN r)) ∧ w = w') := fun w => kind_any s r w hr
  have C5 : ∀ w, Tab w → Hid (Calls Tryd.prog 12 #[.float .f64 (wd s r)] w (TextPost s r w)) := fun w h => text_any s r w hr h
  have C6 : ∀ w, Hid (Calls Tryd.prog 13 #[.float .f64 (wd s r), .int .u64 ((wd s r : Nat) : Int)] w (TextPost s r w)) := fun w => rtext_any s r w hr
  have HT := Lib.hid ht
  rcases ptsE_cases s r with he | he | he
  all_goals
    rw [he] at C1 C2
    have D1 : ∀ w, Hid _ := fun w => Lib.hid (C1 w)
    have D2 : ∀ w, Hid _ := fun w => Lib.hid (C2 w)
    clear C1 C2 he hr ht
    go_enter Tryd.func3, Tryd.ntmps3
    go_wp2_with fail
    refine HL.out.mono ?_
    rintro e wl ⟨rfl, hk⟩
    have hbl : Below w.heap.size w wl := by obtain ⟨k, rfl⟩ := hk; exact below_drewN (Below.refl _ _) _
    have HBl := Lib.hid hbl
    have HTl := Lib.hid (tab_below HT.out hbl)
    clear hk hbl HT
    go_wp2_with fail
    refine (D1 _).out.mono ?_
    rintro e w1 ⟨rfl, rfl⟩
    go_wp2_with fail
    refine (D2 _).out.mono ?_
    rintro e w1 ⟨rfl, rfl⟩
    go_wp2_with fail
    refine (C3 _).out.mono ?_
    rintro e w1 ⟨rfl, rfl⟩
    go_wp2_with fail
    refine (C4 _).out.mono ?_
    rintro e w1 ⟨rfl, rfl⟩
    go_wp2_with fail
    refine (C5 _ (tab_below HTl.out ?_)).out.mono ?_
    · exact (Below.refl _ _).alloc (Nat.le_refl _) _
    rintro e w2 ⟨rfl, hb2⟩
    have HB := Lib.hid hb2
    clear hb2
    go_wp2_with fail
    refine (C6 _).out.mono ?_
    rintro e w3 ⟨rfl, hb3⟩
    have HB3 := Lib.hid hb3
    clear hb3
    go_wp2
    go_ret
    refine ⟨rfl, ?_⟩
    have k2 := HB.out.size
    have b1 : Below w.heap.size w (wl.alloc (.cells #[.int .i64 0, .int .i64 1, .int .i64 2] 26)) := HBl.out.alloc HBl.out.size _
    have k1 := b1.size
    exact (b1.trans (HB.out.mono k1)).trans (HB3.out.mono (Nat.le_trans k1 k2))
end Go.Proofs.YtagailghjfkafaaDoor
