/-
  Contracts of souklaw05.block, lives, small.
-/
import Derived.Test.YthckcbnendjmpaaDskC
import Derived.Test.YthckcbnendjmpaaDskF
import Derived.Test.YthckcbnendjmpaaRep
namespace Go.Proofs.Ythckcbnendjmpaa
open Go.RowKit Go.Lib

/-- a block that begins so -/
def dots (l : List UInt8) : List UInt8 := l ++ List.replicate (64 - l.length) 46
theorem dots_length (l : List UInt8) (h : l.length ≤ 64) : (dots l).length = 64 := by simp [dots]; omega

theorem block5_any (l : List UInt8) (w : World) (h : l.length ≤ 64) :
    Calls Try.prog 23 #[.string (st l)] w fun e w' => e = .returned (.string (st (dots l))) ∧ Below w.heap.size w w' := by
  have hs := st_size l
  obtain ⟨n, hn⟩ : ∃ n, n = l.length := ⟨_, rfl⟩
  have HN := Lib.hid hn
  rw [← hn] at hs h
  have H1 := repeat_one 46 (64 - n) w (by omega)
  rw [show ((64 - n : Nat) : Int) = 64 - (n : Int) by omega] at H1
  have H1 := Lib.hid H1
  have ha : st l ++ st (List.replicate (64 - n) 46) = st (dots l) := by rw [st_append, dots, hn]
  have hr : (st (List.replicate (64 - n) 46)).size ≤ 64 := by rw [st_size, List.length_replicate]; omega
  clear hn
  go_enter Try.func23, Try.ntmps23
  go_wp2_with fail
  refine H1.out.mono ?_
  rintro e w1 ⟨rfl, hb⟩
  have HB := Lib.hid hb
  clear hb H1
  go_wp2
  go_ret
  exact ⟨rfl, HB.out⟩

def abc : List UInt8 := [97, 98, 99]
def z62 : List UInt8 := List.replicate 62 0
def ab0 : List UInt8 := [97, 98] ++ z62

theorem lives_write : ((newDS 1).write (0 : Nat) (dots abc)).2 = 0 ∧ ((newDS 1).write (0 : Nat) (dots abc)).1 = ⟨[z64], [(0, dots abc)], -1, false⟩ := by
  have hl : (dots abc).length = 64 := dots_length _ (by decide)
  have hr : (newDS 1).refusal (0 : Nat) = 0 := by decide
  unfold DS.write
  rw [if_neg (by rw [hr]; decide), if_neg (by simpa using hl)]
  exact ⟨rfl, rfl⟩

theorem lives_read : (DS.restart ⟨[z64], [(0, dots abc)], -1, false⟩ [2]).read (0 : Nat) = (ab0, 0) := by rfl

theorem newDS_room (n : Nat) : Room (newDS n).pe.length := by show Room 0; unfold Room; omega

set_option maxHeartbeats 2000000 in
theorem lives5_any (w : World) : Calls Try.prog 5 #[] w fun e w' => e = .returned (.bool true) ∧ Below w.heap.size w w' := by
  have H0 := Lib.hid (new_yes 1 w (by omega))
  go_enter Try.func5, Try.ntmps5
  go_wp2_with fail
  refine H0.out.mono ?_
  rintro e w1 ⟨b, fp, rfl, hp, hb1⟩
  have HP1 := Lib.hid hp
  have HB1 := Lib.hid hb1
  have H1 := Lib.hid (block5_any abc w1 (by decide))
  clear hp hb1 H0
  go_wp2_with fail
  refine H1.out.mono ?_
  rintro e w2 ⟨rfl, hb2⟩
  have HP2 := Lib.hid (HP1.out.since hb2)
  have HB2 := Lib.hid (HB1.out.trans (hb2.mono HB1.out.size))
  have h2 := write_any w.heap.size b (newDS 1) fp (0 : Nat) (dots abc) w2 HP2.out (newDS_room 1)
  rw [lives_write.1, lives_write.2] at h2
  have H2 := Lib.hid h2
  clear hb2 H1 h2
  go_wp2_with fail
  refine H2.out.mono ?_
  rintro e w3 ⟨rfl, fp3, hp3, hs3, hf3⟩
  have HP3 := Lib.hid hp3
  have HB3 := Lib.hid (HB2.out.trans (hs3.below (fun k hk => (HP2.out.lt k hk).1) HB2.out.size))
  have hrow : RowN (w3.alloc (.cells #[.int .u8 2] 5)) (some ⟨w3.heap.size, 0, none⟩) [2] := fun _ => ⟨w3.heap.size, 0, rfl, fun i x hx => by
    match i, hx with
    | 0, hx =>
      simp at hx
      subst hx
      exact ⟨by omega, (Blk.new w3 _ _).cell 0⟩
    | i + 1, hx => simp at hx⟩
  have hpa : PD (w3.alloc (.cells #[.int .u8 2] 5)) w.heap.size b _ fp3 := hp3.since ((Below.refl _ w3).alloc (Nat.le_refl _) _)
  have H3 := Lib.hid (restart_any w.heap.size b _ fp3 (some ⟨w3.heap.size, 0, none⟩) 1 [2] _ hpa (by show 1 ≤ _; omega) (by show 1 ≤ _; omega) hrow (fun _ A hA hm => by
    injection hA with hA
    subst hA
    have := (hp3.lt _ hm).2
    simp at this))
  have HPA := Lib.hid hpa
  have HB3a := Lib.hid (HB3.out.alloc HB3.out.size (.cells #[.int .u8 2] 5))
  clear hp3 hs3 hf3 hrow hpa H2
  go_wp2_with fail
  refine H3.out.mono ?_
  rintro e w4 ⟨rfl, fp4, hp4, hs4, hf4⟩
  have HP4 := Lib.hid hp4
  have HB4 := Lib.hid (HB3a.out.trans (hs4.below (fun k hk => (HPA.out.lt k hk).1) HB3a.out.size))
  have h4 := read_any w.heap.size b _ fp4 (0 : Nat) w4 hp4 (by show 0 ≤ _; omega)
  rw [lives_read] at h4
  have H4 := Lib.hid h4
  clear hp4 hs4 hf4 h4 H3
  go_wp2_with fail
  refine H4.out.mono ?_
  rintro e w5 ⟨rfl, hb5⟩
  have HB5 := Lib.hid (HB4.out.trans (hb5.mono HB4.out.size))
  have H5 : Hid (Calls Try.prog 25 #[.string ⟨#[0]⟩, .int .i64 62] w5 fun e w' => e = .returned (.string (st z62)) ∧ Below w5.heap.size w5 w') := repeat_one 0 62 w5 (by omega)
  have ha : (⟨#[97, 98]⟩ : ByteArray) ++ st z62 = st ab0 := by rw [show (⟨#[97, 98]⟩ : ByteArray) = st [97, 98] from rfl, st_append]; rfl
  have hr : (st z62).size ≤ 62 := by rw [st_size]; decide
  clear hb5 H4
  go_wp2_with fail
  refine H5.out.mono ?_
  rintro e w6 ⟨rfl, hb6⟩
  have HB6 := Lib.hid (HB5.out.trans (hb6.mono HB5.out.size))
  clear hb6 H5
  go_wp2
  go_ret
  exact ⟨rfl, HB6.out⟩
end Go.Proofs.Ythckcbnendjmpaa
