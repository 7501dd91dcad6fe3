/-
  Contracts of souklaw18.Same of the same commands, of lives.
-/
import Derived.Test.YtkflakeocdlinaaGreatDoorCmJMC
import Derived.Laws.StructEq
import Derived.BigQuiet
namespace Go.Proofs.YtkflakeocdlinaaGreatDoor
open Go.RowKit Go.Deep

set_option maxHeartbeats 1600000 in
set_option maxRecDepth 100000 in
theorem eqSh_same (a1 a2 : Option Addr) (c1 c2 : Nat) (l : List Sh) (w : World) (h1 : RowG 2 cSh w a1 l) (h2 : RowG 2 cSh w a2 l) (hl : l.length ≤ 4611686018427387904) :
    Calls Tryz.prog 43 #[.slice a1 l.length c1, .slice a2 l.length c2] w fun e w' => e = .returned (.bool true) ∧ Below w.heap.size w w' := by
  obtain ⟨n, hn⟩ : ∃ n, n = l.length := ⟨_, rfl⟩
  have HN := Lib.hid hn
  have HR1 := Lib.hid h1
  have HR2 := Lib.hid h2
  rw [← hn] at hl ⊢
  clear hn h1 h2
  go_enter Tryz.func43, Tryz.ntmps43
  go_wp2
  go_loopg [5, 13] n (fun gk _ i wr => ∃ k : Nat, k ≤ n ∧ i = .int .i64 k ∧ n - k ≤ gk ∧ Hid (Below w.heap.size w wr))
  case atStart => exact ⟨0, Nat.zero_le _, rfl, by omega, Below.refl _ _⟩
  case round =>
    obtain ⟨k, hk, rfl, hgk, HB⟩ := hrel
    by_cases hlt : k < n
    · obtain ⟨x, hx⟩ : ∃ x, l[k]? = some x := ⟨_, List.getElem?_eq_getElem (by rw [← HN.out]; exact hlt)⟩
      obtain ⟨p, M⟩ := x
      obtain ⟨b1, off1, rfl⟩ := HR1.out.form (by rw [← HN.out]; omega)
      obtain ⟨b2, off2, rfl⟩ := HR2.out.form (by rw [← HN.out]; omega)
      have hat1 := (HR1.out.keep HB.out).at hx
      have hat2 := (HR2.out.keep HB.out).at hx
      have f0 : wr.cell? ⟨b1, off1 + k * 2, none⟩ = some (.string (st p)) := by simpa using hat1 0 _ rfl
      have f1 : wr.cell? ⟨b1, off1 + k * 2 + 1, none⟩ = some (.int .i64 M) := hat1 1 _ rfl
      have g0 : wr.cell? ⟨b2, off2 + k * 2, none⟩ = some (.string (st p)) := by simpa using hat2 0 _ rfl
      have g1 : wr.cell? ⟨b2, off2 + k * 2 + 1, none⟩ = some (.int .i64 M) := hat2 1 _ rfl
      have hkz : (0 : Int) ≤ (k : Int) := by omega
      have hkn : (k : Int) < (n : Int) := by omega
      have HBn : Hid (∀ z, Below w.heap.size w (wr.drewN z)) := fun z => drewN_below HB.out z
      clear hx hat1 hat2
      go_wp2
      go_quiet (fail)
      go_wp2
      go_roundg (n - (k + 1))
      case measure => omega
      case rel => exact ⟨k + 1, by omega, by go_num, by omega, HBn.out _⟩
    · have hkn : ¬ ((k : Int) < (n : Int)) := by omega
      go_wp2
      go_ret
      exact ⟨rfl, HB.out⟩

set_option maxHeartbeats 3200000 in
set_option maxRecDepth 100000 in
theorem same_core (K I B U T : ByteArray) (m : Int) (l : List Sh) (a1 a2 : Option Addr) (c1 c2 : Nat) (w : World) (h1 : RowG 2 cSh w a1 l) (h2 : RowG 2 cSh w a2 l) (hl : l.length ≤ 4611686018427387904) :
    Calls Tryz.prog 16 #[.agg #[.string K, .string I, .string B, .string U, .string T, .int .i64 m, .slice a1 l.length c1], .agg #[.string K, .string I, .string B, .string U, .string T, .int .i64 m, .slice a2 l.length c2]] w fun e w' => e = .returned (.bool true) ∧ Below w.heap.size w w' := by
  have hb : ∀ o p, Below w.heap.size w ((w.alloc o).alloc p) := fun o p => ((Below.refl _ w).alloc (Nat.le_refl _) o).alloc (by simp) p
  have HB := Lib.hid hb
  have HE : Hid (∀ o p, Calls Tryz.prog 43 #[.slice a1 l.length c1, .slice a2 l.length c2] ((w.alloc o).alloc p) fun e w' => e = .returned (.bool true) ∧ Below ((w.alloc o).alloc p).heap.size ((w.alloc o).alloc p) w') := fun o p => eqSh_same a1 a2 c1 c2 l _ (h1.keep (hb o p)) (h2.keep (hb o p)) hl
  obtain ⟨n, hn⟩ : ∃ n, n = l.length := ⟨_, rfl⟩
  rw [← hn] at HE ⊢
  clear hn hb h1 h2 hl
  go_enter Tryz.func16, Tryz.ntmps16
  go_wp2_with fail
  refine (HE.out _ _).mono ?_
  rintro e w1 ⟨rfl, hb⟩
  have HB1 := Lib.hid (bel_onG (HB.out _ _) (HB.out _ _).size hb)
  clear hb HE
  go_wp2
  go_ret
  exact ⟨rfl, HB1.out⟩

/-- the two ways of Parse -/
theorem parse_two (l : List UInt8) (w : World) (hl : l.length ≤ 100000) (hv : Vars w) :
    Calls Tryz.prog 13 #[.string (st l)] w fun e w' => Below w.heap.size w w' ∧
      ((∃ a cp, e = .returned (.tuple #[.agg #[.string (st (parC l).kind), .string (st (parC l).id), .string (st (parC l).about), .string (st (parC l).cur), .string (st (parC l).cat), .int .i64 (parC l).amt, .slice a (parC l).sh.length cp], .int .i64 0]) ∧ RowG 2 cSh w' a (parC l).sh ∧ (parC l).sh.length ≤ cp ∧ rightC (parC l) = 0 ∧ textC (parC l) = l) ∨
       (∃ a cp, e = .returned (.tuple #[.agg #[.string ⟨#[]⟩, .string ⟨#[]⟩, .string ⟨#[]⟩, .string ⟨#[]⟩, .string ⟨#[]⟩, .int .i64 0, .slice a 0 cp], .int .i64 3]) ∧ ¬ (rightC (parC l) = 0 ∧ textC (parC l) = l))) := by
  refine (parse_anyC l w hl hv).mono ?_
  rintro e w' ⟨c, a, cp, er, he, hr, hc, hb, h⟩
  refine ⟨hb, ?_⟩
  rcases h with ⟨rfl, rfl, h1, h2⟩ | ⟨rfl, rfl, h1⟩
  · exact .inl ⟨a, cp, he, hr, hc, h1, h2⟩
  · exact .inr ⟨a, cp, he, h1⟩

/-- the chapter's example -/
def xs18 : List Sh := [([97, 110, 110], 3), ([98, 111, 98], 1)]
def c18 : Cm := ⟨kSale, [115, 49], [], [69, 85, 82], [], 1000, xs18⟩
def l18 : List UInt8 := [115, 97, 108, 101, 32, 115, 49, 32, 69, 85, 82, 32, 45, 32, 49, 48, 48, 48, 32, 97, 110, 110, 58, 51, 32, 98, 111, 98, 58, 49]
theorem right_c18 : rightC c18 = 0 := by decide +kernel
theorem dig_1000 : digL 1000 = [49, 48, 48, 48] := by
  rw [digL_hi (by omega), digL_hi (n := 1000 / 10) (by omega), digL_hi (n := 1000 / 10 / 10) (by omega), digL_lo (by omega)]
  decide
theorem text_c18 : textC c18 = l18 := by
  have e3 : digL 3 = [51] := by rw [digL_lo (by omega)]; decide
  have e1 : digL 1 = [49] := by rw [digL_lo (by omega)]; decide
  have hw : wordsC c18 [0, 3, 4, 6, 8] = kSale :: [[115, 49], [69, 85, 82], [45], digL 1000, [97, 110, 110] ++ [58] ++ digL 3, [98, 111, 98] ++ [58] ++ digL 1] := by
    simp [wordsC, wordsF, c18, xs18, orD]
  have ht : textC c18 = Go.Lib.join (wordsC c18 [0, 3, 4, 6, 8]) [32] := rfl
  rw [ht, hw, dig_1000, e3, e1, Go.Lib.join_cons]
  decide
theorem par_l18 : parC l18 = c18 := by rw [← text_c18]; exact parC_text (good_of right_c18)
theorem row_xs18 (w : World) : RowG 2 cSh (w.alloc (.cells #[.string ⟨#[97, 110, 110]⟩, .int .i64 3, .string ⟨#[98, 111, 98]⟩, .int .i64 1] 39)) (some ⟨w.heap.size, 0, none⟩) xs18 := fun _ => by
  refine ⟨w.heap.size, 0, rfl, fun i x hx j u hu => ?_⟩
  have hb := Blk.new w 39 #[.string ⟨#[97, 110, 110]⟩, .int .i64 3, .string ⟨#[98, 111, 98]⟩, .int .i64 1]
  have hj : j < 2 := (List.getElem?_eq_some_iff.1 hu).1
  have hi : i < 2 := (List.getElem?_eq_some_iff.1 hx).1
  match i, hi, hx with
  | 0, _, hx =>
    injection hx with hx
    subst hx
    match j, hj, hu with
    | 0, _, hu => injection hu with hu; subst hu; exact hb.cell 0
    | 1, _, hu => injection hu with hu; subst hu; exact hb.cell 1
  | 1, _, hx =>
    injection hx with hx
    subst hx
    match j, hj, hu with
    | 0, _, hu => injection hu with hu; subst hu; exact hb.cell 2
    | 1, _, hu => injection hu with hu; subst hu; exact hb.cell 3

set_option maxHeartbeats 3200000 in
set_option maxRecDepth 100000 in
theorem lives18_any (w : World) (hv : Vars w) : Calls Tryz.prog 6 #[] w fun e w' => e = .returned (.bool true) ∧ Below w.heap.size w w' := by
  have HP : Hid (Calls Tryz.prog 13 #[.string ⟨#[115, 97, 108, 101, 32, 115, 49, 32, 69, 85, 82, 32, 45, 32, 49, 48, 48, 48, 32, 97, 110, 110, 58, 51, 32, 98, 111, 98, 58, 49]⟩] w fun e w' => (∃ a cp, e = .returned (.tuple #[.agg #[.string ⟨#[115, 97, 108, 101]⟩, .string ⟨#[115, 49]⟩, .string ⟨#[]⟩, .string ⟨#[69, 85, 82]⟩, .string ⟨#[]⟩, .int .i64 1000, .slice a 2 cp], .int .i64 0]) ∧ RowG 2 cSh w' a xs18) ∧ Below w.heap.size w w') := by
    refine (parse_two l18 w (by decide) hv).mono ?_
    rintro e w' ⟨hb, h⟩
    rw [par_l18] at h
    rcases h with ⟨a, cp, he, hr, hc, _, _⟩ | ⟨a, cp, he, hn⟩
    · exact ⟨⟨a, cp, he, hr⟩, hb⟩
    · exact absurd ⟨right_c18, text_c18⟩ hn
  clear hv
  go_enter Tryz.func6, Tryz.ntmps6
  go_wp2_with fail
  refine HP.out.mono ?_
  rintro e w1 ⟨⟨a, cp, rfl, hr⟩, hb⟩
  have HB1 := Lib.hid hb
  have hb1 : Below w1.heap.size w1 (w1.alloc (.cells #[.string ⟨#[115, 97, 108, 101]⟩, .string ⟨#[115, 49]⟩, .string ⟨#[]⟩, .string ⟨#[69, 85, 82]⟩, .string ⟨#[]⟩, .int .i64 1000, .slice a 2 cp] 24)) := (Below.refl _ w1).alloc (Nat.le_refl _) _
  have HR1 := Lib.hid (hr.keep hb1)
  have HBX : Hid (Blk (w1.alloc (.cells #[.string ⟨#[115, 97, 108, 101]⟩, .string ⟨#[115, 49]⟩, .string ⟨#[]⟩, .string ⟨#[69, 85, 82]⟩, .string ⟨#[]⟩, .int .i64 1000, .slice a 2 cp] 24)) w1.heap.size 24 #[.string ⟨#[115, 97, 108, 101]⟩, .string ⟨#[115, 49]⟩, .string ⟨#[]⟩, .string ⟨#[69, 85, 82]⟩, .string ⟨#[]⟩, .int .i64 1000, .slice a 2 cp]) := Blk.new w1 _ _
  have HB2 := Lib.hid (bel_onG hb hb.size hb1)
  clear hb hr HP hb1 HB1
  go_upto_region 2 with fail
  obtain ⟨bx, hbx⟩ : ∃ bx, bx = w1.heap.size := ⟨_, rfl⟩
  rw [← hbx] at HBX ⊢
  generalize w1.alloc (.cells #[.string ⟨#[115, 97, 108, 101]⟩, .string ⟨#[115, 49]⟩, .string ⟨#[]⟩, .string ⟨#[69, 85, 82]⟩, .string ⟨#[]⟩, .int .i64 1000, .slice a 2 cp] 24) = w2 at HR1 HBX HB2 ⊢
  clear hbx
  obtain ⟨d0, d1, d2, d3, d4, d5, d6⟩ := cell_seven HBX.out
  have hb3 : Below w2.heap.size w2 (w2.alloc (.cells #[.string ⟨#[97, 110, 110]⟩, .int .i64 3, .string ⟨#[98, 111, 98]⟩, .int .i64 1] 39)) := (Below.refl _ w2).alloc (Nat.le_refl _) _
  have HS : Hid (Calls Tryz.prog 16 #[.agg #[.string ⟨#[115, 97, 108, 101]⟩, .string ⟨#[115, 49]⟩, .string ⟨#[]⟩, .string ⟨#[69, 85, 82]⟩, .string ⟨#[]⟩, .int .i64 1000, .slice a 2 cp], .agg #[.string ⟨#[115, 97, 108, 101]⟩, .string ⟨#[115, 49]⟩, .string ⟨#[]⟩, .string ⟨#[69, 85, 82]⟩, .string ⟨#[]⟩, .int .i64 1000, .slice (some ⟨w2.heap.size, 0, none⟩) 2 2]] (w2.alloc (.cells #[.string ⟨#[97, 110, 110]⟩, .int .i64 3, .string ⟨#[98, 111, 98]⟩, .int .i64 1] 39)) fun e w' => e = .returned (.bool true) ∧ Below (w2.alloc (.cells #[.string ⟨#[97, 110, 110]⟩, .int .i64 3, .string ⟨#[98, 111, 98]⟩, .int .i64 1] 39)).heap.size (w2.alloc (.cells #[.string ⟨#[97, 110, 110]⟩, .int .i64 3, .string ⟨#[98, 111, 98]⟩, .int .i64 1] 39)) w') :=
    same_core ⟨#[115, 97, 108, 101]⟩ ⟨#[115, 49]⟩ ⟨#[]⟩ ⟨#[69, 85, 82]⟩ ⟨#[]⟩ 1000 xs18 a (some ⟨w2.heap.size, 0, none⟩) cp 2 _ (HR1.out.keep hb3) (row_xs18 w2) (by decide)
  have HB3 := Lib.hid (bel_onG HB2.out HB2.out.size hb3)
  clear hb3
  go_wp2_with fail
  refine HS.out.mono ?_
  rintro e w4 ⟨rfl, hb⟩
  have HB4 := Lib.hid (bel_onG HB3.out HB3.out.size hb)
  clear hb
  go_wp2
  go_ret
  exact ⟨rfl, HB4.out⟩
end Go.Proofs.YtkflakeocdlinaaGreatDoor
