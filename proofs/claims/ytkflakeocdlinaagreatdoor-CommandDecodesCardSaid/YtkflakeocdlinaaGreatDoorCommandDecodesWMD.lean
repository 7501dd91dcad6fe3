/-
  The walk of souklaw18.CommandDecodes.
-/
import Derived.Test.YtkflakeocdlinaaGreatDoorCmUMD
import Derived.Test.YtkflakeocdlinaaGreatDoorCmOMD
import Derived.Test.YtkflakeocdlinaaGreatDoorMD12
namespace Go.Proofs.YtkflakeocdlinaaGreatDoor
open Go.RowKit Go.Deep Go.Lib

/-- the two ways of the document's Command -/
theorem rcommand_good (l : List UInt8) (w : World) (hl : l.length ≤ 2000) (h1 : rightC (decC l) = 0) (h2 : bytesC (decC l) = l) :
    Calls Tryz.prog 17 #[.string (st l)] w fun e w' => ∃ a2 cp2, e = .returned (.tuple #[.agg #[.string (st (decC l).kind), .string (st (decC l).id), .string (st (decC l).about), .string (st (decC l).cur), .string (st (decC l).cat), .int .i64 (decC l).amt, .slice a2 (decC l).sh.length cp2], .bool true]) ∧ RowG 2 cSh w' a2 (decC l).sh ∧ Below w.heap.size w w' := by
  refine (rcommand_any l w hl).mono ?_
  intro e w' h
  unfold RcPost18 at h
  obtain ⟨c, a, cp, ok, he, hr, _, hb, ⟨rfl, rfl, _, _⟩ | ⟨_, hn⟩⟩ := h
  · exact ⟨a, cp, he, hr, hb⟩
  · exact absurd ⟨h1, h2⟩ hn
theorem rcommand_none (l : List UInt8) (w : World) (hl : l.length ≤ 2000) (hn : ¬ (rightC (decC l) = 0 ∧ bytesC (decC l) = l)) :
    Calls Tryz.prog 17 #[.string (st l)] w fun e w' => ∃ (c2 : Cm) (a2 : Option Addr) (cp2 : Nat), e = .returned (.tuple #[.agg #[.string (st c2.kind), .string (st c2.id), .string (st c2.about), .string (st c2.cur), .string (st c2.cat), .int .i64 c2.amt, .slice a2 c2.sh.length cp2], .bool false]) ∧ Below w.heap.size w w' := by
  refine (rcommand_any l w hl).mono ?_
  intro e w' h
  unfold RcPost18 at h
  obtain ⟨c, a, cp, ok, he, hr, _, hb, ⟨_, rfl, h1, h2⟩ | ⟨rfl, _⟩⟩ := h
  · exact absurd ⟨h1, h2⟩ hn
  · exact ⟨c, a, cp, he, hb⟩

set_option maxHeartbeats 3200000 in
set_option maxRecDepth 100000 in
theorem decodes_walk (l : List UInt8) (w : World) (hv : Vars w) :
    Calls Tryz.prog 4 #[.string (st l)] w fun e w' => e = .returned (.bool true) ∧ Below w.heap.size w w' := by
  have hsz := st_size l
  obtain ⟨n, hn⟩ : ∃ n, n = l.length := ⟨_, rfl⟩
  rw [← hn] at hsz
  have HN := Lib.hid hn
  have HL := fun W (h : Vars W) => Lib.hid (lives18_any W h)
  have HV := Lib.hid hv
  clear hn hv
  by_cases hbig : 2000 < n
  · have h1 : (2000 : Int) < (n : Int) := by omega
    clear HN
    go_enter Tryz.func4, Tryz.ntmps4
    go_wp2_with fail
    refine (HL _ HV.out).out.mono ?_
    rintro e w1 ⟨rfl, hb⟩
    have HB1 := Lib.hid hb
    clear hb
    go_wp2_with fail
    refine (HL _ (HV.out.keep HB1.out)).out.mono ?_
    rintro e w2 ⟨rfl, hb⟩
    have HB2 := Lib.hid (bel_onG HB1.out HB1.out.size hb)
    clear hb
    go_wp2
    go_ret
    exact ⟨rfl, HB2.out⟩
  · have h1 : ¬ (2000 : Int) < (n : Int) := by omega
    have HLL : Hid (l.length ≤ 2000) := by show _ ≤ _; rw [← HN.out]; omega
    have HP := fun W => Lib.hid (decode_two l W (by have := HLL.out; omega))
    have HG := fun W => Lib.hid (rcommand_good l W HLL.out)
    have HZ := fun W => Lib.hid (rcommand_none l W HLL.out)
    obtain ⟨C, hC⟩ : ∃ C, C = decC l := ⟨_, rfl⟩
    rw [← hC] at HP HG HZ
    clear hC hbig HN HLL
    go_enter Tryz.func4, Tryz.ntmps4
    go_wp2_with fail
    refine (HL _ HV.out).out.mono ?_
    rintro e w1 ⟨rfl, hb⟩
    have HB1 := Lib.hid hb
    clear hb
    go_wp2_with fail
    refine (HP _).out.mono ?_
    rintro e w2 ⟨hb, h⟩
    have HB2 := Lib.hid (bel_onG HB1.out HB1.out.size hb)
    clear hb HP HL
    rcases h with ⟨a, cp, rfl, hr, hc, hrc, htc⟩ | ⟨a, cp, rfl, hn⟩
    · have HL8 : Hid (C.sh.length ≤ 4611686018427387904) := Nat.le_trans (good_small (good_of hrc)).2.2.2.2.2.2.2.1 (by omega)
      have hb3 : Below w2.heap.size w2 (w2.alloc (.cells #[.string (st C.kind), .string (st C.id), .string (st C.about), .string (st C.cur), .string (st C.cat), .int .i64 C.amt, .slice a C.sh.length cp] 24)) := (Below.refl _ w2).alloc (Nat.le_refl _) _
      have HR := Lib.hid (hr.keep hb3)
      have HBX : Hid (Blk (w2.alloc (.cells #[.string (st C.kind), .string (st C.id), .string (st C.about), .string (st C.cur), .string (st C.cat), .int .i64 C.amt, .slice a C.sh.length cp] 24)) w2.heap.size 24 #[.string (st C.kind), .string (st C.id), .string (st C.about), .string (st C.cur), .string (st C.cat), .int .i64 C.amt, .slice a C.sh.length cp]) := Blk.new w2 _ _
      have HB3 := Lib.hid (bel_onG HB2.out HB2.out.size hb3)
      have HGG : Hid (∀ W, Calls Tryz.prog 17 #[.string (st l)] W fun e w' => ∃ a2 cp2, e = .returned (.tuple #[.agg #[.string (st C.kind), .string (st C.id), .string (st C.about), .string (st C.cur), .string (st C.cat), .int .i64 C.amt, .slice a2 C.sh.length cp2], .bool true]) ∧ RowG 2 cSh w' a2 C.sh ∧ Below W.heap.size W w') := fun W => (HG W).out hrc htc
      clear hr hc hrc htc hb3 HG HZ
      go_upto_region 4 with fail
      obtain ⟨bx, hbx⟩ : ∃ bx, bx = w2.heap.size := ⟨_, rfl⟩
      rw [← hbx] at HBX ⊢
      generalize w2.alloc (.cells #[.string (st C.kind), .string (st C.id), .string (st C.about), .string (st C.cur), .string (st C.cat), .int .i64 C.amt, .slice a C.sh.length cp] 24) = w3 at HR HBX HB3 ⊢
      clear hbx
      go_wp2_with fail
      refine (HGG.out _).mono ?_
      rintro e w4 ⟨a2, cp2, rfl, hr2, hb⟩
      have hb5 : Below w4.heap.size w4 (w4.alloc (.cells #[.string (st C.kind), .string (st C.id), .string (st C.about), .string (st C.cur), .string (st C.cat), .int .i64 C.amt, .slice a2 C.sh.length cp2] 24)) := (Below.refl _ w4).alloc (Nat.le_refl _) _
      have hb4 := bel_onG HB3.out HB3.out.size hb
      have HB5 := Lib.hid (bel_onG hb4 hb4.size hb5)
      have HR5 := Lib.hid ((HR.out.keep hb).keep hb5)
      have HS5 := Lib.hid (hr2.keep hb5)
      have HBX5 := Lib.hid ((HBX.out.since hb).since hb5)
      have HBY5 : Hid (Blk (w4.alloc (.cells #[.string (st C.kind), .string (st C.id), .string (st C.about), .string (st C.cur), .string (st C.cat), .int .i64 C.amt, .slice a2 C.sh.length cp2] 24)) w4.heap.size 24 #[.string (st C.kind), .string (st C.id), .string (st C.about), .string (st C.cur), .string (st C.cat), .int .i64 C.amt, .slice a2 C.sh.length cp2]) := Blk.new w4 _ _
      clear hb hb4 hb5 hr2 HBX HR HGG
      go_upto_region 5 with fail
      obtain ⟨by5, hby⟩ : ∃ bx, bx = w4.heap.size := ⟨_, rfl⟩
      rw [← hby] at HBY5 ⊢
      generalize w4.alloc (.cells #[.string (st C.kind), .string (st C.id), .string (st C.about), .string (st C.cur), .string (st C.cat), .int .i64 C.amt, .slice a2 C.sh.length cp2] 24) = w5 at HB5 HR5 HS5 HBX5 HBY5 ⊢
      clear hby
      have HSM : Hid (∀ W, RowG 2 cSh W a C.sh → RowG 2 cSh W a2 C.sh → Calls Tryz.prog 16 #[.agg #[.string (st C.kind), .string (st C.id), .string (st C.about), .string (st C.cur), .string (st C.cat), .int .i64 C.amt, .slice a C.sh.length cp], .agg #[.string (st C.kind), .string (st C.id), .string (st C.about), .string (st C.cur), .string (st C.cat), .int .i64 C.amt, .slice a2 C.sh.length cp2]] W fun e w' => e = .returned (.bool true) ∧ Below W.heap.size W w') := fun W h1 h2 => same_core (st C.kind) (st C.id) (st C.about) (st C.cur) (st C.cat) C.amt C.sh a a2 cp cp2 W h1 h2 HL8.out
      obtain ⟨d0, d1, d2, d3, d4, d5, d6⟩ := cell_seven HBX5.out
      obtain ⟨g0, g1, g2, g3, g4, g5, g6⟩ := cell_seven HBY5.out
      go_wp2_with fail
      refine (HSM.out _ HR5.out HS5.out).mono ?_
      rintro e w6 ⟨rfl, hb⟩
      have HB6 := Lib.hid (bel_onG HB5.out HB5.out.size hb)
      clear hb
      go_wp2
      go_ret
      exact ⟨rfl, HB6.out⟩
    · have HS : Hid (∀ W, Calls Tryz.prog 16 #[.agg #[.string ⟨#[]⟩, .string ⟨#[]⟩, .string ⟨#[]⟩, .string ⟨#[]⟩, .string ⟨#[]⟩, .int .i64 0, .slice a 0 cp], .agg #[.string ⟨#[]⟩, .string ⟨#[]⟩, .string ⟨#[]⟩, .string ⟨#[]⟩, .string ⟨#[]⟩, .int .i64 0, .slice none 0 0]] W fun e w' => e = .returned (.bool true) ∧ Below W.heap.size W w') := fun W => same_core ⟨#[]⟩ ⟨#[]⟩ ⟨#[]⟩ ⟨#[]⟩ ⟨#[]⟩ 0 [] a none cp 0 W (RowG.nil _ _) (RowG.nil _ _) (by decide)
      have hb3 : Below w2.heap.size w2 (w2.alloc (.cells #[.string ⟨#[]⟩, .string ⟨#[]⟩, .string ⟨#[]⟩, .string ⟨#[]⟩, .string ⟨#[]⟩, .int .i64 0, .slice a 0 cp] 24)) := (Below.refl _ w2).alloc (Nat.le_refl _) _
      have HBX : Hid (Blk (w2.alloc (.cells #[.string ⟨#[]⟩, .string ⟨#[]⟩, .string ⟨#[]⟩, .string ⟨#[]⟩, .string ⟨#[]⟩, .int .i64 0, .slice a 0 cp] 24)) w2.heap.size 24 #[.string ⟨#[]⟩, .string ⟨#[]⟩, .string ⟨#[]⟩, .string ⟨#[]⟩, .string ⟨#[]⟩, .int .i64 0, .slice a 0 cp]) := Blk.new w2 _ _
      have HB3 := Lib.hid (bel_onG HB2.out HB2.out.size hb3)
      have HZZ : Hid (∀ W, Calls Tryz.prog 17 #[.string (st l)] W fun e w' => ∃ (c2 : Cm) (a2 : Option Addr) (cp2 : Nat), e = .returned (.tuple #[.agg #[.string (st c2.kind), .string (st c2.id), .string (st c2.about), .string (st c2.cur), .string (st c2.cat), .int .i64 c2.amt, .slice a2 c2.sh.length cp2], .bool false]) ∧ Below W.heap.size W w') := fun W => (HZ W).out hn
      clear hn hb3 HG HZ
      go_upto_region 4 with fail
      obtain ⟨bx, hbx⟩ : ∃ bx, bx = w2.heap.size := ⟨_, rfl⟩
      rw [← hbx] at HBX ⊢
      generalize w2.alloc (.cells #[.string ⟨#[]⟩, .string ⟨#[]⟩, .string ⟨#[]⟩, .string ⟨#[]⟩, .string ⟨#[]⟩, .int .i64 0, .slice a 0 cp] 24) = w3 at HBX HB3 ⊢
      clear hbx
      go_wp2_with fail
      refine (HZZ.out _).mono ?_
      rintro e w4 ⟨c2, a2, cp2, rfl, hb⟩
      have hb5 : Below w4.heap.size w4 (w4.alloc (.cells #[.string (st c2.kind), .string (st c2.id), .string (st c2.about), .string (st c2.cur), .string (st c2.cat), .int .i64 c2.amt, .slice a2 c2.sh.length cp2] 24)) := (Below.refl _ w4).alloc (Nat.le_refl _) _
      have hb4 := bel_onG HB3.out HB3.out.size hb
      have HB5 := Lib.hid (bel_onG hb4 hb4.size hb5)
      have HBX5 := Lib.hid ((HBX.out.since hb).since hb5)
      clear hb hb4 hb5 HBX HZZ
      go_upto_region 5 with fail
      generalize w4.alloc (.cells #[.string (st c2.kind), .string (st c2.id), .string (st c2.about), .string (st c2.cur), .string (st c2.cat), .int .i64 c2.amt, .slice a2 c2.sh.length cp2] 24) = w5 at HB5 HBX5 ⊢
      obtain ⟨d0, d1, d2, d3, d4, d5, d6⟩ := cell_seven HBX5.out
      go_wp2_with fail
      refine (HS.out _).mono ?_
      rintro e w6 ⟨rfl, hb⟩
      have HB6 := Lib.hid (bel_onG HB5.out HB5.out.size hb)
      clear hb
      go_wp2
      go_ret
      exact ⟨rfl, HB6.out⟩
end Go.Proofs.YtkflakeocdlinaaGreatDoor
