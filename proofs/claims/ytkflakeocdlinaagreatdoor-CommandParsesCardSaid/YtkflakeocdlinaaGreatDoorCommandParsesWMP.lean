/-
  The walk of souklaw18.CommandParses.
-/
import Derived.Test.YtkflakeocdlinaaGreatDoorCmUMP
import Derived.Test.YtkflakeocdlinaaGreatDoorCmTMP
import Derived.Test.YtkflakeocdlinaaGreatDoorCmNMP
namespace Go.Proofs.YtkflakeocdlinaaGreatDoor
open Go.RowKit Go.Deep

set_option maxHeartbeats 3200000 in
set_option maxRecDepth 100000 in
theorem parses_walk (l : List UInt8) (w : World) (hv : Vars w) :
    Calls Tryz.prog 5 #[.string (st l)] w fun e w' => e = .returned (.bool true) ∧ Below w.heap.size w w' := by
  have hsz := st_size l
  obtain ⟨n, hn⟩ : ∃ n, n = l.length := ⟨_, rfl⟩
  rw [← hn] at hsz
  have HN := Lib.hid hn
  have HL := fun W (h : Vars W) => Lib.hid (lives18_any W h)
  have HV := Lib.hid hv
  clear hn hv
  by_cases hbig : 2000 < n
  · have h1 : (2000 : Int) < (n : Int) := by omega
    clear HN
    go_enter Tryz.func5, Tryz.ntmps5
    go_wp2_with fail
    refine (HL _ HV.out).out.mono ?_
    rintro e w1 ⟨rfl, hb⟩
    have HB1 := Lib.hid hb
    clear hb
    go_wp2_with fail
    refine (HL _ (HV.out.keep HB1.out)).out.mono ?_
    rintro e w2 ⟨rfl, hb⟩
    have HB2 := Lib.hid (bel_onG HB1.out HB1.out.size hb)
    clear hb
    go_wp2
    go_ret
    exact ⟨rfl, HB2.out⟩
  · have h1 : ¬ (2000 : Int) < (n : Int) := by omega
    have HP := fun W (h : Vars W) => Lib.hid (parse_two l W (by rw [← HN.out]; omega) h)
    obtain ⟨C, hC⟩ : ∃ C, C = parC l := ⟨_, rfl⟩
    rw [← hC] at HP
    clear hC hbig HN
    go_enter Tryz.func5, Tryz.ntmps5
    go_wp2_with fail
    refine (HL _ HV.out).out.mono ?_
    rintro e w1 ⟨rfl, hb⟩
    have HB1 := Lib.hid hb
    clear hb
    go_wp2_with fail
    refine (HP _ (HV.out.keep HB1.out)).out.mono ?_
    rintro e w2 ⟨hb, h⟩
    have HB2 := Lib.hid (bel_onG HB1.out HB1.out.size hb)
    clear hb HP HL
    rcases h with ⟨a, cp, rfl, hr, hc, hrc, htc⟩ | ⟨a, cp, rfl, hn⟩
    · obtain ⟨g1, g2, g3, g4, g5, g6, g7, g8, g9, g10⟩ := good_small (good_of hrc)
      have hb3 : Below w2.heap.size w2 (w2.alloc (.cells #[.string (st C.kind), .string (st C.id), .string (st C.about), .string (st C.cur), .string (st C.cat), .int .i64 C.amt, .slice a C.sh.length cp] 24)) := (Below.refl _ w2).alloc (Nat.le_refl _) _
      have HR := Lib.hid (hr.keep hb3)
      have HBX : Hid (Blk (w2.alloc (.cells #[.string (st C.kind), .string (st C.id), .string (st C.about), .string (st C.cur), .string (st C.cat), .int .i64 C.amt, .slice a C.sh.length cp] 24)) w2.heap.size 24 #[.string (st C.kind), .string (st C.id), .string (st C.about), .string (st C.cur), .string (st C.cat), .int .i64 C.amt, .slice a C.sh.length cp]) := Blk.new w2 _ _
      have HB3 := Lib.hid (bel_onG HB2.out HB2.out.size hb3)
      have HRR : Hid (∀ W, RowG 2 cSh W a C.sh → Calls Tryz.prog 11 #[.agg #[.string (st C.kind), .string (st C.id), .string (st C.about), .string (st C.cur), .string (st C.cat), .int .i64 C.amt, .slice a C.sh.length cp]] W fun e w' => e = .returned (.int .i64 0) ∧ Below W.heap.size W w') := fun W hW => by
        have h := rright_any C a cp W (by omega) (by omega) (by omega) (by omega) hW (by omega) (fun s hs => by have := badS_not (g9 s hs); omega)
        rw [hrc] at h
        exact h
      have HT : Hid (∀ W, RowG 2 cSh W a C.sh → Calls Tryz.prog 15 #[.agg #[.string (st C.kind), .string (st C.id), .string (st C.about), .string (st C.cur), .string (st C.cat), .int .i64 C.amt, .slice a C.sh.length cp]] W fun e w' => e = .returned (.string (st l)) ∧ Below W.heap.size W w') := fun W hW => by
        have h := rtext_any C (good_of hrc) a cp W hW
        rw [htc] at h
        exact h
      clear hr hc hrc htc g1 g2 g3 g4 g5 g6 g7 g8 g9 g10 hb3
      go_upto_region 4 with fail
      obtain ⟨bx, hbx⟩ : ∃ bx, bx = w2.heap.size := ⟨_, rfl⟩
      rw [← hbx] at HBX ⊢
      generalize w2.alloc (.cells #[.string (st C.kind), .string (st C.id), .string (st C.about), .string (st C.cur), .string (st C.cat), .int .i64 C.amt, .slice a C.sh.length cp] 24) = w3 at HR HBX HB3 ⊢
      clear hbx
      obtain ⟨d0, d1, d2, d3, d4, d5, d6⟩ := cell_seven HBX.out
      go_wp2_with fail
      refine (HRR.out _ HR.out).mono ?_
      rintro e w4 ⟨rfl, hb⟩
      have HB4 := Lib.hid (bel_onG HB3.out HB3.out.size hb)
      have HR4 := Lib.hid (HR.out.keep hb)
      have HBX4 := Lib.hid (HBX.out.since hb)
      clear hb d0 d1 d2 d3 d4 d5 d6 HBX HR HRR
      obtain ⟨d0, d1, d2, d3, d4, d5, d6⟩ := cell_seven HBX4.out
      go_wp2_with fail
      refine (HT.out _ HR4.out).mono ?_
      rintro e w5 ⟨rfl, hb⟩
      have HB5 := Lib.hid (bel_onG HB4.out HB4.out.size hb)
      clear hb
      go_wp2
      go_ret
      exact ⟨rfl, HB5.out⟩
    · have HS : Hid (∀ W, Calls Tryz.prog 16 #[.agg #[.string ⟨#[]⟩, .string ⟨#[]⟩, .string ⟨#[]⟩, .string ⟨#[]⟩, .string ⟨#[]⟩, .int .i64 0, .slice a 0 cp], .agg #[.string ⟨#[]⟩, .string ⟨#[]⟩, .string ⟨#[]⟩, .string ⟨#[]⟩, .string ⟨#[]⟩, .int .i64 0, .slice none 0 0]] W fun e w' => e = .returned (.bool true) ∧ Below W.heap.size W w') := fun W => same_core ⟨#[]⟩ ⟨#[]⟩ ⟨#[]⟩ ⟨#[]⟩ ⟨#[]⟩ 0 [] a none cp 0 W (RowG.nil _ _) (RowG.nil _ _) (by decide)
      have HB3 : Hid (∀ o, Below w.heap.size w (w2.alloc o)) := fun o => HB2.out.alloc HB2.out.size o
      clear hn
      go_wp2_with fail
      refine (HS.out _).mono ?_
      rintro e w5 ⟨rfl, hb⟩
      have HB5 := Lib.hid (bel_onG (HB3.out _) (HB3.out _).size hb)
      clear hb
      go_wp2
      go_ret
      exact ⟨rfl, HB5.out⟩
end Go.Proofs.YtkflakeocdlinaaGreatDoor
