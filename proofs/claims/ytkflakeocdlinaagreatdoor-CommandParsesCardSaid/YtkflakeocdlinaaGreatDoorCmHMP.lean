/-
  Contracts of command.number, readShares.
-/
import Derived.Test.YtkflakeocdlinaaGreatDoorCmQMP
namespace Go.Proofs.YtkflakeocdlinaaGreatDoor
open Go.RowKit Go.Deep

theorem sclone_any (s : ByteArray) (w : World) (hs : s.size ≤ 281474976710656) : Calls Tryz.prog 38 #[.string s] w fun e w' => e = .returned (.string s) ∧ Below w.heap.size w w' := by
  have H := Lib.hid (Tryz.stringslite_Clone s w hs)
  clear hs
  go_enter Tryz.func38, Tryz.ntmps38
  go_wp2_with fail
  refine H.out.mono ?_
  rintro e w1 ⟨rfl, hb⟩
  have HB := Lib.hid hb
  clear hb
  go_wp2
  go_ret
  exact ⟨rfl, HB.out⟩

set_option maxHeartbeats 1600000 in
theorem number_any (l : List UInt8) (w : World) (hl : l.length ≤ 100000) (hv : Vars w) :
    Calls Tryz.prog 65 #[.string (st l)] w fun e w' => e = .returned (.int .i64 (numW l)) ∧ Below w.heap.size w w' := by
  have hP : ∃ ev : Value, Hid (Calls Tryz.prog 88 #[.string (st l), .int .i64 10, .int .i64 64] w fun e w' => (∃ er : Value, e = .returned (.tuple #[.int .i64 (numW l), er])) ∧ Below w.heap.size w w') := by
    refine ⟨undef, ?_⟩
    have hd : (st l).data.toList = l := st_toList l
    have hsz := st_size l
    show Calls _ _ _ _ _
    cases h : Go.Lib.parseIntB 64 l with
    | ok v =>
      have hn : numW l = v := by unfold numW; rw [h]
      refine (Tryz.strconv_ParseInt_10_at64_ok (st l) (by omega) v (by rw [hd]; exact h) w).mono ?_
      rintro e w' ⟨he, hw⟩
      refine ⟨⟨_, by rw [he, hn]⟩, ?_⟩
      rcases hw with rfl | ⟨t, rfl⟩
      · exact Below.refl _ _
      · exact Go.Lib.bytesWorld_below _ _ _
    | range =>
      have hn : numW l = Go.Lib.intSat 64 l := by unfold numW; rw [h]
      obtain ⟨tp, p, hc⟩ := hv.ran
      refine (Tryz.strconv_ParseInt_10_at64_range (st l) (by omega) (by rw [hd]; exact h) _ w hc (.inr ⟨tp, p, rfl⟩)).mono ?_
      rintro e w' ⟨N, he, _, _, hb⟩
      rw [hd] at he
      exact ⟨⟨_, by rw [he, hn]⟩, hb⟩
    | _ =>
      have hn : numW l = 0 := by unfold numW; rw [h]
      obtain ⟨tp, p, hc⟩ := hv.syn
      refine (Tryz.strconv_ParseInt_10_at64_syntax (st l) (by omega) (by rw [hd]; exact h.trans rfl) _ w hc (.inr ⟨tp, p, rfl⟩)).mono ?_
      rintro e w' ⟨N, he, _, _, hb⟩
      exact ⟨⟨_, by rw [he, hn]⟩, hb⟩
  obtain ⟨_, HP⟩ := hP
  obtain ⟨z, hz⟩ : ∃ z, z = numW l := ⟨_, rfl⟩
  rw [← hz] at HP ⊢
  clear hz hv hl
  go_enter Tryz.func65, Tryz.ntmps65
  go_wp2_with fail
  refine HP.out.mono ?_
  rintro e w1 ⟨⟨er, rfl⟩, hb⟩
  have HB := Lib.hid hb
  clear hb
  go_wp2
  go_ret
  exact ⟨rfl, HB.out⟩

theorem scut_any (l : List UInt8) (w : World) (hl : l.length ≤ 100000) (hv : Vars w) :
    Calls Tryz.prog 89 #[.string (st l), .string ⟨#[58]⟩] w fun e w' => (∃ b : Bool, e = .returned (.tuple #[.string (st (Go.Lib.cut l [58]).1), .string (st (Go.Lib.cut l [58]).2.1), .bool b])) ∧ Below w.heap.size w w' := by
  obtain ⟨m, hm⟩ := hv.max
  refine (Tryz.strings_Cut (st l) ⟨#[58]⟩ m w (by rw [st_size]; omega) hm).mono ?_
  rintro e w' ⟨he, n, rfl⟩
  have hd : (st l).data.toList = l := st_toList l
  rw [hd] at he
  exact ⟨⟨_, he⟩, (⟨rfl, rfl, rfl, Nat.le_refl _, fun _ _ => rfl⟩ : Below w.heap.size w (w.drewN n))⟩
theorem cut_len (l : List UInt8) : (Go.Lib.cut l [58]).1.length ≤ l.length ∧ (Go.Lib.cut l [58]).2.1.length ≤ l.length := by
  unfold Go.Lib.cut
  split
  · simp; omega
  · simp

theorem run_makeSh (n : Nat) (h : n ≤ 1000000) (w : World) :
    (Instr.makeSlice 22 (.int .i64 (n : Int)) (.int .i64 (n : Int))).run Tryz.prog w = .ok (.slice (some ⟨w.heap.size, 0, none⟩) n n) (w.alloc (.cells (madeCells #[.string ⟨#[]⟩, .int .i64 0] (n * 2)) 39)) := by
  have infoSh : (Tryz.prog.info? 39).map (fun i => (i.zero, i.size, i.bytes)) = some (some (.agg #[.string ⟨#[]⟩, .int .i64 0]), 2, 24) := by kernel_rfl
  obtain ⟨i, hi, hzz⟩ := Option.map_eq_some_iff.1 infoSh
  simp only [Prod.mk.injEq] at hzz
  obtain ⟨hz, hs, hb⟩ := hzz
  have hr := run_make (P := Tryz.prog) w 22 39 i _ Tryz.underlying22 hi hz .i64 .i64 n n (by omega) (Int.le_refl _) (by rw [hb]; omega) (by omega)
  simp only [Int.toNat_natCast, hs] at hr
  exact hr

/-- what readShares answers -/
def RsPost (W : List (List UInt8)) (w : World) (e : Ending) (w' : World) : Prop :=
  ∃ g, e = .returned (.slice (some ⟨g, 0, none⟩) W.length W.length) ∧ RowG 2 cSh w' (some ⟨g, 0, none⟩) (W.map shW) ∧ w.heap.size ≤ g ∧ Below w.heap.size w w'

set_option maxHeartbeats 3200000 in
set_option maxRecDepth 100000 in
theorem readShares_any (a : Option Addr) (cp : Nat) (W : List (List UInt8)) (w : World) (hr : RowS w a W) (hl : W.length ≤ 1000) (hs : ∀ x ∈ W, x.length ≤ 100000) (hv : Vars w) :
    Calls Tryz.prog 66 #[.slice a W.length cp] w (RsPost W w) := by
  unfold RsPost
  obtain ⟨L, hL⟩ : ∃ L, L = W.map shW := ⟨_, rfl⟩
  have HL := Lib.hid hL
  obtain ⟨n, hn⟩ : ∃ n, n = W.length := ⟨_, rfl⟩
  have HN := Lib.hid hn
  have HLN : Hid (L.length = n) := by show _ = _; rw [hL, List.length_map, hn]
  have HR := Lib.hid hr
  have HS := Lib.hid hs
  have HV := Lib.hid hv
  rw [← hL, ← hn]
  rw [← hn] at hl
  clear hL hn hr hs hv
  have hmk := run_makeSh n (by omega)
  have HP := Lib.hid (MadeAt.start (z := 2) (c := cSh) (ty := 39) L n w #[.string ⟨#[]⟩, .int .i64 0] (n * 2) rfl)
  go_enter Tryz.func66, Tryz.ntmps66
  go_wp2
  clear hmk
  obtain ⟨g, hg⟩ : ∃ g, g = w.heap.size := ⟨_, rfl⟩
  have HGE := Lib.hid hg
  rw [← hg] at HP ⊢
  generalize w.alloc (.cells (madeCells #[.string ⟨#[]⟩, .int .i64 0] (n * 2)) 39) = w6 at HP ⊢
  clear hg
  go_loopg [4, 5, 6, 7, 8, 14, 19] n (fun gk _ _ _ _ _ ix _ wr => ∃ j : Nat, j ≤ n ∧ ix = .int .i64 j ∧ n - j ≤ gk ∧ Hid (MadeAt 2 cSh 39 L n g w wr j))
  case atStart => exact ⟨0, Nat.zero_le _, rfl, by omega, HP.out⟩
  case round =>
    clear HP
    obtain ⟨j, hj, rfl, hgk, HP⟩ := hrel
    by_cases hlt : j < n
    · obtain ⟨x, hx⟩ : ∃ x, W[j]? = some x := ⟨_, List.getElem?_eq_getElem (by rw [← HN.out]; exact hlt)⟩
      have hxl := HS.out x (List.mem_of_getElem? hx)
      obtain ⟨b1, off, e1, hcell⟩ := (HR.out.keep HP.out.below) (by rw [← HN.out]; omega)
      subst e1
      have c0 : wr.cell? ⟨b1, off + j, none⟩ = some (.string (st x)) := hcell j x hx
      have hLj : L[j]? = some (shW x) := by rw [HL.out, List.getElem?_map, hx]; rfl
      have HC := Lib.hid (scut_any x wr hxl (HV.out.keep HP.out.below))
      obtain ⟨l1, l2⟩ := cut_len x
      obtain ⟨p, hp⟩ : ∃ p, p = (Go.Lib.cut x [58]).1 := ⟨_, rfl⟩
      obtain ⟨q, hq⟩ : ∃ q, q = (Go.Lib.cut x [58]).2.1 := ⟨_, rfl⟩
      have hsh : shW x = (p, numW q) := by unfold shW; rw [hp, hq]
      rw [hsh] at hLj
      rw [← hp, ← hq] at HC
      rw [← hp] at l1
      rw [← hq] at l2
      have HCL : Hid (∀ W', Calls Tryz.prog 38 #[.string (st p)] W' fun e w' => e = .returned (.string (st p)) ∧ Below W'.heap.size W' w') := fun W' => sclone_any (st p) W' (by rw [st_size]; omega)
      have HNU : Hid (∀ W', Vars W' → Calls Tryz.prog 65 #[.string (st q)] W' fun e w' => e = .returned (.int .i64 (numW q)) ∧ Below W'.heap.size W' w') := fun W' hv => number_any q W' (by omega) hv
      obtain ⟨z, hz⟩ : ∃ z, z = numW q := ⟨_, rfl⟩
      rw [← hz] at HNU hLj
      have HST : Hid (∀ W', MadeAt 2 cSh 39 L n g w W' j → MadeAt 2 cSh 39 L n g w ((W'.setCell ⟨g, j * 2, none⟩ (.string (st p))).setCell ⟨g, j * 2 + 1, none⟩ (.int .i64 z)) (j + 1)) := fun W' hW => MadeAt.step2 (x := (p, z)) hW hlt hLj
      have hkz : (0 : Int) ≤ (j : Int) := by omega
      have hkn : (j : Int) < (n : Int) := by omega
      clear hx hxl hcell hLj l1 l2 hp hq hsh hz
      go_wp2_with fail
      refine HC.out.mono ?_
      rintro e w1 ⟨⟨bb, rfl⟩, hb⟩
      have HP1 := Lib.hid (HP.out.keep hb)
      clear hb HC c0
      go_wp2_with fail
      refine (HCL.out _).mono ?_
      rintro e w2 ⟨rfl, hb⟩
      have HP2 := Lib.hid (HP1.out.keep hb)
      clear hb HCL
      go_wp2_with fail
      refine (HNU.out _ (HV.out.keep HP2.out.below)).mono ?_
      rintro e w3 ⟨rfl, hb⟩
      have HP3 := Lib.hid (HP2.out.keep hb)
      obtain ⟨v0, v1, r0, r1, z0, z1⟩ := HP3.out.room2 hlt
      have HNX := Lib.hid (HST.out w3 HP3.out)
      clear hb HNU HST
      go_wp2
      go_roundg (n - (j + 1))
      case measure => omega
      case rel => exact ⟨j + 1, by omega, by go_num, by omega, HNX.out⟩
    · have hkn : ¬ ((j : Int) < (n : Int)) := by omega
      have e : j = n := by omega
      have HROW : Hid (RowG 2 cSh wr (some ⟨g, 0, none⟩) L) := by subst e; exact HP.out.row HLN.out
      clear e
      go_wp2
      go_ret
      exact ⟨g, rfl, HROW.out, HP.out.new, HP.out.below⟩
end Go.Proofs.YtkflakeocdlinaaGreatDoor
