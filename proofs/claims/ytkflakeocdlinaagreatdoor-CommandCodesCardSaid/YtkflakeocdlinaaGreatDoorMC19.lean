/-
  souklaw18.Small answers something; how long a right command's bytes and text are.
-/
import Derived.Test.YtkflakeocdlinaaGreatDoorCmUMC
import Derived.Test.YtkflakeocdlinaaGreatDoorCmTMC
import Derived.Test.YtkflakeocdlinaaGreatDoorMC12
import Derived.Test.YtkflakeocdlinaaGreatDoorCmNMC
import Derived.Test.YtkflakeocdlinaaGreatDoorCmJMC
namespace Go.Proofs.YtkflakeocdlinaaGreatDoor
open Go.RowKit Go.Deep Go.Lib

/-- some Bool -/
def SmallP (w : World) (e : Ending) (w' : World) : Prop := ∃ ok : Bool, e = .returned (.bool ok) ∧ Below w.heap.size w w'

set_option maxHeartbeats 3200000 in
set_option maxRecDepth 100000 in
theorem small_any (k i b u t : List UInt8) (m : Int) (a : Option Addr) (cp : Nat) (xs : List Sh) (w : World) (hr : RowG 2 cSh w a xs) (hl : xs.length ≤ 4611686018427387904) :
    Calls Tryz.prog 7 #[.agg #[.string (st k), .string (st i), .string (st b), .string (st u), .string (st t), .int .i64 m, .slice a xs.length cp]] w (SmallP w) := by
  have hb0 : Below w.heap.size w (w.alloc (.cells #[.string (st k), .string (st i), .string (st b), .string (st u), .string (st t), .int .i64 m, .slice a xs.length cp] 24)) := (Below.refl _ w).alloc (Nat.le_refl _) _
  have HB0 := Lib.hid hb0
  have HR := Lib.hid (hr.keep hb0)
  have HBX : Hid (Blk (w.alloc (.cells #[.string (st k), .string (st i), .string (st b), .string (st u), .string (st t), .int .i64 m, .slice a xs.length cp] 24)) w.heap.size 24 #[.string (st k), .string (st i), .string (st b), .string (st u), .string (st t), .int .i64 m, .slice a xs.length cp]) := Blk.new w _ _
  obtain ⟨n, hn⟩ : ∃ n, n = xs.length := ⟨_, rfl⟩
  have HN := Lib.hid hn
  have HNL : Hid (n ≤ 4611686018427387904) := by show _ ≤ _; omega
  rw [← hn] at HB0 HBX HR ⊢
  clear hb0 hr hl hn
  go_enter Tryz.func7, Tryz.ntmps7
  go_upto_region 1 with fail
  obtain ⟨bx, hbx⟩ : ∃ bx, bx = w.heap.size := ⟨_, rfl⟩
  have HE := Lib.hid hbx
  rw [← hbx] at HBX HB0 ⊢
  generalize w.alloc (.cells #[.string (st k), .string (st i), .string (st b), .string (st u), .string (st t), .int .i64 m, .slice a n cp] 24) = w0 at HR HBX HB0 ⊢
  clear hbx
  obtain ⟨d0, d1, d2, d3, d4, d5, d6⟩ := cell_seven HBX.out
  go_upto_region 2 with fail
  obtain ⟨z0, hz0⟩ : ∃ z : Int, z = 0 := ⟨_, rfl⟩
  clear hz0
  go_wp2
  go_loopg [3, 5, 28] n (fun gk zz bz ix wr => ∃ (j : Nat) (z : Int), j ≤ n ∧ zz = .int .i64 z ∧ ix = .int .i64 (j : Int) ∧ n - j ≤ gk ∧ Hid (Below bx w wr) ∧ Hid (RowG 2 cSh wr a xs))
  case atStart => exact ⟨0, _, Nat.zero_le _, rfl, rfl, by omega, HB0.out, HR.out⟩
  case round =>
    obtain ⟨j, z, hj, rfl, rfl, hgk, HB, HW⟩ := hrel
    by_cases hlt : j < n
    · have hkn : (j : Int) < (n : Int) := by omega
      have hkz : (0 : Int) ≤ (j : Int) := by omega
      have hlen : j < xs.length := by rw [← HN.out]; exact hlt
      obtain ⟨g, og, rfl⟩ := HW.out.form (by omega)
      obtain ⟨p, q, hpq⟩ : ∃ p q, xs[j]? = some (p, q) := ⟨_, _, List.getElem?_eq_getElem hlen⟩
      have c0 := HW.out.at hpq 0 _ rfl
      have c1 := HW.out.at hpq 1 _ rfl
      rw [Nat.add_zero] at c0
      have HBW : Hid (∀ o, Below bx w (wr.alloc o)) := fun o => HB.out.alloc (by rw [HE.out]; exact HB.out.size) o
      have HWW : Hid (∀ o, RowG 2 cSh (wr.alloc o) (some ⟨g, og, none⟩) xs) := fun o => HW.out.keep ((Below.refl _ wr).alloc (Nat.le_refl _) o)
      have h62 := HNL.out
      have HPQ := Lib.hid hpq
      clear hpq hlen
      go_wp2
      go_roundg (n - (j + 1))
      case measure => omega
      case rel => exact ⟨j + 1, _, by omega, rfl, by go_num, by omega, HBW.out _, HWW.out _⟩
    · have hkn : ¬ ((j : Int) < (n : Int)) := by omega
      go_wp2
      go_ret
      unfold SmallP
      exact ⟨_, rfl, by rw [← HE.out]; exact HB.out⟩
/-- how long -/
theorem bytesC_len {c : Cm} (hg : GoodC c) : (bytesC c).length ≤ 2000 := by
  obtain ⟨h1, h2, h3, h4, h5, _, _, h8, h9, _⟩ := good_small hg
  have h := shB_len c.sh h9
  unfold bytesC
  simp only [txt, List.length_append, lowL_length]
  omega
theorem textC_len {c : Cm} (hg : GoodC c) : (textC c).length ≤ 3000 := by
  unfold textC
  cases hf : formC c.kind with
  | none => simp
  | some f => exact textF_len hg (formC_le hf).1
theorem sm_good {c : Cm} (hg : GoodC c) : ∀ x ∈ itH c ++ itSh c.sh, smI x := by
  obtain ⟨h1, h2, h3, h4, h5, h6, h7, h8, h9, _⟩ := good_small hg
  exact smI_all h8 (by omega) (by omega) (fun s hs => by have := badS_not (h9 s hs); omega)
end Go.Proofs.YtkflakeocdlinaaGreatDoor
/-
  The walk of souklaw18.CommandCodes.
-/
namespace Go.Proofs.YtkflakeocdlinaaGreatDoor
open Go.RowKit Go.Deep Go.Lib

set_option maxHeartbeats 6400000 in
set_option maxRecDepth 100000 in
theorem codes_walk (c : Cm) (a : Option Addr) (cp : Nat) (w : World) (hv : Vars w) (hr : RowG 2 cSh w a c.sh) (hc : c.sh.length ≤ cp) (hk : c.kind.length ≤ maxLen) (hi : c.id.length ≤ 4611686018427387904) (hb : c.about.length ≤ 4611686018427387904) (hu : c.cur.length ≤ 4611686018427387904) (ht : c.cat.length ≤ 4611686018427387904) (hl : c.sh.length ≤ 4611686018427387904) (hs : ∀ s ∈ c.sh, s.1.length ≤ 4611686018427387904) :
    Calls Tryz.prog 3 #[.agg #[.string (st c.kind), .string (st c.id), .string (st c.about), .string (st c.cur), .string (st c.cat), .int .i64 c.amt, .slice a c.sh.length cp]] w fun e w' => e = .returned (.bool true) ∧ Below w.heap.size w w' := by
  have HLV := fun W (h : Vars W) => Lib.hid (lives18_any W h)
  have HSL : Hid (∀ W, RowG 2 cSh W a c.sh → Calls Tryz.prog 7 #[.agg #[.string (st c.kind), .string (st c.id), .string (st c.about), .string (st c.cur), .string (st c.cat), .int .i64 c.amt, .slice a c.sh.length cp]] W (SmallP W)) := fun W h => small_any c.kind c.id c.about c.cur c.cat c.amt a cp c.sh W h hl
  have HRG : Hid (∀ W, RowG 2 cSh W a c.sh → Calls Tryz.prog 8 #[.agg #[.string (st c.kind), .string (st c.id), .string (st c.about), .string (st c.cur), .string (st c.cat), .int .i64 c.amt, .slice a c.sh.length cp]] W fun e w' => e = .returned (.int .i64 (rightC c)) ∧ Below W.heap.size W w') := fun W h => right18_any c.kind c.id c.about c.cur c.cat c.amt a cp c.sh W hk h hc hl
  have HEN : Hid (∀ W, RowG 2 cSh W a c.sh → Calls Tryz.prog 9 #[.agg #[.string (st c.kind), .string (st c.id), .string (st c.about), .string (st c.cur), .string (st c.cat), .int .i64 c.amt, .slice a c.sh.length cp]] W fun e w' => e = .returned (.tuple #[.string (st (enT c)), .int .i64 (rightC c)]) ∧ Below W.heap.size W w') := fun W h => encode_any18 c a cp W hk h hc hl
  have HPR : Hid (∀ W, Vars W → RowG 2 cSh W a c.sh → Calls Tryz.prog 10 #[.agg #[.string (st c.kind), .string (st c.id), .string (st c.about), .string (st c.cur), .string (st c.cat), .int .i64 c.amt, .slice a c.sh.length cp]] W fun e w' => e = .returned (.tuple #[.string (st (prT c)), .int .i64 (rightC c)]) ∧ Below W.heap.size W w') := fun W h1 h => print_any18 c a cp W hk h1.tab h hc hl
  have HRR : Hid (∀ W, RowG 2 cSh W a c.sh → Calls Tryz.prog 11 #[.agg #[.string (st c.kind), .string (st c.id), .string (st c.about), .string (st c.cur), .string (st c.cat), .int .i64 c.amt, .slice a c.sh.length cp]] W fun e w' => e = .returned (.int .i64 (rightC c)) ∧ Below W.heap.size W w') := fun W h => rright_any c a cp W hi hb hu ht h hl hs
  have HV := Lib.hid hv
  have hb0 : Below w.heap.size w (w.alloc (.cells #[.string (st c.kind), .string (st c.id), .string (st c.about), .string (st c.cur), .string (st c.cat), .int .i64 c.amt, .slice a c.sh.length cp] 24)) := (Below.refl _ w).alloc (Nat.le_refl _) _
  have HB := Lib.hid hb0
  have HR := Lib.hid (hr.keep hb0)
  have HBX : Hid (Blk (w.alloc (.cells #[.string (st c.kind), .string (st c.id), .string (st c.about), .string (st c.cur), .string (st c.cat), .int .i64 c.amt, .slice a c.sh.length cp] 24)) w.heap.size 24 #[.string (st c.kind), .string (st c.id), .string (st c.about), .string (st c.cur), .string (st c.cat), .int .i64 c.amt, .slice a c.sh.length cp]) := Blk.new w _ _
  have HLL : Hid (c.sh.length ≤ 4611686018427387904) := hl
  clear hb0 hr hc hk hi hb hu ht hl hs hv
  go_enter Tryz.func3, Tryz.ntmps3
  go_upto_region 1 with fail
  obtain ⟨bx, hbx⟩ : ∃ bx, bx = w.heap.size := ⟨_, rfl⟩
  rw [← hbx] at HBX ⊢
  generalize w.alloc (.cells #[.string (st c.kind), .string (st c.id), .string (st c.about), .string (st c.cur), .string (st c.cat), .int .i64 c.amt, .slice a c.sh.length cp] 24) = w0 at HR HBX HB ⊢
  clear hbx
  obtain ⟨d0, d1, d2, d3, d4, d5, d6⟩ := cell_seven HBX.out
  go_wp2_with fail
  refine (HLV _ (HV.out.keep HB.out)).out.mono ?_
  rintro e w1 ⟨rfl, hb⟩
  replace HB := Lib.hid (bel_onG HB.out HB.out.size hb)
  replace HBX := Lib.hid (HBX.out.since hb)
  replace HR := Lib.hid (HR.out.keep hb)
  clear hb
  clear d0 d1 d2 d3 d4 d5 d6
  obtain ⟨d0, d1, d2, d3, d4, d5, d6⟩ := cell_seven HBX.out
  go_wp2_with fail
  refine (HSL.out _ HR.out).mono ?_
  rintro e w2 ⟨ok, rfl, hb⟩
  replace HB := Lib.hid (bel_onG HB.out HB.out.size hb)
  replace HBX := Lib.hid (HBX.out.since hb)
  replace HR := Lib.hid (HR.out.keep hb)
  clear hb
  clear d0 d1 d2 d3 d4 d5 d6
  obtain ⟨d0, d1, d2, d3, d4, d5, d6⟩ := cell_seven HBX.out
  cases ok with
  | false =>
    go_wp2_with fail
    refine (HLV _ (HV.out.keep HB.out)).out.mono ?_
    rintro e w3 ⟨rfl, hb⟩
    replace HB := Lib.hid (bel_onG HB.out HB.out.size hb)
    clear hb
    go_wp2
    go_ret
    exact ⟨rfl, HB.out⟩
  | true =>
    obtain ⟨R, hR⟩ : ∃ R, R = rightC c := ⟨_, rfl⟩
    obtain ⟨X, hX⟩ : ∃ X, X = enT c := ⟨_, rfl⟩
    obtain ⟨Y, hY⟩ : ∃ Y, Y = prT c := ⟨_, rfl⟩
    have HRE := Lib.hid hR
    rw [← hR] at HRG HEN HPR HRR
    rw [← hX] at HEN
    rw [← hY] at HPR
    by_cases h0 : R = 0
    · subst h0
      have HG : Hid (GoodC c) := good_of hR.symm
      have hXb : X = bytesC c := by rw [hX]; unfold enT; rw [if_pos hR.symm]
      have hYt : Y = textC c := by rw [hY]; unfold prT; rw [if_pos hR.symm]
      have HDE : Hid (∀ W, Calls Tryz.prog 12 #[.string (st X)] W fun e w' => ∃ ax cx, e = .returned (.tuple #[.agg #[.string (st c.kind), .string (st c.id), .string (st c.about), .string (st c.cur), .string (st c.cat), .int .i64 c.amt, .slice ax c.sh.length cx], .int .i64 0]) ∧ RowG 2 cSh w' ax c.sh ∧ Below W.heap.size W w') := fun W => by
        refine (decode_two X W (by have := bytesC_len HG.out; rw [hXb]; omega)).mono ?_
        have ec : decC X = c := by rw [hXb]; exact (dec_bytes HG.out).2
        rintro e w' ⟨hb, h⟩
        rw [ec] at h
        rcases h with ⟨ax, cx, he, hrw, _⟩ | ⟨_, _, _, hn⟩
        · exact ⟨ax, cx, he, hrw, hb⟩
        · exact absurd ⟨hR.symm, hXb.symm⟩ hn
      have HPA : Hid (∀ W, Vars W → Calls Tryz.prog 13 #[.string (st Y)] W fun e w' => ∃ ay cy, e = .returned (.tuple #[.agg #[.string (st c.kind), .string (st c.id), .string (st c.about), .string (st c.cur), .string (st c.cat), .int .i64 c.amt, .slice ay c.sh.length cy], .int .i64 0]) ∧ RowG 2 cSh w' ay c.sh ∧ Below W.heap.size W w') := fun W hW => by
        refine (parse_two Y W (by have := textC_len HG.out; rw [hYt]; omega) hW).mono ?_
        have ec : parC Y = c := by rw [hYt]; exact parC_text HG.out
        rintro e w' ⟨hb, h⟩
        rw [ec] at h
        rcases h with ⟨ay, cy, he, hrw, _⟩ | ⟨_, _, _, hn⟩
        · exact ⟨ay, cy, he, hrw, hb⟩
        · exact absurd ⟨hR.symm, hYt.symm⟩ hn
      have HBY0 : Hid (∀ W, RowG 2 cSh W a c.sh → Calls Tryz.prog 14 #[.agg #[.string (st c.kind), .string (st c.id), .string (st c.about), .string (st c.cur), .string (st c.cat), .int .i64 c.amt, .slice a c.sh.length cp]] W fun e w' => e = .returned (.string (st X)) ∧ Below W.heap.size W w') := fun W h => by
        rw [hXb]
        exact rbytes_any c a cp W h (good_small HG.out).2.2.2.2.2.2.2.1 (sm_good HG.out)
      have HTX0 : Hid (∀ W, RowG 2 cSh W a c.sh → Calls Tryz.prog 15 #[.agg #[.string (st c.kind), .string (st c.id), .string (st c.about), .string (st c.cur), .string (st c.cat), .int .i64 c.amt, .slice a c.sh.length cp]] W fun e w' => e = .returned (.string (st Y)) ∧ Below W.heap.size W w') := fun W h => by
        rw [hYt]
        exact rtext_any c HG.out a cp W h
      have HSM : Hid (∀ W ax cx, RowG 2 cSh W ax c.sh → RowG 2 cSh W a c.sh → Calls Tryz.prog 16 #[.agg #[.string (st c.kind), .string (st c.id), .string (st c.about), .string (st c.cur), .string (st c.cat), .int .i64 c.amt, .slice ax c.sh.length cx], .agg #[.string (st c.kind), .string (st c.id), .string (st c.about), .string (st c.cur), .string (st c.cat), .int .i64 c.amt, .slice a c.sh.length cp]] W fun e w' => e = .returned (.bool true) ∧ Below W.heap.size W w') := fun W ax cx h1 h2 => same_core (st c.kind) (st c.id) (st c.about) (st c.cur) (st c.cat) c.amt c.sh ax a cx cp W h1 h2 HLL.out
      clear hR hX hY hXb hYt HRE HG HSL
      go_wp2_with fail
      refine (HRG.out _ HR.out).mono ?_
      rintro e w4 ⟨rfl, hb⟩
      replace HB := Lib.hid (bel_onG HB.out HB.out.size hb)
      replace HBX := Lib.hid (HBX.out.since hb)
      replace HR := Lib.hid (HR.out.keep hb)
      clear hb
      clear d0 d1 d2 d3 d4 d5 d6
      obtain ⟨d0, d1, d2, d3, d4, d5, d6⟩ := cell_seven HBX.out
      go_wp2_with fail
      refine (HEN.out _ HR.out).mono ?_
      rintro e w5 ⟨rfl, hb⟩
      replace HB := Lib.hid (bel_onG HB.out HB.out.size hb)
      replace HBX := Lib.hid (HBX.out.since hb)
      replace HR := Lib.hid (HR.out.keep hb)
      clear hb
      clear d0 d1 d2 d3 d4 d5 d6
      obtain ⟨d0, d1, d2, d3, d4, d5, d6⟩ := cell_seven HBX.out
      go_wp2_with fail
      refine (HPR.out _ (HV.out.keep HB.out) HR.out).mono ?_
      rintro e w6 ⟨rfl, hb⟩
      replace HB := Lib.hid (bel_onG HB.out HB.out.size hb)
      replace HBX := Lib.hid (HBX.out.since hb)
      replace HR := Lib.hid (HR.out.keep hb)
      clear hb
      clear d0 d1 d2 d3 d4 d5 d6
      obtain ⟨d0, d1, d2, d3, d4, d5, d6⟩ := cell_seven HBX.out
      go_wp2_with fail
      refine (HRR.out _ HR.out).mono ?_
      rintro e w7 ⟨rfl, hb⟩
      replace HB := Lib.hid (bel_onG HB.out HB.out.size hb)
      replace HBX := Lib.hid (HBX.out.since hb)
      replace HR := Lib.hid (HR.out.keep hb)
      clear hb
      clear d0 d1 d2 d3 d4 d5 d6
      obtain ⟨d0, d1, d2, d3, d4, d5, d6⟩ := cell_seven HBX.out
      go_wp2_with fail
      refine (HDE.out _).mono ?_
      rintro e w8 ⟨ax, cx, rfl, hrx, hb⟩
      replace HB := Lib.hid (bel_onG HB.out HB.out.size hb)
      replace HBX := Lib.hid (HBX.out.since hb)
      replace HR := Lib.hid (HR.out.keep hb)
      clear hb
      have hb : Below w8.heap.size w8 (w8.alloc (.cells #[.string (st c.kind), .string (st c.id), .string (st c.about), .string (st c.cur), .string (st c.cat), .int .i64 c.amt, .slice ax c.sh.length cx] 24)) := (Below.refl _ w8).alloc (Nat.le_refl _) _
      replace HB := Lib.hid (bel_onG HB.out HB.out.size hb)
      replace HBX := Lib.hid (HBX.out.since hb)
      replace HR := Lib.hid (HR.out.keep hb)
      have HRX := Lib.hid (hrx.keep hb)
      have HBY : Hid (Blk (w8.alloc (.cells #[.string (st c.kind), .string (st c.id), .string (st c.about), .string (st c.cur), .string (st c.cat), .int .i64 c.amt, .slice ax c.sh.length cx] 24)) w8.heap.size 24 #[.string (st c.kind), .string (st c.id), .string (st c.about), .string (st c.cur), .string (st c.cat), .int .i64 c.amt, .slice ax c.sh.length cx]) := Blk.new w8 _ _
      clear hb hrx d0 d1 d2 d3 d4 d5 d6
      go_upto_region 11 with fail
      obtain ⟨byx, hbyx⟩ : ∃ bx, bx = w8.heap.size := ⟨_, rfl⟩
      rw [← hbyx] at HBY ⊢
      generalize w8.alloc (.cells #[.string (st c.kind), .string (st c.id), .string (st c.about), .string (st c.cur), .string (st c.cat), .int .i64 c.amt, .slice ax c.sh.length cx] 24) = w8a at HB HBX HR HRX HBY ⊢
      clear hbyx
      obtain ⟨d0, d1, d2, d3, d4, d5, d6⟩ := cell_seven HBX.out
      obtain ⟨f0, f1, f2, f3, f4, f5, f6⟩ := cell_seven HBY.out
      go_wp2_with fail
      refine (HPA.out _ (HV.out.keep HB.out)).mono ?_
      rintro e w9 ⟨ay, cy, rfl, hry, hb⟩
      replace HB := Lib.hid (bel_onG HB.out HB.out.size hb)
      replace HBX := Lib.hid (HBX.out.since hb)
      replace HBY := Lib.hid (HBY.out.since hb)
      replace HR := Lib.hid (HR.out.keep hb)
      replace HRX := Lib.hid (HRX.out.keep hb)
      clear hb
      have hb : Below w9.heap.size w9 (w9.alloc (.cells #[.string (st c.kind), .string (st c.id), .string (st c.about), .string (st c.cur), .string (st c.cat), .int .i64 c.amt, .slice ay c.sh.length cy] 24)) := (Below.refl _ w9).alloc (Nat.le_refl _) _
      replace HB := Lib.hid (bel_onG HB.out HB.out.size hb)
      replace HBX := Lib.hid (HBX.out.since hb)
      replace HBY := Lib.hid (HBY.out.since hb)
      replace HR := Lib.hid (HR.out.keep hb)
      replace HRX := Lib.hid (HRX.out.keep hb)
      have HRY := Lib.hid (hry.keep hb)
      have HBZ : Hid (Blk (w9.alloc (.cells #[.string (st c.kind), .string (st c.id), .string (st c.about), .string (st c.cur), .string (st c.cat), .int .i64 c.amt, .slice ay c.sh.length cy] 24)) w9.heap.size 24 #[.string (st c.kind), .string (st c.id), .string (st c.about), .string (st c.cur), .string (st c.cat), .int .i64 c.amt, .slice ay c.sh.length cy]) := Blk.new w9 _ _
      clear hb hry d0 d1 d2 d3 d4 d5 d6 f0 f1 f2 f3 f4 f5 f6
      go_upto_region 12 with fail
      obtain ⟨bzx, hbzx⟩ : ∃ bx, bx = w9.heap.size := ⟨_, rfl⟩
      rw [← hbzx] at HBZ ⊢
      generalize w9.alloc (.cells #[.string (st c.kind), .string (st c.id), .string (st c.about), .string (st c.cur), .string (st c.cat), .int .i64 c.amt, .slice ay c.sh.length cy] 24) = w9a at HB HBX HBY HR HRX HRY HBZ ⊢
      clear hbzx
      obtain ⟨d0, d1, d2, d3, d4, d5, d6⟩ := cell_seven HBX.out
      obtain ⟨f0, f1, f2, f3, f4, f5, f6⟩ := cell_seven HBY.out
      obtain ⟨g0, g1, g2, g3, g4, g5, g6⟩ := cell_seven HBZ.out
      go_wp2_with fail
      refine (HBY0.out _ HR.out).mono ?_
      rintro e w10 ⟨rfl, hb⟩
      replace HB := Lib.hid (bel_onG HB.out HB.out.size hb)
      replace HBX := Lib.hid (HBX.out.since hb)
      replace HBY := Lib.hid (HBY.out.since hb)
      replace HBZ := Lib.hid (HBZ.out.since hb)
      replace HR := Lib.hid (HR.out.keep hb)
      replace HRX := Lib.hid (HRX.out.keep hb)
      replace HRY := Lib.hid (HRY.out.keep hb)
      clear hb
      clear d0 d1 d2 d3 d4 d5 d6
      obtain ⟨d0, d1, d2, d3, d4, d5, d6⟩ := cell_seven HBX.out
      clear f0 f1 f2 f3 f4 f5 f6
      obtain ⟨f0, f1, f2, f3, f4, f5, f6⟩ := cell_seven HBY.out
      clear g0 g1 g2 g3 g4 g5 g6
      obtain ⟨g0, g1, g2, g3, g4, g5, g6⟩ := cell_seven HBZ.out
      go_wp2_with fail
      refine (HTX0.out _ HR.out).mono ?_
      rintro e w11 ⟨rfl, hb⟩
      replace HB := Lib.hid (bel_onG HB.out HB.out.size hb)
      replace HBX := Lib.hid (HBX.out.since hb)
      replace HBY := Lib.hid (HBY.out.since hb)
      replace HBZ := Lib.hid (HBZ.out.since hb)
      replace HR := Lib.hid (HR.out.keep hb)
      replace HRX := Lib.hid (HRX.out.keep hb)
      replace HRY := Lib.hid (HRY.out.keep hb)
      clear hb
      clear d0 d1 d2 d3 d4 d5 d6
      obtain ⟨d0, d1, d2, d3, d4, d5, d6⟩ := cell_seven HBX.out
      clear f0 f1 f2 f3 f4 f5 f6
      obtain ⟨f0, f1, f2, f3, f4, f5, f6⟩ := cell_seven HBY.out
      clear g0 g1 g2 g3 g4 g5 g6
      obtain ⟨g0, g1, g2, g3, g4, g5, g6⟩ := cell_seven HBZ.out
      go_wp2_with fail
      refine (HSM.out _ ax cx HRX.out HR.out).mono ?_
      rintro e w12 ⟨rfl, hb⟩
      replace HB := Lib.hid (bel_onG HB.out HB.out.size hb)
      replace HBX := Lib.hid (HBX.out.since hb)
      replace HBY := Lib.hid (HBY.out.since hb)
      replace HBZ := Lib.hid (HBZ.out.since hb)
      replace HR := Lib.hid (HR.out.keep hb)
      replace HRX := Lib.hid (HRX.out.keep hb)
      replace HRY := Lib.hid (HRY.out.keep hb)
      clear hb
      clear d0 d1 d2 d3 d4 d5 d6
      obtain ⟨d0, d1, d2, d3, d4, d5, d6⟩ := cell_seven HBX.out
      clear f0 f1 f2 f3 f4 f5 f6
      obtain ⟨f0, f1, f2, f3, f4, f5, f6⟩ := cell_seven HBY.out
      clear g0 g1 g2 g3 g4 g5 g6
      obtain ⟨g0, g1, g2, g3, g4, g5, g6⟩ := cell_seven HBZ.out
      go_wp2_with fail
      refine (HSM.out _ ay cy HRY.out HR.out).mono ?_
      rintro e w13 ⟨rfl, hb⟩
      replace HB := Lib.hid (bel_onG HB.out HB.out.size hb)
      clear hb
      go_wp2
      go_ret
      exact ⟨rfl, HB.out⟩
    · have hXb : X = [] := by rw [hX]; unfold enT; rw [if_neg (by rw [← hR]; exact h0)]
      have hYt : Y = [] := by rw [hY]; unfold prT; rw [if_neg (by rw [← hR]; exact h0)]
      have HE2 : Hid (∀ W, RowG 2 cSh W a c.sh → Calls Tryz.prog 9 #[.agg #[.string (st c.kind), .string (st c.id), .string (st c.about), .string (st c.cur), .string (st c.cat), .int .i64 c.amt, .slice a c.sh.length cp]] W fun e w' => e = .returned (.tuple #[.string ⟨#[]⟩, .int .i64 R]) ∧ Below W.heap.size W w') := by rw [hXb] at HEN; exact HEN
      have HP2 : Hid (∀ W, Vars W → RowG 2 cSh W a c.sh → Calls Tryz.prog 10 #[.agg #[.string (st c.kind), .string (st c.id), .string (st c.about), .string (st c.cur), .string (st c.cat), .int .i64 c.amt, .slice a c.sh.length cp]] W fun e w' => e = .returned (.tuple #[.string ⟨#[]⟩, .int .i64 R]) ∧ Below W.heap.size W w') := by rw [hYt] at HPR; exact HPR
      have hRb : (R != 0) = true := by rw [bne_iff_ne]; exact h0
      clear hR hX hY hXb hYt HRE HSL HEN HPR h0
      go_wp2_with fail
      refine (HRG.out _ HR.out).mono ?_
      rintro e w14 ⟨rfl, hb⟩
      replace HB := Lib.hid (bel_onG HB.out HB.out.size hb)
      replace HBX := Lib.hid (HBX.out.since hb)
      replace HR := Lib.hid (HR.out.keep hb)
      clear hb
      clear d0 d1 d2 d3 d4 d5 d6
      obtain ⟨d0, d1, d2, d3, d4, d5, d6⟩ := cell_seven HBX.out
      go_wp2_with fail
      refine (HE2.out _ HR.out).mono ?_
      rintro e w15 ⟨rfl, hb⟩
      replace HB := Lib.hid (bel_onG HB.out HB.out.size hb)
      replace HBX := Lib.hid (HBX.out.since hb)
      replace HR := Lib.hid (HR.out.keep hb)
      clear hb
      clear d0 d1 d2 d3 d4 d5 d6
      obtain ⟨d0, d1, d2, d3, d4, d5, d6⟩ := cell_seven HBX.out
      go_wp2_with fail
      refine (HP2.out _ (HV.out.keep HB.out) HR.out).mono ?_
      rintro e w16 ⟨rfl, hb⟩
      replace HB := Lib.hid (bel_onG HB.out HB.out.size hb)
      replace HBX := Lib.hid (HBX.out.since hb)
      replace HR := Lib.hid (HR.out.keep hb)
      clear hb
      clear d0 d1 d2 d3 d4 d5 d6
      obtain ⟨d0, d1, d2, d3, d4, d5, d6⟩ := cell_seven HBX.out
      go_wp2_with fail
      refine (HRR.out _ HR.out).mono ?_
      rintro e w17 ⟨rfl, hb⟩
      replace HB := Lib.hid (bel_onG HB.out HB.out.size hb)
      clear hb
      go_wp2
      go_ret
      exact ⟨rfl, HB.out⟩
end Go.Proofs.YtkflakeocdlinaaGreatDoor
