/-
  The document's Command.
-/
import Derived.Test.YtkflakeocdlinaaGreatDoorMD12
import Derived.Test.YtkflakeocdlinaaGreatDoorCmNMD
import Derived.Test.YtkflakeocdlinaaGreatDoorLawAMD
import Derived.Test.YtkflakeocdlinaaGreatDoorMD03
import Derived.BigRegion
import Derived.Deep.WholeRow
namespace Go.Proofs.YtkflakeocdlinaaGreatDoor
open Go.RowKit Go.Deep Go.Lib

theorem infoBool18 : (Tryz.prog.info? 4).map (fun i => (i.zero, i.size, i.bytes)) = some (some (.bool false), 1, 1) := by kernel_rfl
theorem RowB.of_own {w : World} {B n c : Nat} {A : Option Addr} {ts : List Bool} (h : w.ownsRow B 4 1 (.slice A n c) n (ts.map Value.bool)) : RowB w A ts := fun h0 => by
  obtain ⟨b, off, e, hc⟩ := Cells.of_own h (by simpa using h0)
  exact ⟨b, off, e, fun i x hx => hc i _ (by rw [List.getElem?_map, hx]; rfl)⟩
/-- Take, of the kinds in a row of one's own -/
theorem take18 (A : Option Addr) (c n : Nat) (B : Nat) (l : List UInt8) (w : World) (h : w.ownsRow B 4 1 (.slice A (7 + 2 * n) c) (7 + 2 * n) ((tsC n).map Value.bool)) (hn : n ≤ 8) (hl : l.length ≤ 2000) :
    Calls Tryz.prog 44 #[.string (st l), .slice A (7 + 2 * n) c] w fun e w' => ∃ (b off cp : Nat) (x : Int), e = .returned (.tuple #[.slice (some ⟨b, off, none⟩) (7 + 2 * n) cp, .int .i64 x]) ∧ RowG 3 cI w' (some ⟨b, off, none⟩) (itS l (tsC n)) ∧ Below w.heap.size w w' := by
  have h1 := rTake_any A c (tsC n) l w (RowB.of_own h) (by rw [tsC_len]; omega) (by omega)
  rw [tsC_len] at h1
  refine h1.mono ?_
  rintro e w' ⟨v, he, ho, hb⟩
  obtain ⟨a, cp, hv, hrow, _, _⟩ := RowG.own cI_len ho (by rw [itS_length, tsC_len])
  obtain ⟨b, off, rfl⟩ := hrow.form (by rw [itS_length, tsC_len]; omega)
  rw [hv, itS_length, tsC_len] at he
  exact ⟨b, off, cp, _, he, hrow, hb⟩

theorem range7 {w : World} {b : Nat} {t : TypeId} {v0 v1 v2 v3 v4 v5 v6 : Value} (h : Blk w b t #[v0, v1, v2, v3, v4, v5, v6]) : w.rangeAt b 0 [v0, v1, v2, v3, v4, v5, v6] := fun j v hv => by
  rw [Nat.zero_add, h.cell j, List.getElem?_toArray]
  exact hv

/-- what the document's Command answers -/
def RcPost18 (l : List UInt8) (w : World) (e : Ending) (w' : World) : Prop :=
  ∃ (c : Cm) (a : Option Addr) (cp : Nat) (ok : Bool), e = .returned (.tuple #[.agg #[.string (st c.kind), .string (st c.id), .string (st c.about), .string (st c.cur), .string (st c.cat), .int .i64 c.amt, .slice a c.sh.length cp], .bool ok]) ∧ RowG 2 cSh w' a c.sh ∧ c.sh.length ≤ cp ∧ Below w.heap.size w w' ∧
    ((ok = true ∧ c = decC l ∧ rightC c = 0 ∧ bytesC c = l) ∨ (ok = false ∧ ¬ (rightC (decC l) = 0 ∧ bytesC (decC l) = l)))

/-- what the second loop holds: a command in a box, its shares in a row of their own -/
structure LcP (wS : World) (bx : Nat) (k i b u t : List UInt8) (m : Int) (W : World) (xs : List Sh) (v : Value) : Prop where
  box : Blk W bx 24 #[.string (st k), .string (st i), .string (st b), .string (st u), .string (st t), .int .i64 m, v]
  own : W.ownsRow (bx + 1) 39 2 v xs.length (xs.flatMap cSh)
  bel : Below bx wS W
section
variable {wS W W' : World} {bx : Nat} {k i b u t : List UInt8} {m : Int} {xs : List Sh} {v v' : Value}
theorem LcP.keep (h : LcP wS bx k i b u t m W xs v) (hb : Below W.heap.size W W') : LcP wS bx k i b u t m W' xs v :=
  ⟨h.box.since hb, own_keepG h.own hb, h.bel.trans (bel_lessG hb (Nat.le_of_lt h.box.lt))⟩
theorem LcP.up (h : LcP wS bx k i b u t m W xs v) : ∀ g, v.ownBlock = some g → bx < g := fun g hg => (h.own.lt g hg).1
theorem LcP.put {W3 : World} {x : Sh} (h : LcP wS bx k i b u t m W xs v) (hg : W.grownBy W3 v.ownBlock) (ho : W3.ownsRow (bx + 1) 39 2 v' (xs.length + 1) (xs.flatMap cSh ++ cSh x)) : LcP wS bx k i b u t m (W3.setCell ⟨bx, 6, none⟩ v') (xs ++ [x]) v' := by
  have hs := (Stp.refl [bx] W3).setCell (x := ⟨bx, 6, none⟩) (.inl (by simp)) v'
  have hbk := h.box.kept hg fun e => by have := h.up bx e.symm; omega
  refine ⟨hbk.set 6 v', ?_, (h.bel.grown hg (Nat.le_of_lt h.box.lt) fun g e => Nat.le_of_lt (h.up g e)).setCell (p := ⟨bx, 6, none⟩) (Nat.le_refl _) v'⟩
  refine own_stp (by rw [List.length_append, List.flatMap_append]; simpa using ho) hs fun g hk hm => ?_
  rw [List.mem_singleton] at hm
  have h1 := (ho.lt g hk).1
  omega
end

set_option maxHeartbeats 6400000 in
set_option maxRecDepth 100000 in
theorem rcommand_any (l : List UInt8) (w : World) (hl : l.length ≤ 2000) :
    Calls Tryz.prog 17 #[.string (st l)] w (RcPost18 l w) := by
  have hb0 : Below w.heap.size w (w.alloc (.cells #[.string ⟨#[]⟩, .string ⟨#[]⟩, .string ⟨#[]⟩, .string ⟨#[]⟩, .string ⟨#[]⟩, .int .i64 0, .slice none 0 0] 24)) := (Below.refl _ w).alloc (Nat.le_refl _) _
  have HRS : Hid (Blk (w.alloc (.cells #[.string ⟨#[]⟩, .string ⟨#[]⟩, .string ⟨#[]⟩, .string ⟨#[]⟩, .string ⟨#[]⟩, .int .i64 0, .slice none 0 0] 24)) w.heap.size 24 #[.string ⟨#[]⟩, .string ⟨#[]⟩, .string ⟨#[]⟩, .string ⟨#[]⟩, .string ⟨#[]⟩, .int .i64 0, .slice none 0 0]) := Blk.new w _ _
  have HB0 := Lib.hid hb0
  obtain ⟨ns, hns⟩ : ∃ ns, ns = nSh l := ⟨_, rfl⟩
  have HNS := Lib.hid hns
  have HLL : Hid (l.length ≤ 2000) := hl
  have HOUT : Hid (ns < 0 ∨ 8 < ns → ¬ (rightC (decC l) = 0 ∧ bytesC (decC l) = l)) := fun h => dec_out (by rw [← hns]; exact h)
  clear hb0 hns hl
  go_enter Tryz.func17, Tryz.ntmps17
  go_upto_region 1 with fail
  obtain ⟨rs, hrs⟩ : ∃ rs, rs = w.heap.size := ⟨_, rfl⟩
  have HE := Lib.hid hrs
  rw [← hrs] at HRS HB0 ⊢
  generalize w.alloc (.cells #[.string ⟨#[]⟩, .string ⟨#[]⟩, .string ⟨#[]⟩, .string ⟨#[]⟩, .string ⟨#[]⟩, .int .i64 0, .slice none 0 0] 24) = w0 at HRS HB0 ⊢
  clear hrs
  have hrs0 : rs < w0.heap.size := HRS.out.lt
  go_upto_region 2 with fail
  have HOW : Hid ((w0.alloc (.cells #[.bool true, .bool true, .bool true, .bool true, .bool true, .bool false, .bool false] 4)).ownsRow w0.heap.size 4 1 (.slice (some ⟨w0.heap.size, 0, none⟩) 7 7) 7 ((tsC 0).map Value.bool)) := World.ownsRow_lit w0 #[.bool true, .bool true, .bool true, .bool true, .bool true, .bool false, .bool false] 7 (Nat.le_refl _) (by unfold maxLen; omega) rfl
  have HB1 : Hid (Below w0.heap.size w0 (w0.alloc (.cells #[.bool true, .bool true, .bool true, .bool true, .bool true, .bool false, .bool false] 4))) := (Below.refl _ w0).alloc (Nat.le_refl _) _
  have HT1 := Lib.hid (take18 (some ⟨w0.heap.size, 0, none⟩) 7 0 w0.heap.size l (w0.alloc (.cells #[.bool true, .bool true, .bool true, .bool true, .bool true, .bool false, .bool false] 4)) HOW.out (by omega) HLL.out)
  obtain ⟨kv, hkv⟩ : ∃ kv : Value, kv = .slice (some ⟨w0.heap.size, 0, none⟩) 7 7 := ⟨_, rfl⟩
  have HT2 : Hid (Calls Tryz.prog 44 #[.string (st l), kv] (w0.alloc (.cells #[.bool true, .bool true, .bool true, .bool true, .bool true, .bool false, .bool false] 4)) fun e w' => ∃ (b off cp : Nat) (x : Int), e = .returned (.tuple #[.slice (some ⟨b, off, none⟩) 7 cp, .int .i64 x]) ∧ RowG 3 cI w' (some ⟨b, off, none⟩) (itS l (tsC 0)) ∧ Below (w0.alloc (.cells #[.bool true, .bool true, .bool true, .bool true, .bool true, .bool false, .bool false] 4)).heap.size (w0.alloc (.cells #[.bool true, .bool true, .bool true, .bool true, .bool true, .bool false, .bool false] 4)) w') := by rw [hkv]; exact HT1.out
  rw [← hkv] at HOW ⊢
  clear HT1 hkv
  generalize w0.alloc (.cells #[.bool true, .bool true, .bool true, .bool true, .bool true, .bool false, .bool false] 4) = w1 at HOW HB1 HT2 ⊢
  go_wp2_with fail
  refine HT2.out.mono ?_
  rintro e w2 ⟨bq, oq, cq, xq, rfl, hrow, hb⟩
  have HB2 := Lib.hid (bel_onG HB1.out HB1.out.size hb)
  have HOW2 := Lib.hid (own_keepG HOW.out hb)
  have hat := hrow.at (item_head (n := 0) l).2.2.2.2.2.2 1 _ rfl
  rw [← HNS.out] at hat
  clear hb HT2 HOW HB1 hrow
  go_upto_region 4 with fail
  by_cases hneg : ns < 0
  · have HRS2 : Hid (Blk w2 rs 24 #[.string ⟨#[]⟩, .string ⟨#[]⟩, .string ⟨#[]⟩, .string ⟨#[]⟩, .string ⟨#[]⟩, .int .i64 0, .slice none 0 0]) := HRS.out.below HB2.out hrs0
    have HRW : Hid (w.heap.size ≤ rs) := Nat.le_of_eq HE.out.symm
    have HBw : Hid (Below w.heap.size w w2) := (show Below w.heap.size w w0 by rw [← HE.out]; exact HB0.out).trans (bel_lessG HB2.out (by have := HE.out; omega))
    obtain ⟨r0, r1, r2, r3, r4, r5, r6⟩ := cell_seven HRS2.out
    have f0 := HRS2.out.frozen 0
    have f1 := HRS2.out.frozen 1
    have f2 := HRS2.out.frozen 2
    have f3 := HRS2.out.frozen 3
    have f4 := HRS2.out.frozen 4
    have f5 := HRS2.out.frozen 5
    have f6 := HRS2.out.frozen 6
    have HFIN : Hid (Blk (((((((w2.setCell ⟨rs, 0, none⟩ (.string ⟨#[]⟩)).setCell ⟨rs, 1, none⟩ (.string ⟨#[]⟩)).setCell ⟨rs, 2, none⟩ (.string ⟨#[]⟩)).setCell ⟨rs, 3, none⟩ (.string ⟨#[]⟩)).setCell ⟨rs, 4, none⟩ (.string ⟨#[]⟩)).setCell ⟨rs, 5, none⟩ (.int .i64 0)).setCell ⟨rs, 6, none⟩ (.slice none 0 0)) rs 24 #[.string ⟨#[]⟩, .string ⟨#[]⟩, .string ⟨#[]⟩, .string ⟨#[]⟩, .string ⟨#[]⟩, .int .i64 0, .slice none 0 0]) := HRS2.out.put7 _ _ _ _ _ _ _
    have hs := put7_stp w2 rs (.string ⟨#[]⟩) (.string ⟨#[]⟩) (.string ⟨#[]⟩) (.string ⟨#[]⟩) (.string ⟨#[]⟩) (.int .i64 0) (.slice none 0 0)
    have HBF := Lib.hid (HBw.out.trans (hs.below (fun kk hk => by rw [List.mem_singleton] at hk; rw [hk]; exact HRW.out) HBw.out.size))
    clear hs HOW2
    go_wp2
    exact bodyPost_ret (cmd_ret2 rfl rs rfl HFIN.out rfl) rfl (by unfold RcPost18; exact ⟨cZero, none, 0, false, rfl, RowG.nil _ _, Nat.le_refl _, HBF.out, .inr ⟨rfl, HOUT.out (by omega)⟩⟩)
  by_cases hbig : 8 < ns
  · have HRS2 : Hid (Blk w2 rs 24 #[.string ⟨#[]⟩, .string ⟨#[]⟩, .string ⟨#[]⟩, .string ⟨#[]⟩, .string ⟨#[]⟩, .int .i64 0, .slice none 0 0]) := HRS.out.below HB2.out hrs0
    have HRW : Hid (w.heap.size ≤ rs) := Nat.le_of_eq HE.out.symm
    have HBw : Hid (Below w.heap.size w w2) := (show Below w.heap.size w w0 by rw [← HE.out]; exact HB0.out).trans (bel_lessG HB2.out (by have := HE.out; omega))
    obtain ⟨r0, r1, r2, r3, r4, r5, r6⟩ := cell_seven HRS2.out
    have f0 := HRS2.out.frozen 0
    have f1 := HRS2.out.frozen 1
    have f2 := HRS2.out.frozen 2
    have f3 := HRS2.out.frozen 3
    have f4 := HRS2.out.frozen 4
    have f5 := HRS2.out.frozen 5
    have f6 := HRS2.out.frozen 6
    have HFIN : Hid (Blk (((((((w2.setCell ⟨rs, 0, none⟩ (.string ⟨#[]⟩)).setCell ⟨rs, 1, none⟩ (.string ⟨#[]⟩)).setCell ⟨rs, 2, none⟩ (.string ⟨#[]⟩)).setCell ⟨rs, 3, none⟩ (.string ⟨#[]⟩)).setCell ⟨rs, 4, none⟩ (.string ⟨#[]⟩)).setCell ⟨rs, 5, none⟩ (.int .i64 0)).setCell ⟨rs, 6, none⟩ (.slice none 0 0)) rs 24 #[.string ⟨#[]⟩, .string ⟨#[]⟩, .string ⟨#[]⟩, .string ⟨#[]⟩, .string ⟨#[]⟩, .int .i64 0, .slice none 0 0]) := HRS2.out.put7 _ _ _ _ _ _ _
    have hs := put7_stp w2 rs (.string ⟨#[]⟩) (.string ⟨#[]⟩) (.string ⟨#[]⟩) (.string ⟨#[]⟩) (.string ⟨#[]⟩) (.int .i64 0) (.slice none 0 0)
    have HBF := Lib.hid (HBw.out.trans (hs.below (fun kk hk => by rw [List.mem_singleton] at hk; rw [hk]; exact HRW.out) HBw.out.size))
    clear hs HOW2
    go_wp2
    exact bodyPost_ret (cmd_ret2 rfl rs rfl HFIN.out rfl) rfl (by unfold RcPost18; exact ⟨cZero, none, 0, false, rfl, RowG.nil _ _, Nat.le_refl _, HBF.out, .inr ⟨rfl, HOUT.out (by omega)⟩⟩)
  obtain ⟨n, hn⟩ : ∃ n : Nat, ns = (n : Int) := ⟨ns.toNat, by omega⟩
  subst hn
  have hn8 : n ≤ 8 := by omega
  clear HOUT hat
  have HDE : Hid (decC l = decN l n) := dec_in HNS.out.symm hn8
  obtain ⟨b2, hb2⟩ : ∃ b2 : Nat, b2 = w0.heap.size := ⟨_, rfl⟩
  rw [← hb2] at HOW2 HB2
  have hrs2 : rs < b2 := by omega
  go_wp2
  go_loopg [4, 8] n (fun gk kw ix wr => ∃ (j : Nat), j ≤ n ∧ ix = .int .i64 j ∧ n - j ≤ gk ∧ Hid (wr.ownsRow b2 4 1 kw (7 + 2 * j) ((tsC j).map Value.bool)) ∧ Hid (Below b2 w0 wr))
  case atStart => exact ⟨0, Nat.zero_le _, rfl, by omega, HOW2.out, HB2.out⟩
  case round =>
    clear HOW2 HB2
    obtain ⟨j, hj, rfl, hgk, HOW, HB⟩ := hrel
    by_cases hlt : j < n
    · have hkn : (j : Int) < (n : Int) := by omega
      have hkz : (0 : Int) ≤ (j : Int) := by omega
      have HNB : Hid (Blk (wr.alloc (.cells #[.bool true, .bool false] 4)) wr.heap.size 4 #[.bool true, .bool false]) := Blk.new wr _ _
      have HSB : Hid (b2 ≤ wr.heap.size) := by have := HB.out.size; show _ ≤ _; omega
      have HTS : Hid ((tsC j).map Value.bool ++ [.bool true, .bool false] = (tsC (j + 1)).map Value.bool) := by show _ = _; unfold tsC; rw [pairB]; simp
      go_wp2_with (first | (at_builtin; refine wpList_append_rowG rfl (.tmp 34) (.tmp 35) 81 rfl b2 4 (.bool false) 1 Tryz.underlying81 infoBool18 rfl _ u4 (7 + 2 * j) ((tsC j).map Value.bool) wr.heap.size 2 2 [.bool true, .bool false] rfl rfl rfl (HOW.out.alloc _) (fun jj uu hu => by rw [HNB.out.cell jj, ← Array.getElem?_toList]; exact hu) (fun uu hu => by simp only [List.mem_cons, List.not_mem_nil, or_false] at hu; rcases hu with rfl | rfl <;> rfl) (by have := HSB.out; simp; omega) (by unfold maxLen; omega) (by omega) ?_; intro v9 w9 hown hgr; have HOW9 : Hid (w9.ownsRow b2 4 1 v9 (7 + 2 * (j + 1)) ((tsC (j + 1)).map Value.bool)) := (by rw [← HTS.out]; exact hown); have HB9 : Hid (Below b2 w0 w9) := (HB.out.alloc HSB.out _).grown hgr (by have := HSB.out; simp; omega) (fun kk hk => (HOW.out.lt kk hk).1); clear hown hgr) | fail)
      go_roundg (n - (j + 1))
      case measure => omega
      case rel => exact ⟨j + 1, by omega, by go_num, by omega, HOW9.out, HB9.out⟩
    · have hkn : ¬ ((j : Int) < (n : Int)) := by omega
      have e : j = n := by omega
      subst e
      obtain ⟨ka, kc, hkv⟩ := own_sliceG HOW.out
      subst hkv
      have HT2 : Hid (Calls Tryz.prog 44 #[.string (st l), .slice ka (7 + 2 * j) kc] wr fun e w' => ∃ (b off cp : Nat) (x : Int), e = .returned (.tuple #[.slice (some ⟨b, off, none⟩) (7 + 2 * j) cp, .int .i64 x]) ∧ RowG 3 cI w' (some ⟨b, off, none⟩) (itS l (tsC j)) ∧ Below wr.heap.size wr w') := take18 ka kc j b2 l wr HOW.out hn8 HLL.out
      clear HOW hlt hgk
      go_wp2_with fail
      refine HT2.out.mono ?_
      rintro e w5 ⟨g, og, cg, x5, rfl, hrow, hb⟩
      have HROW := Lib.hid hrow
      have HB5 : Hid (Below b2 w0 w5) := HB.out.trans (bel_lessG hb (by have h1 := HB.out.size; omega))
      clear hb hrow HT2 HB
      have HHD := Lib.hid (item_head (n := j) l)
      obtain ⟨k, hk⟩ : ∃ k, k = tt l := ⟨_, rfl⟩
      obtain ⟨i, hi⟩ : ∃ i, i = tt (tl l) := ⟨_, rfl⟩
      obtain ⟨b, hb⟩ : ∃ b, b = tt (tl (tl l)) := ⟨_, rfl⟩
      obtain ⟨u, hu⟩ : ∃ u, u = tt (tl (tl (tl l))) := ⟨_, rfl⟩
      obtain ⟨t, ht⟩ : ∃ t, t = tt (tl (tl (tl (tl l)))) := ⟨_, rfl⟩
      obtain ⟨m, hm⟩ : ∃ m, m = iv8 (tl5 l) := ⟨_, rfl⟩
      obtain ⟨R0, hR0⟩ : ∃ R0, R0 = bSh l := ⟨_, rfl⟩
      have HDC : Hid (decC l = ⟨k, i, b, u, t, m, rdX j R0⟩) := by
        show _ = _
        rw [HDE.out, hk, hi, hb, hu, ht, hm, hR0]
        rfl
      have HSM : Hid (∀ x ∈ itH ⟨k, i, b, u, t, m, rdX j R0⟩ ++ itSh (rdX j R0), smI x) := by
        have h := decN_small l j HLL.out hn8
        rw [← HDE.out, HDC.out] at h
        exact h
      have HSD : Hid (∀ W, Below w5.heap.size w5 W → W.cell? ⟨g, og + 2, none⟩ = some (.string (st k)) ∧ W.cell? ⟨g, og + 3 + 2, none⟩ = some (.string (st i)) ∧ W.cell? ⟨g, og + 6 + 2, none⟩ = some (.string (st b)) ∧ W.cell? ⟨g, og + 9 + 2, none⟩ = some (.string (st u)) ∧ W.cell? ⟨g, og + 12 + 2, none⟩ = some (.string (st t)) ∧ W.cell? ⟨g, og + 15 + 1, none⟩ = some (.int .i64 m)) := fun W hW => by
        have hq := HHD.out
        rw [← hk, ← hi, ← hb, ← hu, ← ht, ← hm] at hq
        obtain ⟨q0, q1, q2, q3, q4, q5, _⟩ := hq
        have hr := HROW.out.keep hW
        clear hk hi hb hu ht hm
        exact ⟨hr.at q0 2 _ rfl, hr.at q1 2 _ rfl, hr.at q2 2 _ rfl, hr.at q3 2 _ rfl, hr.at q4 2 _ rfl, hr.at q5 1 _ rfl⟩
      have HSX : Hid (∀ (jj : Nat), jj < j → ∀ W, Below w5.heap.size w5 W → W.cell? ⟨g, og + (7 + 2 * jj) * 3 + 2, none⟩ = some (.string (st (tt (rdR jj R0)))) ∧ W.cell? ⟨g, og + (7 + 2 * jj + 1) * 3 + 1, none⟩ = some (.int .i64 (iv8 (tl (rdR jj R0))))) := fun jj hjj W hW => by
        have hr := HROW.out.keep hW
        have e1 := item_text (n := j) (j := jj) (r := j - jj - 1) l (by omega)
        have e2 := item_num (n := j) (j := jj) (r := j - jj - 1) l (by omega)
        rw [← hR0] at e1 e2
        obtain ⟨p, hp⟩ : ∃ p, p = tt (rdR jj R0) := ⟨_, rfl⟩
        obtain ⟨q, hq⟩ : ∃ q, q = iv8 (tl (rdR jj R0)) := ⟨_, rfl⟩
        rw [← hp] at e1 ⊢
        rw [← hq] at e2 ⊢
        clear hp hq
        exact ⟨hr.at e1 2 _ rfl, hr.at e2 1 _ rfl⟩
      have hrs5 : rs < w5.heap.size := Nat.lt_of_lt_of_le hrs0 HB5.out.size
      have hrs2' : rs < b2 := hrs2
      clear hk hi hb hu ht hm hR0 HHD HDE HROW hkn
      obtain ⟨nl, hnl⟩ : ∃ nl, nl = 7 + 2 * j := ⟨_, rfl⟩
      rw [← hnl]
      have i0 : (0 : Int) < (nl : Int) := by omega
      have i1 : (1 : Int) < (nl : Int) := by omega
      have i2 : (2 : Int) < (nl : Int) := by omega
      have i3 : (3 : Int) < (nl : Int) := by omega
      have i4 : (4 : Int) < (nl : Int) := by omega
      have i5 : (5 : Int) < (nl : Int) := by omega
      have HNL := Lib.hid hnl
      clear hnl
      go_wp2_with fail
      refine wp_region_E (fun W => W.cell? ⟨g, og + 2, none⟩ = some (.string (st k)) ∧ W.cell? ⟨g, og + 3 + 2, none⟩ = some (.string (st i)) ∧ W.cell? ⟨g, og + 6 + 2, none⟩ = some (.string (st b)) ∧ W.cell? ⟨g, og + 9 + 2, none⟩ = some (.string (st u)) ∧ W.cell? ⟨g, og + 12 + 2, none⟩ = some (.string (st t)) ∧ W.cell? ⟨g, og + 15 + 1, none⟩ = some (.int .i64 m)) [] (by kernel_rfl) ?_
      have HBd : Hid (Below w5.heap.size w5 w5.drew) := (Below.refl _ w5).drew
      generalize w5.drew = W at HBd ⊢
      have HS0 := Lib.hid (HSD.out W HBd.out)
      refine wpAnyE_take 0 (some 43) (.slice (some ⟨g, og, none⟩) nl cg) rfl rfl (by kernel_rfl) (by kernel_rfl) (by kernel_rfl) (by kernel_rfl) (fun _ _ _ h => h) (yields_move rfl _ rfl _ rfl) HS0.out ?_
      simp only [Act.put, List.setIfInBounds_toArray, List.set_cons_zero, List.set_cons_succ]
      refine wpAnyE_take 1 (some 44) (.pointer (some ⟨g, og, none⟩)) rfl rfl (by kernel_rfl) (by kernel_rfl) (by kernel_rfl) (by kernel_rfl) (fun _ _ _ h => h) (Or.inl ⟨by rfl, fun w _ => by go_simp; try (intro h0; exact absurd h0 (by omega))⟩) HS0.out ?_
      simp only [Act.put, List.setIfInBounds_toArray, List.set_cons_zero, List.set_cons_succ]
      refine wpAnyE_take 2 (some 45) (.pointer (some ⟨g, og + 2, none⟩)) rfl rfl (by kernel_rfl) (by kernel_rfl) (by kernel_rfl) (by kernel_rfl) (fun _ _ _ h => h) (Or.inl ⟨by rfl, fun w _ => by go_simp⟩) HS0.out ?_
      simp only [Act.put, List.setIfInBounds_toArray, List.set_cons_zero, List.set_cons_succ]
      refine wpAnyE_take 3 (some 46) (.string (st k)) rfl rfl (by kernel_rfl) (by kernel_rfl) (by kernel_rfl) (by kernel_rfl) (fun _ _ _ h => h) (yields_load rfl 9 _ rfl Tryz.underlying9 rfl _ rfl _ (fun w h => h.1)) HS0.out ?_
      simp only [Act.put, List.setIfInBounds_toArray, List.set_cons_zero, List.set_cons_succ]
      refine wpAnyE_take 4 (some 47) (.slice (some ⟨g, og, none⟩) nl cg) rfl rfl (by kernel_rfl) (by kernel_rfl) (by kernel_rfl) (by kernel_rfl) (fun _ _ _ h => h) (yields_move rfl _ rfl _ rfl) HS0.out ?_
      simp only [Act.put, List.setIfInBounds_toArray, List.set_cons_zero, List.set_cons_succ]
      refine wpAnyE_take 5 (some 48) (.pointer (some ⟨g, og + 3, none⟩)) rfl rfl (by kernel_rfl) (by kernel_rfl) (by kernel_rfl) (by kernel_rfl) (fun _ _ _ h => h) (Or.inl ⟨by rfl, fun w _ => by go_simp; try (intro h0; exact absurd h0 (by omega))⟩) HS0.out ?_
      simp only [Act.put, List.setIfInBounds_toArray, List.set_cons_zero, List.set_cons_succ]
      refine wpAnyE_take 6 (some 49) (.pointer (some ⟨g, og + 3 + 2, none⟩)) rfl rfl (by kernel_rfl) (by kernel_rfl) (by kernel_rfl) (by kernel_rfl) (fun _ _ _ h => h) (Or.inl ⟨by rfl, fun w _ => by go_simp⟩) HS0.out ?_
      simp only [Act.put, List.setIfInBounds_toArray, List.set_cons_zero, List.set_cons_succ]
      refine wpAnyE_take 7 (some 50) (.string (st i)) rfl rfl (by kernel_rfl) (by kernel_rfl) (by kernel_rfl) (by kernel_rfl) (fun _ _ _ h => h) (yields_load rfl 9 _ rfl Tryz.underlying9 rfl _ rfl _ (fun w h => h.2.1)) HS0.out ?_
      simp only [Act.put, List.setIfInBounds_toArray, List.set_cons_zero, List.set_cons_succ]
      refine wpAnyE_take 8 (some 51) (.slice (some ⟨g, og, none⟩) nl cg) rfl rfl (by kernel_rfl) (by kernel_rfl) (by kernel_rfl) (by kernel_rfl) (fun _ _ _ h => h) (yields_move rfl _ rfl _ rfl) HS0.out ?_
      simp only [Act.put, List.setIfInBounds_toArray, List.set_cons_zero, List.set_cons_succ]
      refine wpAnyE_take 9 (some 52) (.pointer (some ⟨g, og + 6, none⟩)) rfl rfl (by kernel_rfl) (by kernel_rfl) (by kernel_rfl) (by kernel_rfl) (fun _ _ _ h => h) (Or.inl ⟨by rfl, fun w _ => by go_simp; try (intro h0; exact absurd h0 (by omega))⟩) HS0.out ?_
      simp only [Act.put, List.setIfInBounds_toArray, List.set_cons_zero, List.set_cons_succ]
      refine wpAnyE_take 10 (some 53) (.pointer (some ⟨g, og + 6 + 2, none⟩)) rfl rfl (by kernel_rfl) (by kernel_rfl) (by kernel_rfl) (by kernel_rfl) (fun _ _ _ h => h) (Or.inl ⟨by rfl, fun w _ => by go_simp⟩) HS0.out ?_
      simp only [Act.put, List.setIfInBounds_toArray, List.set_cons_zero, List.set_cons_succ]
      refine wpAnyE_take 11 (some 54) (.string (st b)) rfl rfl (by kernel_rfl) (by kernel_rfl) (by kernel_rfl) (by kernel_rfl) (fun _ _ _ h => h) (yields_load rfl 9 _ rfl Tryz.underlying9 rfl _ rfl _ (fun w h => h.2.2.1)) HS0.out ?_
      simp only [Act.put, List.setIfInBounds_toArray, List.set_cons_zero, List.set_cons_succ]
      refine wpAnyE_take 12 (some 55) (.slice (some ⟨g, og, none⟩) nl cg) rfl rfl (by kernel_rfl) (by kernel_rfl) (by kernel_rfl) (by kernel_rfl) (fun _ _ _ h => h) (yields_move rfl _ rfl _ rfl) HS0.out ?_
      simp only [Act.put, List.setIfInBounds_toArray, List.set_cons_zero, List.set_cons_succ]
      refine wpAnyE_take 13 (some 56) (.pointer (some ⟨g, og + 9, none⟩)) rfl rfl (by kernel_rfl) (by kernel_rfl) (by kernel_rfl) (by kernel_rfl) (fun _ _ _ h => h) (Or.inl ⟨by rfl, fun w _ => by go_simp; try (intro h0; exact absurd h0 (by omega))⟩) HS0.out ?_
      simp only [Act.put, List.setIfInBounds_toArray, List.set_cons_zero, List.set_cons_succ]
      refine wpAnyE_take 14 (some 57) (.pointer (some ⟨g, og + 9 + 2, none⟩)) rfl rfl (by kernel_rfl) (by kernel_rfl) (by kernel_rfl) (by kernel_rfl) (fun _ _ _ h => h) (Or.inl ⟨by rfl, fun w _ => by go_simp⟩) HS0.out ?_
      simp only [Act.put, List.setIfInBounds_toArray, List.set_cons_zero, List.set_cons_succ]
      refine wpAnyE_take 15 (some 58) (.string (st u)) rfl rfl (by kernel_rfl) (by kernel_rfl) (by kernel_rfl) (by kernel_rfl) (fun _ _ _ h => h) (yields_load rfl 9 _ rfl Tryz.underlying9 rfl _ rfl _ (fun w h => h.2.2.2.1)) HS0.out ?_
      simp only [Act.put, List.setIfInBounds_toArray, List.set_cons_zero, List.set_cons_succ]
      refine wpAnyE_take 16 (some 59) (.slice (some ⟨g, og, none⟩) nl cg) rfl rfl (by kernel_rfl) (by kernel_rfl) (by kernel_rfl) (by kernel_rfl) (fun _ _ _ h => h) (yields_move rfl _ rfl _ rfl) HS0.out ?_
      simp only [Act.put, List.setIfInBounds_toArray, List.set_cons_zero, List.set_cons_succ]
      refine wpAnyE_take 17 (some 60) (.pointer (some ⟨g, og + 12, none⟩)) rfl rfl (by kernel_rfl) (by kernel_rfl) (by kernel_rfl) (by kernel_rfl) (fun _ _ _ h => h) (Or.inl ⟨by rfl, fun w _ => by go_simp; try (intro h0; exact absurd h0 (by omega))⟩) HS0.out ?_
      simp only [Act.put, List.setIfInBounds_toArray, List.set_cons_zero, List.set_cons_succ]
      refine wpAnyE_take 18 (some 61) (.pointer (some ⟨g, og + 12 + 2, none⟩)) rfl rfl (by kernel_rfl) (by kernel_rfl) (by kernel_rfl) (by kernel_rfl) (fun _ _ _ h => h) (Or.inl ⟨by rfl, fun w _ => by go_simp⟩) HS0.out ?_
      simp only [Act.put, List.setIfInBounds_toArray, List.set_cons_zero, List.set_cons_succ]
      refine wpAnyE_take 19 (some 62) (.string (st t)) rfl rfl (by kernel_rfl) (by kernel_rfl) (by kernel_rfl) (by kernel_rfl) (fun _ _ _ h => h) (yields_load rfl 9 _ rfl Tryz.underlying9 rfl _ rfl _ (fun w h => h.2.2.2.2.1)) HS0.out ?_
      simp only [Act.put, List.setIfInBounds_toArray, List.set_cons_zero, List.set_cons_succ]
      refine wpAnyE_take 20 (some 63) (.slice (some ⟨g, og, none⟩) nl cg) rfl rfl (by kernel_rfl) (by kernel_rfl) (by kernel_rfl) (by kernel_rfl) (fun _ _ _ h => h) (yields_move rfl _ rfl _ rfl) HS0.out ?_
      simp only [Act.put, List.setIfInBounds_toArray, List.set_cons_zero, List.set_cons_succ]
      refine wpAnyE_take 21 (some 64) (.pointer (some ⟨g, og + 15, none⟩)) rfl rfl (by kernel_rfl) (by kernel_rfl) (by kernel_rfl) (by kernel_rfl) (fun _ _ _ h => h) (Or.inl ⟨by rfl, fun w _ => by go_simp; try (intro h0; exact absurd h0 (by omega))⟩) HS0.out ?_
      simp only [Act.put, List.setIfInBounds_toArray, List.set_cons_zero, List.set_cons_succ]
      refine wpAnyE_take 22 (some 65) (.pointer (some ⟨g, og + 15 + 1, none⟩)) rfl rfl (by kernel_rfl) (by kernel_rfl) (by kernel_rfl) (by kernel_rfl) (fun _ _ _ h => h) (Or.inl ⟨by rfl, fun w _ => by go_simp⟩) HS0.out ?_
      simp only [Act.put, List.setIfInBounds_toArray, List.set_cons_zero, List.set_cons_succ]
      refine wpAnyE_take 23 (some 66) (.int .i64 m) rfl rfl (by kernel_rfl) (by kernel_rfl) (by kernel_rfl) (by kernel_rfl) (fun _ _ _ h => h) (yields_load rfl 2 _ rfl Tryz.underlying2 rfl _ rfl _ (fun w h => h.2.2.2.2.2)) HS0.out ?_
      simp only [Act.put, List.setIfInBounds_toArray, List.set_cons_zero, List.set_cons_succ]
      refine wpAnyE_take 24 (some 67) (.agg #[.string (st k), .string (st i), .string (st b), .string (st u), .string (st t), .int .i64 m, .slice none 0 0]) rfl rfl (by kernel_rfl) (by kernel_rfl) (by kernel_rfl) (by kernel_rfl) (fun _ _ _ h => h) (Or.inl ⟨by rfl, fun w _ => by go_simp⟩) HS0.out ?_
      simp only [Act.put, List.setIfInBounds_toArray, List.set_cons_zero, List.set_cons_succ]
      refine wpAnyE_oneG 25 (by kernel_rfl) rfl (by rfl) (fun K hK => ?_)
      go_simp
      try go_wp2_with fail
      have HBz : Hid (Below w5.heap.size w5 (W.alloc (.cells #[.string ⟨#[]⟩, .string ⟨#[]⟩, .string ⟨#[]⟩, .string ⟨#[]⟩, .string ⟨#[]⟩, .int .i64 0, .slice none 0 0] 24))) := HBd.out.alloc HBd.out.size _
      refine hK.out _ _ (HSD.out _ HBz.out) ?_
      clear hK K HBz
      try simp only [Act.put, List.setIfInBounds_toArray, List.set_cons_zero, List.set_cons_succ]
      refine wpAnyE_oneG 26 (by kernel_rfl) rfl (by rfl) (fun K hK => ?_)
      go_simp
      try go_wp2_with fail
      obtain ⟨bx, hbx⟩ : ∃ bx, bx = W.heap.size := ⟨_, rfl⟩
      have HLC : Hid (LcP W bx k i b u t m (W.alloc (.cells #[.string (st k), .string (st i), .string (st b), .string (st u), .string (st t), .int .i64 m, .slice none 0 0] 24)) (rdX 0 R0) (.slice none 0 0)) :=
        ⟨by rw [hbx]; exact Blk.new W _ _, World.ownsRow_nil _ _ 39 2, by rw [hbx]; exact (Below.refl _ W).alloc (Nat.le_refl _) _⟩
      have HBX5 : Hid (w5.heap.size ≤ bx) := by rw [hbx]; exact HBd.out.size
      have HS6 := Lib.hid (HSD.out _ (HBd.out.trans (bel_lessG HLC.out.bel HBX5.out)))
      rw [← hbx]
      refine hK.out _ _ HS6.out ?_
      clear hK K
      try simp only [Act.put, List.setIfInBounds_toArray, List.set_cons_zero, List.set_cons_succ]
      refine wpAnyE_done (by kernel_rfl) ?_ _
      generalize W.alloc (.cells #[.string (st k), .string (st i), .string (st b), .string (st u), .string (st t), .int .i64 m, .slice none 0 0] 24) = w6 at HLC HS6 ⊢
      clear HS6 HS0 HSD hbx i0 i1 i2 i3 i4 i5
      have HUP : Hid (∀ W', Below bx W W' → Below w5.heap.size w5 W') := fun W' h => HBd.out.trans (bel_lessG h HBX5.out)
      go_wp2
      go_loopg [10] j (fun gk ix wq => ∃ (jj ii : Nat) (v : Value), jj ≤ j ∧ ii = 7 + 2 * jj ∧ ix = .int .i64 (ii : Int) ∧ j - jj ≤ gk ∧ Hid (LcP W bx k i b u t m wq (rdX jj R0) v))
      case atStart => exact ⟨0, 7, _, Nat.zero_le _, rfl, rfl, by omega, HLC.out⟩
      case round =>
        clear HLC
        obtain ⟨jj, ii, v, hjj, hii, rfl, hgk, HL⟩ := hrel
        by_cases hlt : jj < j
        · have h30 : ii + 1 ≤ 30 := by omega
          have hnl := HNL.out
          have hi0 : (0 : Int) ≤ (ii : Int) := by omega
          have hi1 : (ii : Int) < (nl : Int) := by omega
          have hi2 : (ii : Int) + 1 < (nl : Int) := by omega
          have hi3 : (ii : Int) ≤ 30 := by omega
          have hlen : (rdX jj R0).length = jj := rdX_len jj R0
          obtain ⟨xs, hxs⟩ : ∃ xs, xs = rdX jj R0 := ⟨_, rfl⟩
          obtain ⟨p, hp⟩ : ∃ p, p = tt (rdR jj R0) := ⟨_, rfl⟩
          obtain ⟨q, hq⟩ : ∃ q, q = iv8 (tl (rdR jj R0)) := ⟨_, rfl⟩
          have HX2 : Hid (xs ++ [(p, q)] = rdX (jj + 1) R0) := by show _ = _; rw [hxs, hp, hq]; rfl
          have HSE : Hid (∀ W', Below bx W W' → W'.cell? ⟨g, og + ii * 3 + 2, none⟩ = some (.string (st p)) ∧ W'.cell? ⟨g, og + (ii + 1) * 3 + 1, none⟩ = some (.int .i64 q)) := fun W' h => by
            rw [hp, hq, hii]
            exact HSX.out jj hlt W' (HUP.out W' h)
          rw [← hxs] at HL hlen
          have HLEN : Hid (xs.length ≤ 8) := by show _ ≤ _; omega
          have HII := Lib.hid hii
          clear hnl hxs hp hq hlen hii HSX
          go_wp2_with fail
          refine wp_region_E (fun W' => W'.cell? ⟨bx, 6, none⟩ = some v ∧ W'.cell? ⟨g, og + ii * 3 + 2, none⟩ = some (.string (st p)) ∧ W'.cell? ⟨g, og + (ii + 1) * 3 + 1, none⟩ = some (.int .i64 q)) [17] (by kernel_rfl) ?_
          have HLd : Hid (LcP W bx k i b u t m wr.drew xs v) := HL.out.keep (Below.refl _ wr).drew
          generalize wr.drew = Z at HLd ⊢
          have HS0 : Hid (Z.cell? ⟨bx, 6, none⟩ = some v ∧ Z.cell? ⟨g, og + ii * 3 + 2, none⟩ = some (.string (st p)) ∧ Z.cell? ⟨g, og + (ii + 1) * 3 + 1, none⟩ = some (.int .i64 q)) := ⟨HLd.out.box.cell 6, HSE.out Z HLd.out.bel⟩
          clear HL
          refine wpAnyE_take 0 (some 74) (.pointer (some ⟨bx, 6, none⟩)) rfl rfl (by kernel_rfl) (by kernel_rfl) (by kernel_rfl) (by kernel_rfl) (fun _ _ _ h => h) (Or.inl ⟨by rfl, fun w _ => by go_simp⟩) HS0.out ?_
          simp only [Act.put, List.setIfInBounds_toArray, List.set_cons_zero, List.set_cons_succ]
          refine wpAnyE_take 1 (some 75) (v) rfl rfl (by kernel_rfl) (by kernel_rfl) (by kernel_rfl) (by kernel_rfl) (fun _ _ _ h => h) (yields_load rfl 22 _ rfl Tryz.underlying22 rfl _ rfl _ (fun w h => h.1)) HS0.out ?_
          simp only [Act.put, List.setIfInBounds_toArray, List.set_cons_zero, List.set_cons_succ]
          refine wpAnyE_take 2 (some 76) (.slice (some ⟨g, og, none⟩) nl cg) rfl rfl (by kernel_rfl) (by kernel_rfl) (by kernel_rfl) (by kernel_rfl) (fun _ _ _ h => h) (yields_move rfl _ rfl _ rfl) HS0.out ?_
          simp only [Act.put, List.setIfInBounds_toArray, List.set_cons_zero, List.set_cons_succ]
          refine wpAnyE_take 3 (some 77) (.int .i64 (ii : Int)) rfl rfl (by kernel_rfl) (by kernel_rfl) (by kernel_rfl) (by kernel_rfl) (fun _ _ _ h => h) (yields_move rfl _ rfl _ rfl) HS0.out ?_
          simp only [Act.put, List.setIfInBounds_toArray, List.set_cons_zero, List.set_cons_succ]
          refine wpAnyE_take 4 (some 78) (.pointer (some ⟨g, og + ii * 3, none⟩)) rfl rfl (by kernel_rfl) (by kernel_rfl) (by kernel_rfl) (by kernel_rfl) (fun _ _ _ h => h) (Or.inl ⟨by rfl, fun w _ => by go_simp; try (intro h0; exact absurd h0 (by omega))⟩) HS0.out ?_
          simp only [Act.put, List.setIfInBounds_toArray, List.set_cons_zero, List.set_cons_succ]
          refine wpAnyE_take 5 (some 79) (.pointer (some ⟨g, og + ii * 3 + 2, none⟩)) rfl rfl (by kernel_rfl) (by kernel_rfl) (by kernel_rfl) (by kernel_rfl) (fun _ _ _ h => h) (Or.inl ⟨by rfl, fun w _ => by go_simp; try (intro h0; exact absurd h0 (by omega))⟩) HS0.out ?_
          simp only [Act.put, List.setIfInBounds_toArray, List.set_cons_zero, List.set_cons_succ]
          refine wpAnyE_take 6 (some 80) (.string (st p)) rfl rfl (by kernel_rfl) (by kernel_rfl) (by kernel_rfl) (by kernel_rfl) (fun _ _ _ h => h) (yields_load rfl 9 _ rfl Tryz.underlying9 rfl _ rfl _ (fun w h => h.2.1)) HS0.out ?_
          simp only [Act.put, List.setIfInBounds_toArray, List.set_cons_zero, List.set_cons_succ]
          refine wpAnyE_take 7 (some 81) (.slice (some ⟨g, og, none⟩) nl cg) rfl rfl (by kernel_rfl) (by kernel_rfl) (by kernel_rfl) (by kernel_rfl) (fun _ _ _ h => h) (yields_move rfl _ rfl _ rfl) HS0.out ?_
          simp only [Act.put, List.setIfInBounds_toArray, List.set_cons_zero, List.set_cons_succ]
          refine wpAnyE_take 8 (some 82) (.int .i64 (ii : Int)) rfl rfl (by kernel_rfl) (by kernel_rfl) (by kernel_rfl) (by kernel_rfl) (fun _ _ _ h => h) (yields_move rfl _ rfl _ rfl) HS0.out ?_
          simp only [Act.put, List.setIfInBounds_toArray, List.set_cons_zero, List.set_cons_succ]
          refine wpAnyE_take 9 (some 83) (.int .i64 ((ii : Int) + 1)) rfl rfl (by kernel_rfl) (by kernel_rfl) (by kernel_rfl) (by kernel_rfl) (fun _ _ _ h => h) (Or.inl ⟨by rfl, fun w _ => by go_simp; exact Go.IntWalk.i64_in _ (by omega)⟩) HS0.out ?_
          simp only [Act.put, List.setIfInBounds_toArray, List.set_cons_zero, List.set_cons_succ]
          refine wpAnyE_take 10 (some 84) (.pointer (some ⟨g, og + (ii + 1) * 3, none⟩)) rfl rfl (by kernel_rfl) (by kernel_rfl) (by kernel_rfl) (by kernel_rfl) (fun _ _ _ h => h) (Or.inl ⟨by rfl, fun w _ => by go_simp; try (intro h0; exact absurd h0 (by omega))⟩) HS0.out ?_
          simp only [Act.put, List.setIfInBounds_toArray, List.set_cons_zero, List.set_cons_succ]
          refine wpAnyE_take 11 (some 85) (.pointer (some ⟨g, og + (ii + 1) * 3 + 1, none⟩)) rfl rfl (by kernel_rfl) (by kernel_rfl) (by kernel_rfl) (by kernel_rfl) (fun _ _ _ h => h) (Or.inl ⟨by rfl, fun w _ => by go_simp; try (intro h0; exact absurd h0 (by omega))⟩) HS0.out ?_
          simp only [Act.put, List.setIfInBounds_toArray, List.set_cons_zero, List.set_cons_succ]
          refine wpAnyE_take 12 (some 86) (.int .i64 q) rfl rfl (by kernel_rfl) (by kernel_rfl) (by kernel_rfl) (by kernel_rfl) (fun _ _ _ h => h) (yields_load rfl 2 _ rfl Tryz.underlying2 rfl _ rfl _ (fun w h => h.2.2)) HS0.out ?_
          simp only [Act.put, List.setIfInBounds_toArray, List.set_cons_zero, List.set_cons_succ]
          refine wpAnyE_take 13 (some 87) (.agg #[.string (st p), .int .i64 q]) rfl rfl (by kernel_rfl) (by kernel_rfl) (by kernel_rfl) (by kernel_rfl) (fun _ _ _ h => h) (Or.inl ⟨by rfl, fun w _ => by go_simp⟩) HS0.out ?_
          simp only [Act.put, List.setIfInBounds_toArray, List.set_cons_zero, List.set_cons_succ]
          refine wpAnyE_one (i := 14) (by kernel_rfl) rfl rfl ?_
          refine wp_buildSlice_one (some 88) rfl 22 39 _ rfl _ 2 24 Tryz.underlying22 infoShare (by omega) (by omega) #[.string (st p), .int .i64 q] rfl rfl ?_
          simp only [Act.put, List.setIfInBounds_toArray, List.set_cons_zero, List.set_cons_succ]
          have HB3 : Hid (Below Z.heap.size Z (Z.alloc (.cells #[.string (st p), .int .i64 q] 39))) := (Below.refl _ Z).alloc (Nat.le_refl _) _
          have HBN : Hid (Blk (Z.alloc (.cells #[.string (st p), .int .i64 q] 39)) Z.heap.size 39 #[.string (st p), .int .i64 q]) := Blk.new Z _ _
          generalize Z.alloc (.cells #[.string (st p), .int .i64 q] 39) = Z3 at HB3 HBN ⊢
          have HL3 := Lib.hid (HLd.out.keep HB3.out)
          refine ⟨⟨HL3.out.box.cell 6, HSE.out Z3 HL3.out.bel⟩, ?_⟩
          refine wpAnyE_one (i := 15) (by kernel_rfl) rfl rfl ?_
          refine wp_append_wide (some 89) rfl (.tmp 75) (.tmp 88) 22 39 rfl (bx + 1) _ 2 24 Tryz.underlying22 infoShare rfl (by omega) v xs.length _ rfl Z.heap.size 1 rfl HL3.out.own _ HBN.out rfl (sh_one2 p q) (by have := HLEN.out; unfold maxLen; omega) (by have := HLEN.out; omega) HL3.out.box.lt ?_
          intro v' W4 hown4 hgr4 hat4
          simp only [Act.put, List.setIfInBounds_toArray, List.set_cons_zero, List.set_cons_succ]
          have HL4 : Hid (LcP W bx k i b u t m (W4.setCell ⟨bx, 6, none⟩ v') (xs ++ [(p, q)]) v') := HL3.out.put (x := (p, q)) hgr4 hown4
          have HX4 := Lib.hid (HL3.out.box.kept hgr4 fun e => by have := HL3.out.up bx e.symm; omega)
          have HBL4 : Hid (Below bx W W4) := HL3.out.bel.grown hgr4 (Nat.le_of_lt HL3.out.box.lt) fun g' e => Nat.le_of_lt (HL3.out.up g' e)
          obtain ⟨va, vc, hvv⟩ := own_sliceG hown4
          clear hgr4 hown4 hat4
          have HS4 : Hid (W4.cell? ⟨bx, 6, none⟩ = some v ∧ W4.cell? ⟨g, og + ii * 3 + 2, none⟩ = some (.string (st p)) ∧ W4.cell? ⟨g, og + (ii + 1) * 3 + 1, none⟩ = some (.int .i64 q)) := ⟨HX4.out.cell 6, HSE.out W4 HBL4.out⟩
          refine ⟨HS4.out, ?_⟩
          refine wpAnyE_step 16 (some 90) (.pointer (some ⟨bx, 6, none⟩)) (by kernel_rfl) rfl rfl (Or.inl ⟨by rfl, fun w _ => by go_simp⟩) HS4.out ?_
          simp only [Act.put, List.setIfInBounds_toArray, List.set_cons_zero, List.set_cons_succ]
          refine wpAnyE_end (i := 17) (by kernel_rfl) rfl rfl rfl ?_
          refine wp_store_one none rfl 22 _ _ rfl (by kernel_rfl) ⟨bx, 6, none⟩ rfl v' v rfl (by rw [hvv]; rfl) (HX4.out.cell 6) (HX4.out.frozen 6) ?_
          simp only [Act.put]
          refine wpAnyE_done (by kernel_rfl) ?_ _
          rw [HX2.out] at HL4
          generalize W4.setCell ⟨bx, 6, none⟩ v' = W5 at HL4 ⊢
          clear HS4 HX4 HL3 HLd HS0 HB3 HBN HBL4 hvv HX2 HLEN HSE
          go_wp2
          go_roundg (j - (jj + 1))
          case measure => omega
          case rel =>
            have hii := HII.out
            exact ⟨jj + 1, ii + 2, v', by omega, by omega, (by first | rfl | go_num | (rw [w64d (z := (ii : Int) + 2) (by omega) (by omega)]; go_num)), by omega, HL4.out⟩
        · have hkn : ¬ ((ii : Int) < (nl : Int)) := by have := HNL.out; omega
          obtain ⟨xs, hxs⟩ : ∃ xs, xs = rdX j R0 := ⟨_, rfl⟩
          have HL2 : Hid (LcP W bx k i b u t m wr xs v) := by
            have e : jj = j := by omega
            rw [hxs, ← e]
            exact HL.out
          have HLEN : Hid (xs.length ≤ 8) := by show _ ≤ _; rw [hxs, rdX_len]; exact hn8
          rw [← hxs] at HDC HSM
          obtain ⟨aa, cc, hv, hrow, hup, hcp⟩ := RowG.own cSh_len HL2.out.own rfl
          subst hv
          have HBX := Lib.hid HL2.out.box
          have HBL := Lib.hid HL2.out.bel
          have HROW := Lib.hid hrow
          have HUA : Hid (∀ p, aa = some p → bx < p.block) := fun p hp => by have := hup p hp; omega
          have HCP := Lib.hid hcp
          have HBW : Hid (Below w.heap.size w wr) := by
            have h1 : Below w.heap.size w w0 := by rw [← HE.out]; exact HB0.out
            have h2 : Below w.heap.size w0 w5 := bel_lessG HB5.out (by have := HE.out; omega)
            have h3 : Below w5.heap.size w5 wr := HUP.out wr HBL.out
            exact (h1.trans h2).trans (bel_lessG h3 (by have := HE.out; omega))
          have HRSr : Hid (Blk wr rs 24 #[.string ⟨#[]⟩, .string ⟨#[]⟩, .string ⟨#[]⟩, .string ⟨#[]⟩, .string ⟨#[]⟩, .int .i64 0, .slice none 0 0]) := (HRS.out.below HB5.out hrs2').below (HUP.out wr HBL.out) hrs5
          have HRB : Hid (rs < bx) := by have := HBX5.out; show _ < _; omega
          have HRW : Hid (w.heap.size ≤ rs) := Nat.le_of_eq HE.out.symm
          clear hrow hup hcp HL HL2 HUP HBL HSX hxs hii hgk hlt hjj HNL HB5 HRS HB0 HE
          have HRR : Hid (∀ W, RowG 2 cSh W aa xs → Calls Tryz.prog 11 #[.agg #[.string (st k), .string (st i), .string (st b), .string (st u), .string (st t), .int .i64 m, .slice aa xs.length cc]] W fun e w' => e = .returned (.int .i64 (rightC ⟨k, i, b, u, t, m, xs⟩)) ∧ Below W.heap.size W w') := fun W hW =>
            rright_any ⟨k, i, b, u, t, m, xs⟩ aa cc W (Nat.le_trans (HSM.out ⟨true, 0, i⟩ (by simp [itH])).1 (by omega)) (Nat.le_trans (HSM.out ⟨true, 0, b⟩ (by simp [itH])).1 (by omega)) (Nat.le_trans (HSM.out ⟨true, 0, u⟩ (by simp [itH])).1 (by omega)) (Nat.le_trans (HSM.out ⟨true, 0, t⟩ (by simp [itH])).1 (by omega)) hW (Nat.le_trans HLEN.out (by omega)) (fun s hs => Nat.le_trans (HSM.out ⟨true, 0, s.1⟩ (List.mem_append_right _ (List.mem_flatMap.2 ⟨s, hs, by simp⟩))).1 (by omega))
          have HBY : Hid (∀ W, RowG 2 cSh W aa xs → Calls Tryz.prog 14 #[.agg #[.string (st k), .string (st i), .string (st b), .string (st u), .string (st t), .int .i64 m, .slice aa xs.length cc]] W fun e w' => e = .returned (.string (st (bytesC ⟨k, i, b, u, t, m, xs⟩))) ∧ Below W.heap.size W w') := fun W hW =>
            rbytes_any ⟨k, i, b, u, t, m, xs⟩ aa cc W hW HLEN.out HSM.out
          obtain ⟨C, hC⟩ : ∃ C : Cm, C = ⟨k, i, b, u, t, m, xs⟩ := ⟨_, rfl⟩
          rw [← hC] at HDC HRR HBY
          have HC := Lib.hid hC
          obtain ⟨R, hR⟩ : ∃ R, R = rightC C := ⟨_, rfl⟩
          obtain ⟨X, hX⟩ : ∃ X, X = bytesC C := ⟨_, rfl⟩
          have HRE := Lib.hid hR
          have HXE := Lib.hid hX
          rw [← hR] at HRR
          rw [← hX] at HBY
          clear hC hR hX HSM
          by_cases hR0 : R = 0
          · subst hR0
            go_upto_region 16 with fail
            refine wp_region_E (fun W' => Blk W' bx 24 #[.string (st k), .string (st i), .string (st b), .string (st u), .string (st t), .int .i64 m, .slice aa xs.length cc]) [] (by kernel_rfl) ?_
            have HBX6 := Lib.hid (HBX.out.since (Below.refl _ wr).drew)
            have HROW6 := Lib.hid (HROW.out.keep (Below.refl _ wr).drew)
            have HRS6 := Lib.hid (HRSr.out.since (Below.refl _ wr).drew)
            have HBW6 := Lib.hid (HBW.out.drew)
            clear HBX HROW HRSr HBW
            generalize wr.drew = W6 at HBX6 HROW6 HRS6 HBW6 ⊢
            refine wpAnyE_take 0 (some 91) (.agg #[.string (st k), .string (st i), .string (st b), .string (st u), .string (st t), .int .i64 m, .slice aa xs.length cc]) rfl rfl (by kernel_rfl) (by kernel_rfl) (by kernel_rfl) (by kernel_rfl) (fun _ _ _ h => h) (yieldsIf_load_mid rfl 24 _ rfl bx 0 rfl _ _ (fun w h => range7 h) Tryz.underlying24 rfl infoCmd) HBX6.out ?_
            simp only [Act.put, List.setIfInBounds_toArray, List.set_cons_zero, List.set_cons_succ]
            refine wpAnyE_take 1 (some 92) (.agg #[.string (st k), .string (st i), .string (st b), .string (st u), .string (st t), .int .i64 m, .slice aa xs.length cc]) rfl rfl (by kernel_rfl) (by kernel_rfl) (by kernel_rfl) (by kernel_rfl) (fun _ _ _ h => h) (yieldsIf_load_mid rfl 24 _ rfl bx 0 rfl _ _ (fun w h => range7 h) Tryz.underlying24 rfl infoCmd) HBX6.out ?_
            simp only [Act.put, List.setIfInBounds_toArray, List.set_cons_zero, List.set_cons_succ]
            refine wpAnyE_oneG 2 (by kernel_rfl) rfl (by rfl) (fun K hK => ?_)
            go_simp
            refine (HRR.out _ HROW6.out).mono ?_
            rintro e W7 ⟨rfl, hb⟩
            have HBX7 := Lib.hid (HBX6.out.since hb)
            have HROW7 := Lib.hid (HROW6.out.keep hb)
            have HRS7 := Lib.hid (HRS6.out.since hb)
            have HBW7 := Lib.hid (bel_onG HBW6.out HBW6.out.size hb)
            clear hb HBX6 HROW6 HRS6 HBW6
            try go_wp2_with fail
            refine hK.out _ _ HBX7.out ?_
            clear hK K
            try simp only [Act.put, List.setIfInBounds_toArray, List.set_cons_zero, List.set_cons_succ]
            refine wpAnyE_take 3 (some 94) (.bool true) rfl rfl (by kernel_rfl) (by kernel_rfl) (by kernel_rfl) (by kernel_rfl) (fun _ _ _ h => h) (Or.inl ⟨by rfl, fun w _ => by go_simp⟩) HBX7.out ?_
            simp only [Act.put, List.setIfInBounds_toArray, List.set_cons_zero, List.set_cons_succ]
            refine wpAnyE_take 4 (some 95) (.bool true) rfl rfl (by kernel_rfl) (by kernel_rfl) (by kernel_rfl) (by kernel_rfl) (fun _ _ _ h => h) (yields_move rfl _ rfl _ rfl) HBX7.out ?_
            simp only [Act.put, List.setIfInBounds_toArray, List.set_cons_zero, List.set_cons_succ]
            refine wpAnyE_take 5 (some 96) (.agg #[.string (st k), .string (st i), .string (st b), .string (st u), .string (st t), .int .i64 m, .slice aa xs.length cc]) rfl rfl (by kernel_rfl) (by kernel_rfl) (by kernel_rfl) (by kernel_rfl) (fun _ _ _ h => h) (yieldsIf_load_mid rfl 24 _ rfl bx 0 rfl _ _ (fun w h => range7 h) Tryz.underlying24 rfl infoCmd) HBX7.out ?_
            simp only [Act.put, List.setIfInBounds_toArray, List.set_cons_zero, List.set_cons_succ]
            refine wpAnyE_take 7 (some 98) (.string (st l)) rfl rfl (by kernel_rfl) (by kernel_rfl) (by kernel_rfl) (by kernel_rfl) (fun _ _ _ h => h) (Or.inl ⟨by rfl, fun w _ => by go_simp⟩) HBX7.out ?_
            simp only [Act.put, List.setIfInBounds_toArray, List.set_cons_zero, List.set_cons_succ]
            refine wpAnyE_oneG 6 (by kernel_rfl) rfl (by rfl) (fun K hK => ?_)
            go_simp
            refine (HBY.out _ HROW7.out).mono ?_
            rintro e W8 ⟨rfl, hb⟩
            have HBX8 := Lib.hid (HBX7.out.since hb)
            have HROW8 := Lib.hid (HROW7.out.keep hb)
            have HRS8 := Lib.hid (HRS7.out.since hb)
            have HBW8 := Lib.hid (bel_onG HBW7.out HBW7.out.size hb)
            clear hb HBX7 HROW7 HRS7 HBW7
            try go_wp2_with fail
            refine hK.out _ _ HBX8.out ?_
            clear hK K
            try simp only [Act.put, List.setIfInBounds_toArray, List.set_cons_zero, List.set_cons_succ]
            by_cases hXl : X = l
            · subst hXl
              refine wpAnyE_take 8 (some 99) (.bool true) rfl rfl (by kernel_rfl) (by kernel_rfl) (by kernel_rfl) (by kernel_rfl) (fun _ _ _ h => h) (Or.inl ⟨by rfl, fun w _ => by go_simp⟩) HBX8.out ?_
              simp only [Act.put, List.setIfInBounds_toArray, List.set_cons_zero, List.set_cons_succ]
              refine wpAnyE_take 9 (some 100) (.bool true) rfl rfl (by kernel_rfl) (by kernel_rfl) (by kernel_rfl) (by kernel_rfl) (fun _ _ _ h => h) (Or.inl ⟨by rfl, fun w _ => by go_simp⟩) HBX8.out ?_
              simp only [Act.put, List.setIfInBounds_toArray, List.set_cons_zero, List.set_cons_succ]
              obtain ⟨r0, r1, r2, r3, r4, r5, r6⟩ := cell_seven HRS8.out
              have f0 := HRS8.out.frozen 0
              have f1 := HRS8.out.frozen 1
              have f2 := HRS8.out.frozen 2
              have f3 := HRS8.out.frozen 3
              have f4 := HRS8.out.frozen 4
              have f5 := HRS8.out.frozen 5
              have f6 := HRS8.out.frozen 6
              have hs := put7_stp W8 rs (.string (st k)) (.string (st i)) (.string (st b)) (.string (st u)) (.string (st t)) (.int .i64 m) (.slice aa xs.length cc)
              have HFIN := Lib.hid (HRS8.out.put7 (.string (st k)) (.string (st i)) (.string (st b)) (.string (st u)) (.string (st t)) (.int .i64 m) (.slice aa xs.length cc))
              have HBX9 := Lib.hid (HBX8.out.stp hs (by have := HRB.out; simp; omega))
              have HROW9 := Lib.hid (HROW8.out.stp0 hs (fun _ p hp => by have h1 := HUA.out p hp; have h2 := HRB.out; simp; omega))
              have HBF := Lib.hid (HBW8.out.trans (hs.below (fun kk hk => by rw [List.mem_singleton] at hk; rw [hk]; exact HRW.out) HBW8.out.size))
              clear hs
              refine wpAnyE_oneG 10 (by kernel_rfl) rfl (by rfl) (fun K hK => ?_)
              go_simp
              try go_wp2_with fail
              refine hK.out _ _ HBX9.out ?_
              clear hK K
              try simp only [Act.put, List.setIfInBounds_toArray, List.set_cons_zero, List.set_cons_succ]
              refine wpAnyE_oneG 11 (by kernel_rfl) rfl (by rfl) (fun K hK => ?_)
              go_simp
              try go_wp2_with fail
              refine hK.out _ _ HBX9.out ?_
              clear hK K
              try simp only [Act.put, List.setIfInBounds_toArray, List.set_cons_zero, List.set_cons_succ]
              refine wpAnyE_done (by kernel_rfl) ?_ _
              clear r0 r1 r2 r3 r4 r5 r6 f0 f1 f2 f3 f4 f5 f6 HBX8 HROW8 HRS8 HBW8
              go_wp2
              exact bodyPost_ret (cmd_ret2 rfl rs rfl HFIN.out rfl) rfl (by unfold RcPost18; exact ⟨⟨k, i, b, u, t, m, xs⟩, aa, cc, true, rfl, HROW9.out, HCP.out, HBF.out, .inl ⟨rfl, (by rw [HDC.out, HC.out]), (by rw [← HC.out, ← HRE.out]), (by rw [← HC.out, ← HXE.out])⟩⟩)
            · have hne := st_neb hXl
              refine wpAnyE_take 8 (some 99) (.bool false) rfl rfl (by kernel_rfl) (by kernel_rfl) (by kernel_rfl) (by kernel_rfl) (fun _ _ _ h => h) (Or.inl ⟨by rfl, fun w _ => by go_simp⟩) HBX8.out ?_
              simp only [Act.put, List.setIfInBounds_toArray, List.set_cons_zero, List.set_cons_succ]
              refine wpAnyE_take 9 (some 100) (.bool false) rfl rfl (by kernel_rfl) (by kernel_rfl) (by kernel_rfl) (by kernel_rfl) (fun _ _ _ h => h) (Or.inl ⟨by rfl, fun w _ => by go_simp⟩) HBX8.out ?_
              simp only [Act.put, List.setIfInBounds_toArray, List.set_cons_zero, List.set_cons_succ]
              obtain ⟨r0, r1, r2, r3, r4, r5, r6⟩ := cell_seven HRS8.out
              have f0 := HRS8.out.frozen 0
              have f1 := HRS8.out.frozen 1
              have f2 := HRS8.out.frozen 2
              have f3 := HRS8.out.frozen 3
              have f4 := HRS8.out.frozen 4
              have f5 := HRS8.out.frozen 5
              have f6 := HRS8.out.frozen 6
              have hs := put7_stp W8 rs (.string (st k)) (.string (st i)) (.string (st b)) (.string (st u)) (.string (st t)) (.int .i64 m) (.slice aa xs.length cc)
              have HFIN := Lib.hid (HRS8.out.put7 (.string (st k)) (.string (st i)) (.string (st b)) (.string (st u)) (.string (st t)) (.int .i64 m) (.slice aa xs.length cc))
              have HBX9 := Lib.hid (HBX8.out.stp hs (by have := HRB.out; simp; omega))
              have HROW9 := Lib.hid (HROW8.out.stp0 hs (fun _ p hp => by have h1 := HUA.out p hp; have h2 := HRB.out; simp; omega))
              have HBF := Lib.hid (HBW8.out.trans (hs.below (fun kk hk => by rw [List.mem_singleton] at hk; rw [hk]; exact HRW.out) HBW8.out.size))
              clear hs
              refine wpAnyE_oneG 10 (by kernel_rfl) rfl (by rfl) (fun K hK => ?_)
              go_simp
              try go_wp2_with fail
              refine hK.out _ _ HBX9.out ?_
              clear hK K
              try simp only [Act.put, List.setIfInBounds_toArray, List.set_cons_zero, List.set_cons_succ]
              refine wpAnyE_oneG 11 (by kernel_rfl) rfl (by rfl) (fun K hK => ?_)
              go_simp
              try go_wp2_with fail
              refine hK.out _ _ HBX9.out ?_
              clear hK K
              try simp only [Act.put, List.setIfInBounds_toArray, List.set_cons_zero, List.set_cons_succ]
              refine wpAnyE_done (by kernel_rfl) ?_ _
              clear r0 r1 r2 r3 r4 r5 r6 f0 f1 f2 f3 f4 f5 f6 HBX8 HROW8 HRS8 HBW8
              go_wp2
              exact bodyPost_ret (cmd_ret2 rfl rs rfl HFIN.out rfl) rfl (by unfold RcPost18; exact ⟨⟨k, i, b, u, t, m, xs⟩, aa, cc, false, rfl, HROW9.out, HCP.out, HBF.out, .inr ⟨rfl, fun h => hXl (by rw [HXE.out, ← HDC.out]; exact h.2)⟩⟩)
          · have hRb : (R == 0) = false := by simpa using hR0
            go_upto_region 16 with fail
            refine wp_region_E (fun W' => Blk W' bx 24 #[.string (st k), .string (st i), .string (st b), .string (st u), .string (st t), .int .i64 m, .slice aa xs.length cc]) [] (by kernel_rfl) ?_
            have HBX6 := Lib.hid (HBX.out.since (Below.refl _ wr).drew)
            have HROW6 := Lib.hid (HROW.out.keep (Below.refl _ wr).drew)
            have HRS6 := Lib.hid (HRSr.out.since (Below.refl _ wr).drew)
            have HBW6 := Lib.hid (HBW.out.drew)
            clear HBX HROW HRSr HBW
            generalize wr.drew = W6 at HBX6 HROW6 HRS6 HBW6 ⊢
            refine wpAnyE_take 0 (some 91) (.agg #[.string (st k), .string (st i), .string (st b), .string (st u), .string (st t), .int .i64 m, .slice aa xs.length cc]) rfl rfl (by kernel_rfl) (by kernel_rfl) (by kernel_rfl) (by kernel_rfl) (fun _ _ _ h => h) (yieldsIf_load_mid rfl 24 _ rfl bx 0 rfl _ _ (fun w h => range7 h) Tryz.underlying24 rfl infoCmd) HBX6.out ?_
            simp only [Act.put, List.setIfInBounds_toArray, List.set_cons_zero, List.set_cons_succ]
            refine wpAnyE_take 1 (some 92) (.agg #[.string (st k), .string (st i), .string (st b), .string (st u), .string (st t), .int .i64 m, .slice aa xs.length cc]) rfl rfl (by kernel_rfl) (by kernel_rfl) (by kernel_rfl) (by kernel_rfl) (fun _ _ _ h => h) (yieldsIf_load_mid rfl 24 _ rfl bx 0 rfl _ _ (fun w h => range7 h) Tryz.underlying24 rfl infoCmd) HBX6.out ?_
            simp only [Act.put, List.setIfInBounds_toArray, List.set_cons_zero, List.set_cons_succ]
            refine wpAnyE_oneG 2 (by kernel_rfl) rfl (by rfl) (fun K hK => ?_)
            go_simp
            refine (HRR.out _ HROW6.out).mono ?_
            rintro e W8 ⟨rfl, hb⟩
            have HBX8 := Lib.hid (HBX6.out.since hb)
            have HROW8 := Lib.hid (HROW6.out.keep hb)
            have HRS8 := Lib.hid (HRS6.out.since hb)
            have HBW8 := Lib.hid (bel_onG HBW6.out HBW6.out.size hb)
            clear hb HBX6 HROW6 HRS6 HBW6
            try go_wp2_with fail
            refine hK.out _ _ HBX8.out ?_
            clear hK K
            try simp only [Act.put, List.setIfInBounds_toArray, List.set_cons_zero, List.set_cons_succ]
            refine wpAnyE_take 3 (some 94) (.bool false) rfl rfl (by kernel_rfl) (by kernel_rfl) (by kernel_rfl) (by kernel_rfl) (fun _ _ _ h => h) (Or.inl ⟨by rfl, fun w _ => by go_simp⟩) HBX8.out ?_
            simp only [Act.put, List.setIfInBounds_toArray, List.set_cons_zero, List.set_cons_succ]
            refine wpAnyE_take 4 (some 95) (.bool false) rfl rfl (by kernel_rfl) (by kernel_rfl) (by kernel_rfl) (by kernel_rfl) (fun _ _ _ h => h) (yields_move rfl _ rfl _ rfl) HBX8.out ?_
            simp only [Act.put, List.setIfInBounds_toArray, List.set_cons_zero, List.set_cons_succ]
            refine wpAnyE_take 5 (some 96) (undef) rfl rfl (by kernel_rfl) (by kernel_rfl) (by kernel_rfl) (by kernel_rfl) (fun _ _ _ h => h) (Or.inr ⟨by rfl, rfl⟩) HBX8.out ?_
            simp only [Act.put, List.setIfInBounds_toArray, List.set_cons_zero, List.set_cons_succ]
            refine wpAnyE_take 6 (some 97) (undef) rfl rfl (by kernel_rfl) (by kernel_rfl) (by kernel_rfl) (by kernel_rfl) (fun _ _ _ h => h) (Or.inr ⟨by rfl, rfl⟩) HBX8.out ?_
            simp only [Act.put, List.setIfInBounds_toArray, List.set_cons_zero, List.set_cons_succ]
            refine wpAnyE_take 7 (some 98) (undef) rfl rfl (by kernel_rfl) (by kernel_rfl) (by kernel_rfl) (by kernel_rfl) (fun _ _ _ h => h) (Or.inr ⟨by rfl, rfl⟩) HBX8.out ?_
            simp only [Act.put, List.setIfInBounds_toArray, List.set_cons_zero, List.set_cons_succ]
            refine wpAnyE_take 8 (some 99) (undef) rfl rfl (by kernel_rfl) (by kernel_rfl) (by kernel_rfl) (by kernel_rfl) (fun _ _ _ h => h) (Or.inr ⟨by rfl, rfl⟩) HBX8.out ?_
            simp only [Act.put, List.setIfInBounds_toArray, List.set_cons_zero, List.set_cons_succ]
            refine wpAnyE_take 9 (some 100) (.bool false) rfl rfl (by kernel_rfl) (by kernel_rfl) (by kernel_rfl) (by kernel_rfl) (fun _ _ _ h => h) (Or.inl ⟨by rfl, fun w _ => by go_simp⟩) HBX8.out ?_
            simp only [Act.put, List.setIfInBounds_toArray, List.set_cons_zero, List.set_cons_succ]
            obtain ⟨r0, r1, r2, r3, r4, r5, r6⟩ := cell_seven HRS8.out
            have f0 := HRS8.out.frozen 0
            have f1 := HRS8.out.frozen 1
            have f2 := HRS8.out.frozen 2
            have f3 := HRS8.out.frozen 3
            have f4 := HRS8.out.frozen 4
            have f5 := HRS8.out.frozen 5
            have f6 := HRS8.out.frozen 6
            have hs := put7_stp W8 rs (.string (st k)) (.string (st i)) (.string (st b)) (.string (st u)) (.string (st t)) (.int .i64 m) (.slice aa xs.length cc)
            have HFIN := Lib.hid (HRS8.out.put7 (.string (st k)) (.string (st i)) (.string (st b)) (.string (st u)) (.string (st t)) (.int .i64 m) (.slice aa xs.length cc))
            have HBX9 := Lib.hid (HBX8.out.stp hs (by have := HRB.out; simp; omega))
            have HROW9 := Lib.hid (HROW8.out.stp0 hs (fun _ p hp => by have h1 := HUA.out p hp; have h2 := HRB.out; simp; omega))
            have HBF := Lib.hid (HBW8.out.trans (hs.below (fun kk hk => by rw [List.mem_singleton] at hk; rw [hk]; exact HRW.out) HBW8.out.size))
            clear hs
            refine wpAnyE_oneG 10 (by kernel_rfl) rfl (by rfl) (fun K hK => ?_)
            go_simp
            try go_wp2_with fail
            refine hK.out _ _ HBX9.out ?_
            clear hK K
            try simp only [Act.put, List.setIfInBounds_toArray, List.set_cons_zero, List.set_cons_succ]
            refine wpAnyE_oneG 11 (by kernel_rfl) rfl (by rfl) (fun K hK => ?_)
            go_simp
            try go_wp2_with fail
            refine hK.out _ _ HBX9.out ?_
            clear hK K
            try simp only [Act.put, List.setIfInBounds_toArray, List.set_cons_zero, List.set_cons_succ]
            refine wpAnyE_done (by kernel_rfl) ?_ _
            clear r0 r1 r2 r3 r4 r5 r6 f0 f1 f2 f3 f4 f5 f6 HBX8 HROW8 HRS8 HBW8
            go_wp2
            exact bodyPost_ret (cmd_ret2 rfl rs rfl HFIN.out rfl) rfl (by unfold RcPost18; exact ⟨⟨k, i, b, u, t, m, xs⟩, aa, cc, false, rfl, HROW9.out, HCP.out, HBF.out, .inr ⟨rfl, fun h => hR0 (by rw [HRE.out, ← HDC.out]; exact h.1)⟩⟩)
end Go.Proofs.YtkflakeocdlinaaGreatDoor
