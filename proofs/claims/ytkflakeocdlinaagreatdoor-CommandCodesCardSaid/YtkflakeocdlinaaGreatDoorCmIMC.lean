/-
  Contract of command.read.
-/
import Derived.Test.YtkflakeocdlinaaGreatDoorMC08
import Derived.Test.YtkflakeocdlinaaGreatDoorMC06
namespace Go.Proofs.YtkflakeocdlinaaGreatDoor
open Go.RowKit Go.Deep

/-- what read answers -/
def RdPost (c : Cm) (a0 : Option Addr) (w : World) (e : Ending) (w' : World) : Prop :=
  ∃ a cp, e = .returned (.agg #[.string (st c.kind), .string (st c.id), .string (st c.about), .string (st c.cur), .string (st c.cat), .int .i64 c.amt, .slice a c.sh.length cp]) ∧ RowG 2 cSh w' a c.sh ∧ c.sh.length ≤ cp ∧ Below w.heap.size w w' ∧ (a = a0 ∨ ∀ p, a = some p → w.heap.size ≤ p.block)

/-- rows of none stand anywhere -/
theorem RowG.stp0 {fp : List Nat} {w w' : World} {a : Option Addr} {xs : List Sh} (h : RowG 2 cSh w a xs) (hs : Stp fp w w') (hn : 0 < xs.length → ∀ p, a = some p → p.block ∉ fp) : RowG 2 cSh w' a xs := fun h0 => h.stp hs (hn h0) h0
/-- the result is laid down -/
theorem rd_last {w w2 : World} {rs : Nat} {c : Cm} {a : Option Addr} {cp : Nat} {q0 q1 q2 q3 q4 q5 q6 : Value} {v0 v1 v2 v3 v4 v5 v6 : Value} (HR : Blk w2 rs 24 #[q0, q1, q2, q3, q4, q5, q6]) (hB : Below w.heap.size w w2) (hrs : w.heap.size ≤ rs) (hrow : RowG 2 cSh w2 a c.sh) (hn : 0 < c.sh.length → ∀ p, a = some p → p.block ≠ rs) (hc : c.sh.length ≤ cp) :
    Blk (((((((w2.setCell ⟨rs, 0, none⟩ v0).setCell ⟨rs, 1, none⟩ v1).setCell ⟨rs, 2, none⟩ v2).setCell ⟨rs, 3, none⟩ v3).setCell ⟨rs, 4, none⟩ v4).setCell ⟨rs, 5, none⟩ v5).setCell ⟨rs, 6, none⟩ v6) rs 24 #[v0, v1, v2, v3, v4, v5, v6] ∧
    RowG 2 cSh (((((((w2.setCell ⟨rs, 0, none⟩ v0).setCell ⟨rs, 1, none⟩ v1).setCell ⟨rs, 2, none⟩ v2).setCell ⟨rs, 3, none⟩ v3).setCell ⟨rs, 4, none⟩ v4).setCell ⟨rs, 5, none⟩ v5).setCell ⟨rs, 6, none⟩ v6) a c.sh ∧ c.sh.length ≤ cp ∧
    Below w.heap.size w (((((((w2.setCell ⟨rs, 0, none⟩ v0).setCell ⟨rs, 1, none⟩ v1).setCell ⟨rs, 2, none⟩ v2).setCell ⟨rs, 3, none⟩ v3).setCell ⟨rs, 4, none⟩ v4).setCell ⟨rs, 5, none⟩ v5).setCell ⟨rs, 6, none⟩ v6) := by
  have hs := put7_stp w2 rs v0 v1 v2 v3 v4 v5 v6
  exact ⟨HR.put7 _ _ _ _ _ _ _, hrow.stp0 hs (fun h0 p hp => by simpa using hn h0 p hp), hc, hB.trans (hs.below (fun kk hk => by rw [List.mem_singleton] at hk; rw [hk]; exact hrs) hB.size)⟩
theorem row_off {w : World} {a : Option Addr} {xs : List Sh} (h : RowG 2 cSh w a xs) (h0 : 0 < xs.length) : ∀ p, a = some p → p.block < w.heap.size := by
  obtain ⟨b, off, e, hc⟩ := h h0
  obtain ⟨x, hx⟩ : ∃ x, xs[0]? = some x := ⟨_, List.getElem?_eq_getElem h0⟩
  intro p hp
  rw [e] at hp
  injection hp with hp
  subst hp
  have := hc 0 x hx 0 _ rfl
  exact World.block_lt_of_cell? w _ this

set_option maxHeartbeats 3200000 in
theorem rd_0 (k i b u t : List UInt8) (m : Int) (a : Option Addr) (cp : Nat) (xs : List Sh) (x0 : List UInt8) (W : List (List UInt8)) (b1 off cw : Nat) (w : World) (hrw : RowS w (some ⟨b1, off, none⟩) (x0 :: W)) (hlen : (x0 :: W).length ≤ 1000) (hwl : ∀ x ∈ x0 :: W, x.length ≤ 100000) (hv : Vars w) (hr : RowG 2 cSh w a xs) (hc : xs.length ≤ cp) :
    Calls Tryz.prog 39 #[.agg #[.string (st k), .string (st i), .string (st b), .string (st u), .string (st t), .int .i64 m, .slice a xs.length cp], .int .i64 0, .slice (some ⟨b1, off, none⟩) (x0 :: W).length cw] w (RdPost ⟨k, x0, b, u, t, m, xs⟩ a w) := by
  have h0 : w.cell? ⟨b1, off, none⟩ = some (.string (st x0)) := by
    obtain ⟨b', off', e, hcell⟩ := hrw (by simp)
    simp only [Option.some.injEq, Addr.mk.injEq, and_true] at e
    obtain ⟨rfl, rfl⟩ := e
    simpa using hcell 0 x0 rfl
  have hb0 : Below w.heap.size w ((w.alloc (.cells #[.string (st k), .string (st i), .string (st b), .string (st u), .string (st t), .int .i64 m, .slice a xs.length cp] 24)).alloc (.cells #[.string ⟨#[]⟩, .string ⟨#[]⟩, .string ⟨#[]⟩, .string ⟨#[]⟩, .string ⟨#[]⟩, .int .i64 0, .slice none 0 0] 24)) := ((Below.refl _ w).alloc (Nat.le_refl _) _).alloc (by simp) _
  have HB0 := Lib.hid hb0
  have HBX : Hid (Blk ((w.alloc (.cells #[.string (st k), .string (st i), .string (st b), .string (st u), .string (st t), .int .i64 m, .slice a xs.length cp] 24)).alloc (.cells #[.string ⟨#[]⟩, .string ⟨#[]⟩, .string ⟨#[]⟩, .string ⟨#[]⟩, .string ⟨#[]⟩, .int .i64 0, .slice none 0 0] 24)) w.heap.size 24 #[.string (st k), .string (st i), .string (st b), .string (st u), .string (st t), .int .i64 m, .slice a xs.length cp]) := (Blk.new w _ _).alloc _
  have HRS : Hid (Blk ((w.alloc (.cells #[.string (st k), .string (st i), .string (st b), .string (st u), .string (st t), .int .i64 m, .slice a xs.length cp] 24)).alloc (.cells #[.string ⟨#[]⟩, .string ⟨#[]⟩, .string ⟨#[]⟩, .string ⟨#[]⟩, .string ⟨#[]⟩, .int .i64 0, .slice none 0 0] 24)) (w.heap.size + 1) 24 #[.string ⟨#[]⟩, .string ⟨#[]⟩, .string ⟨#[]⟩, .string ⟨#[]⟩, .string ⟨#[]⟩, .int .i64 0, .slice none 0 0]) := blk_twoC _ _ _ _
  have c0 : ((w.alloc (.cells #[.string (st k), .string (st i), .string (st b), .string (st u), .string (st t), .int .i64 m, .slice a xs.length cp] 24)).alloc (.cells #[.string ⟨#[]⟩, .string ⟨#[]⟩, .string ⟨#[]⟩, .string ⟨#[]⟩, .string ⟨#[]⟩, .int .i64 0, .slice none 0 0] 24)).cell? ⟨b1, off, none⟩ = some (.string (st x0)) := cell_keepV h0 hb0
  have hx0 := hwl x0 (by simp)
  have HCL : ∀ W', Hid (Calls Tryz.prog 38 #[.string (st x0)] W' fun e w' => e = .returned (.string (st x0)) ∧ Below W'.heap.size W' w') := fun W' => sclone_any (st x0) W' (by rw [st_size]; omega)
  have HR := Lib.hid hr
  have HC := Lib.hid hc
  have HV := Lib.hid hv
  have HRW := Lib.hid hrw
  have HWL := Lib.hid hwl
  have HLEN := Lib.hid hlen
  obtain ⟨n, hn⟩ : ∃ n, n = xs.length := ⟨_, rfl⟩
  have HN := Lib.hid hn
  have hnw : 0 < W.length + 1 := by omega
  rw [List.length_cons] at hlen ⊢
  rw [← hn] at HBX HB0 HRS c0 ⊢
  obtain ⟨lw, hlw⟩ : ∃ lw, lw = W.length + 1 := ⟨_, rfl⟩
  have HLW := Lib.hid hlw
  rw [← hlw] at hnw hlen ⊢
  clear hr hc hv hrw hwl hn hb0 h0 hlw
  unfold RdPost
  go_enter Tryz.func39, Tryz.ntmps39
  go_upto_region 1 with fail
  obtain ⟨rs, hrs⟩ : ∃ rs, rs = w.heap.size + 1 := ⟨_, rfl⟩
  rw [← hrs] at HRS ⊢
  obtain ⟨bx, hbx⟩ : ∃ bx, bx = w.heap.size := ⟨_, rfl⟩
  have HE := Lib.hid hbx
  have HNE : Hid (bx ≠ rs) := by show _ ≠ _; omega
  have HRL : Hid (w.heap.size ≤ rs) := by show _ ≤ _; omega
  rw [← hbx] at HBX HB0 ⊢
  generalize (w.alloc (.cells #[.string (st k), .string (st i), .string (st b), .string (st u), .string (st t), .int .i64 m, .slice a n cp] 24)).alloc (.cells #[.string ⟨#[]⟩, .string ⟨#[]⟩, .string ⟨#[]⟩, .string ⟨#[]⟩, .string ⟨#[]⟩, .int .i64 0, .slice none 0 0] 24) = w0 at HBX HB0 HRS c0 ⊢
  clear hbx hrs
  go_wp2_with fail
  refine (HCL _).out.mono ?_
  rintro e w1 ⟨rfl, hb⟩
  have HBX1 := Lib.hid (HBX.out.since hb)
  have HRS1 := Lib.hid (HRS.out.since hb)
  have HB1 : Hid (Below w.heap.size w w1) := by
    have h := bel_onG (show Below w.heap.size w w0 by rw [← HE.out]; exact HB0.out) (by have := HB0.out.size; have := HE.out; omega) hb
    exact h
  clear hb c0 HBX HRS HB0 HCL
  have f0 := HBX1.out.frozen 1
  obtain ⟨d0, d1, d2, d3, d4, d5, d6⟩ := cell_seven HBX1.out
  have HBX9 : Hid (Blk (w1.setCell ⟨bx, 1, none⟩ (.string (st x0))) bx 24 #[.string (st k), .string (st x0), .string (st b), .string (st u), .string (st t), .int .i64 m, .slice a n cp]) := by
    have h := HBX1.out.set 1 (.string (st x0))
    simp only [List.setIfInBounds_toArray, List.set_cons_zero, List.set_cons_succ] at h
    exact h
  have HRS9 : Hid (Blk (w1.setCell ⟨bx, 1, none⟩ (.string (st x0))) rs 24 #[.string ⟨#[]⟩, .string ⟨#[]⟩, .string ⟨#[]⟩, .string ⟨#[]⟩, .string ⟨#[]⟩, .int .i64 0, .slice none 0 0]) := HRS1.out.other (fun e => HNE.out e.symm) _
  have HB9 : Hid (Below w.heap.size w (w1.setCell ⟨bx, 1, none⟩ (.string (st x0)))) := HB1.out.setCell (by have := HE.out; show _ ≤ bx; omega) _
  clear HBX1 HRS1 HB1
  go_upto_region 20 with fail
  generalize w1.setCell ⟨bx, 1, none⟩ (.string (st x0)) = w9 at HBX9 HRS9 HB9 ⊢
  clear f0 d0 d1 d2 d3 d4 d5 d6
  obtain ⟨d0, d1, d2, d3, d4, d5, d6⟩ := cell_seven HBX9.out
  obtain ⟨r0, r1, r2, r3, r4, r5, r6⟩ := cell_seven HRS9.out
  have f0 := HRS9.out.frozen 0
  have f1 := HRS9.out.frozen 1
  have f2 := HRS9.out.frozen 2
  have f3 := HRS9.out.frozen 3
  have f4 := HRS9.out.frozen 4
  have f5 := HRS9.out.frozen 5
  have f6 := HRS9.out.frozen 6
  go_wp2
  have hcn : n ≤ cp := by have := HC.out; rw [← HN.out] at this; exact this
  obtain ⟨e1, e2, e3, e4⟩ := rd_last (c := ⟨k, x0, b, u, t, m, xs⟩) (a := a) (cp := cp) HRS9.out HB9.out HRL.out (HR.out.keep HB9.out) (fun hz p hp => by have h1 := row_off HR.out hz p hp; have h2 := HRL.out; omega) (by simp only; rw [← HN.out]; exact hcn)
  exact bodyPost_ret (cmd_ret1 rfl rs rfl e1) rfl ⟨a, cp, by rw [HN.out], e2, e3, e4, .inl rfl⟩

set_option maxHeartbeats 3200000 in
theorem rd_1 (k i b u t : List UInt8) (m : Int) (a : Option Addr) (cp : Nat) (xs : List Sh) (x0 : List UInt8) (W : List (List UInt8)) (b1 off cw : Nat) (w : World) (hrw : RowS w (some ⟨b1, off, none⟩) (x0 :: W)) (hlen : (x0 :: W).length ≤ 1000) (hwl : ∀ x ∈ x0 :: W, x.length ≤ 100000) (hv : Vars w) (hr : RowG 2 cSh w a xs) (hc : xs.length ≤ cp) :
    Calls Tryz.prog 39 #[.agg #[.string (st k), .string (st i), .string (st b), .string (st u), .string (st t), .int .i64 m, .slice a xs.length cp], .int .i64 1, .slice (some ⟨b1, off, none⟩) (x0 :: W).length cw] w (RdPost ⟨k, i, x0, u, t, m, xs⟩ a w) := by
  have h0 : w.cell? ⟨b1, off, none⟩ = some (.string (st x0)) := by
    obtain ⟨b', off', e, hcell⟩ := hrw (by simp)
    simp only [Option.some.injEq, Addr.mk.injEq, and_true] at e
    obtain ⟨rfl, rfl⟩ := e
    simpa using hcell 0 x0 rfl
  have hb0 : Below w.heap.size w ((w.alloc (.cells #[.string (st k), .string (st i), .string (st b), .string (st u), .string (st t), .int .i64 m, .slice a xs.length cp] 24)).alloc (.cells #[.string ⟨#[]⟩, .string ⟨#[]⟩, .string ⟨#[]⟩, .string ⟨#[]⟩, .string ⟨#[]⟩, .int .i64 0, .slice none 0 0] 24)) := ((Below.refl _ w).alloc (Nat.le_refl _) _).alloc (by simp) _
  have HB0 := Lib.hid hb0
  have HBX : Hid (Blk ((w.alloc (.cells #[.string (st k), .string (st i), .string (st b), .string (st u), .string (st t), .int .i64 m, .slice a xs.length cp] 24)).alloc (.cells #[.string ⟨#[]⟩, .string ⟨#[]⟩, .string ⟨#[]⟩, .string ⟨#[]⟩, .string ⟨#[]⟩, .int .i64 0, .slice none 0 0] 24)) w.heap.size 24 #[.string (st k), .string (st i), .string (st b), .string (st u), .string (st t), .int .i64 m, .slice a xs.length cp]) := (Blk.new w _ _).alloc _
  have HRS : Hid (Blk ((w.alloc (.cells #[.string (st k), .string (st i), .string (st b), .string (st u), .string (st t), .int .i64 m, .slice a xs.length cp] 24)).alloc (.cells #[.string ⟨#[]⟩, .string ⟨#[]⟩, .string ⟨#[]⟩, .string ⟨#[]⟩, .string ⟨#[]⟩, .int .i64 0, .slice none 0 0] 24)) (w.heap.size + 1) 24 #[.string ⟨#[]⟩, .string ⟨#[]⟩, .string ⟨#[]⟩, .string ⟨#[]⟩, .string ⟨#[]⟩, .int .i64 0, .slice none 0 0]) := blk_twoC _ _ _ _
  have c0 : ((w.alloc (.cells #[.string (st k), .string (st i), .string (st b), .string (st u), .string (st t), .int .i64 m, .slice a xs.length cp] 24)).alloc (.cells #[.string ⟨#[]⟩, .string ⟨#[]⟩, .string ⟨#[]⟩, .string ⟨#[]⟩, .string ⟨#[]⟩, .int .i64 0, .slice none 0 0] 24)).cell? ⟨b1, off, none⟩ = some (.string (st x0)) := cell_keepV h0 hb0
  have hx0 := hwl x0 (by simp)
  have HCL : ∀ W', Hid (Calls Tryz.prog 38 #[.string (st x0)] W' fun e w' => e = .returned (.string (st x0)) ∧ Below W'.heap.size W' w') := fun W' => sclone_any (st x0) W' (by rw [st_size]; omega)
  have HR := Lib.hid hr
  have HC := Lib.hid hc
  have HV := Lib.hid hv
  have HRW := Lib.hid hrw
  have HWL := Lib.hid hwl
  have HLEN := Lib.hid hlen
  obtain ⟨n, hn⟩ : ∃ n, n = xs.length := ⟨_, rfl⟩
  have HN := Lib.hid hn
  have hnw : 0 < W.length + 1 := by omega
  rw [List.length_cons] at hlen ⊢
  rw [← hn] at HBX HB0 HRS c0 ⊢
  obtain ⟨lw, hlw⟩ : ∃ lw, lw = W.length + 1 := ⟨_, rfl⟩
  have HLW := Lib.hid hlw
  rw [← hlw] at hnw hlen ⊢
  clear hr hc hv hrw hwl hn hb0 h0 hlw
  unfold RdPost
  go_enter Tryz.func39, Tryz.ntmps39
  go_upto_region 1 with fail
  obtain ⟨rs, hrs⟩ : ∃ rs, rs = w.heap.size + 1 := ⟨_, rfl⟩
  rw [← hrs] at HRS ⊢
  obtain ⟨bx, hbx⟩ : ∃ bx, bx = w.heap.size := ⟨_, rfl⟩
  have HE := Lib.hid hbx
  have HNE : Hid (bx ≠ rs) := by show _ ≠ _; omega
  have HRL : Hid (w.heap.size ≤ rs) := by show _ ≤ _; omega
  rw [← hbx] at HBX HB0 ⊢
  generalize (w.alloc (.cells #[.string (st k), .string (st i), .string (st b), .string (st u), .string (st t), .int .i64 m, .slice a n cp] 24)).alloc (.cells #[.string ⟨#[]⟩, .string ⟨#[]⟩, .string ⟨#[]⟩, .string ⟨#[]⟩, .string ⟨#[]⟩, .int .i64 0, .slice none 0 0] 24) = w0 at HBX HB0 HRS c0 ⊢
  clear hbx hrs
  go_wp2_with fail
  refine (HCL _).out.mono ?_
  rintro e w1 ⟨rfl, hb⟩
  have HBX1 := Lib.hid (HBX.out.since hb)
  have HRS1 := Lib.hid (HRS.out.since hb)
  have HB1 : Hid (Below w.heap.size w w1) := by
    have h := bel_onG (show Below w.heap.size w w0 by rw [← HE.out]; exact HB0.out) (by have := HB0.out.size; have := HE.out; omega) hb
    exact h
  clear hb c0 HBX HRS HB0 HCL
  have f0 := HBX1.out.frozen 2
  obtain ⟨d0, d1, d2, d3, d4, d5, d6⟩ := cell_seven HBX1.out
  have HBX9 : Hid (Blk (w1.setCell ⟨bx, 2, none⟩ (.string (st x0))) bx 24 #[.string (st k), .string (st i), .string (st x0), .string (st u), .string (st t), .int .i64 m, .slice a n cp]) := by
    have h := HBX1.out.set 2 (.string (st x0))
    simp only [List.setIfInBounds_toArray, List.set_cons_zero, List.set_cons_succ] at h
    exact h
  have HRS9 : Hid (Blk (w1.setCell ⟨bx, 2, none⟩ (.string (st x0))) rs 24 #[.string ⟨#[]⟩, .string ⟨#[]⟩, .string ⟨#[]⟩, .string ⟨#[]⟩, .string ⟨#[]⟩, .int .i64 0, .slice none 0 0]) := HRS1.out.other (fun e => HNE.out e.symm) _
  have HB9 : Hid (Below w.heap.size w (w1.setCell ⟨bx, 2, none⟩ (.string (st x0)))) := HB1.out.setCell (by have := HE.out; show _ ≤ bx; omega) _
  clear HBX1 HRS1 HB1
  go_upto_region 20 with fail
  generalize w1.setCell ⟨bx, 2, none⟩ (.string (st x0)) = w9 at HBX9 HRS9 HB9 ⊢
  clear f0 d0 d1 d2 d3 d4 d5 d6
  obtain ⟨d0, d1, d2, d3, d4, d5, d6⟩ := cell_seven HBX9.out
  obtain ⟨r0, r1, r2, r3, r4, r5, r6⟩ := cell_seven HRS9.out
  have f0 := HRS9.out.frozen 0
  have f1 := HRS9.out.frozen 1
  have f2 := HRS9.out.frozen 2
  have f3 := HRS9.out.frozen 3
  have f4 := HRS9.out.frozen 4
  have f5 := HRS9.out.frozen 5
  have f6 := HRS9.out.frozen 6
  go_wp2
  have hcn : n ≤ cp := by have := HC.out; rw [← HN.out] at this; exact this
  obtain ⟨e1, e2, e3, e4⟩ := rd_last (c := ⟨k, i, x0, u, t, m, xs⟩) (a := a) (cp := cp) HRS9.out HB9.out HRL.out (HR.out.keep HB9.out) (fun hz p hp => by have h1 := row_off HR.out hz p hp; have h2 := HRL.out; omega) (by simp only; rw [← HN.out]; exact hcn)
  exact bodyPost_ret (cmd_ret1 rfl rs rfl e1) rfl ⟨a, cp, by rw [HN.out], e2, e3, e4, .inl rfl⟩

set_option maxHeartbeats 3200000 in
theorem rd_2 (k i b u t : List UInt8) (m : Int) (a : Option Addr) (cp : Nat) (xs : List Sh) (x0 : List UInt8) (W : List (List UInt8)) (b1 off cw : Nat) (w : World) (hrw : RowS w (some ⟨b1, off, none⟩) (x0 :: W)) (hlen : (x0 :: W).length ≤ 1000) (hwl : ∀ x ∈ x0 :: W, x.length ≤ 100000) (hv : Vars w) (hr : RowG 2 cSh w a xs) (hc : xs.length ≤ cp) :
    Calls Tryz.prog 39 #[.agg #[.string (st k), .string (st i), .string (st b), .string (st u), .string (st t), .int .i64 m, .slice a xs.length cp], .int .i64 2, .slice (some ⟨b1, off, none⟩) (x0 :: W).length cw] w (RdPost ⟨k, i, x0, u, t, m, xs⟩ a w) := by
  have h0 : w.cell? ⟨b1, off, none⟩ = some (.string (st x0)) := by
    obtain ⟨b', off', e, hcell⟩ := hrw (by simp)
    simp only [Option.some.injEq, Addr.mk.injEq, and_true] at e
    obtain ⟨rfl, rfl⟩ := e
    simpa using hcell 0 x0 rfl
  have hb0 : Below w.heap.size w ((w.alloc (.cells #[.string (st k), .string (st i), .string (st b), .string (st u), .string (st t), .int .i64 m, .slice a xs.length cp] 24)).alloc (.cells #[.string ⟨#[]⟩, .string ⟨#[]⟩, .string ⟨#[]⟩, .string ⟨#[]⟩, .string ⟨#[]⟩, .int .i64 0, .slice none 0 0] 24)) := ((Below.refl _ w).alloc (Nat.le_refl _) _).alloc (by simp) _
  have HB0 := Lib.hid hb0
  have HBX : Hid (Blk ((w.alloc (.cells #[.string (st k), .string (st i), .string (st b), .string (st u), .string (st t), .int .i64 m, .slice a xs.length cp] 24)).alloc (.cells #[.string ⟨#[]⟩, .string ⟨#[]⟩, .string ⟨#[]⟩, .string ⟨#[]⟩, .string ⟨#[]⟩, .int .i64 0, .slice none 0 0] 24)) w.heap.size 24 #[.string (st k), .string (st i), .string (st b), .string (st u), .string (st t), .int .i64 m, .slice a xs.length cp]) := (Blk.new w _ _).alloc _
  have HRS : Hid (Blk ((w.alloc (.cells #[.string (st k), .string (st i), .string (st b), .string (st u), .string (st t), .int .i64 m, .slice a xs.length cp] 24)).alloc (.cells #[.string ⟨#[]⟩, .string ⟨#[]⟩, .string ⟨#[]⟩, .string ⟨#[]⟩, .string ⟨#[]⟩, .int .i64 0, .slice none 0 0] 24)) (w.heap.size + 1) 24 #[.string ⟨#[]⟩, .string ⟨#[]⟩, .string ⟨#[]⟩, .string ⟨#[]⟩, .string ⟨#[]⟩, .int .i64 0, .slice none 0 0]) := blk_twoC _ _ _ _
  have c0 : ((w.alloc (.cells #[.string (st k), .string (st i), .string (st b), .string (st u), .string (st t), .int .i64 m, .slice a xs.length cp] 24)).alloc (.cells #[.string ⟨#[]⟩, .string ⟨#[]⟩, .string ⟨#[]⟩, .string ⟨#[]⟩, .string ⟨#[]⟩, .int .i64 0, .slice none 0 0] 24)).cell? ⟨b1, off, none⟩ = some (.string (st x0)) := cell_keepV h0 hb0
  have hx0 := hwl x0 (by simp)
  have HCL : ∀ W', Hid (Calls Tryz.prog 38 #[.string (st x0)] W' fun e w' => e = .returned (.string (st x0)) ∧ Below W'.heap.size W' w') := fun W' => sclone_any (st x0) W' (by rw [st_size]; omega)
  have HR := Lib.hid hr
  have HC := Lib.hid hc
  have HV := Lib.hid hv
  have HRW := Lib.hid hrw
  have HWL := Lib.hid hwl
  have HLEN := Lib.hid hlen
  obtain ⟨n, hn⟩ : ∃ n, n = xs.length := ⟨_, rfl⟩
  have HN := Lib.hid hn
  have hnw : 0 < W.length + 1 := by omega
  rw [List.length_cons] at hlen ⊢
  rw [← hn] at HBX HB0 HRS c0 ⊢
  obtain ⟨lw, hlw⟩ : ∃ lw, lw = W.length + 1 := ⟨_, rfl⟩
  have HLW := Lib.hid hlw
  rw [← hlw] at hnw hlen ⊢
  clear hr hc hv hrw hwl hn hb0 h0 hlw
  unfold RdPost
  go_enter Tryz.func39, Tryz.ntmps39
  go_upto_region 1 with fail
  obtain ⟨rs, hrs⟩ : ∃ rs, rs = w.heap.size + 1 := ⟨_, rfl⟩
  rw [← hrs] at HRS ⊢
  obtain ⟨bx, hbx⟩ : ∃ bx, bx = w.heap.size := ⟨_, rfl⟩
  have HE := Lib.hid hbx
  have HNE : Hid (bx ≠ rs) := by show _ ≠ _; omega
  have HRL : Hid (w.heap.size ≤ rs) := by show _ ≤ _; omega
  rw [← hbx] at HBX HB0 ⊢
  generalize (w.alloc (.cells #[.string (st k), .string (st i), .string (st b), .string (st u), .string (st t), .int .i64 m, .slice a n cp] 24)).alloc (.cells #[.string ⟨#[]⟩, .string ⟨#[]⟩, .string ⟨#[]⟩, .string ⟨#[]⟩, .string ⟨#[]⟩, .int .i64 0, .slice none 0 0] 24) = w0 at HBX HB0 HRS c0 ⊢
  clear hbx hrs
  go_wp2_with fail
  refine (HCL _).out.mono ?_
  rintro e w1 ⟨rfl, hb⟩
  have HBX1 := Lib.hid (HBX.out.since hb)
  have HRS1 := Lib.hid (HRS.out.since hb)
  have HB1 : Hid (Below w.heap.size w w1) := by
    have h := bel_onG (show Below w.heap.size w w0 by rw [← HE.out]; exact HB0.out) (by have := HB0.out.size; have := HE.out; omega) hb
    exact h
  clear hb c0 HBX HRS HB0 HCL
  have f0 := HBX1.out.frozen 2
  obtain ⟨d0, d1, d2, d3, d4, d5, d6⟩ := cell_seven HBX1.out
  have HBX9 : Hid (Blk (w1.setCell ⟨bx, 2, none⟩ (.string (st x0))) bx 24 #[.string (st k), .string (st i), .string (st x0), .string (st u), .string (st t), .int .i64 m, .slice a n cp]) := by
    have h := HBX1.out.set 2 (.string (st x0))
    simp only [List.setIfInBounds_toArray, List.set_cons_zero, List.set_cons_succ] at h
    exact h
  have HRS9 : Hid (Blk (w1.setCell ⟨bx, 2, none⟩ (.string (st x0))) rs 24 #[.string ⟨#[]⟩, .string ⟨#[]⟩, .string ⟨#[]⟩, .string ⟨#[]⟩, .string ⟨#[]⟩, .int .i64 0, .slice none 0 0]) := HRS1.out.other (fun e => HNE.out e.symm) _
  have HB9 : Hid (Below w.heap.size w (w1.setCell ⟨bx, 2, none⟩ (.string (st x0)))) := HB1.out.setCell (by have := HE.out; show _ ≤ bx; omega) _
  clear HBX1 HRS1 HB1
  go_upto_region 20 with fail
  generalize w1.setCell ⟨bx, 2, none⟩ (.string (st x0)) = w9 at HBX9 HRS9 HB9 ⊢
  clear f0 d0 d1 d2 d3 d4 d5 d6
  obtain ⟨d0, d1, d2, d3, d4, d5, d6⟩ := cell_seven HBX9.out
  obtain ⟨r0, r1, r2, r3, r4, r5, r6⟩ := cell_seven HRS9.out
  have f0 := HRS9.out.frozen 0
  have f1 := HRS9.out.frozen 1
  have f2 := HRS9.out.frozen 2
  have f3 := HRS9.out.frozen 3
  have f4 := HRS9.out.frozen 4
  have f5 := HRS9.out.frozen 5
  have f6 := HRS9.out.frozen 6
  go_wp2
  have hcn : n ≤ cp := by have := HC.out; rw [← HN.out] at this; exact this
  obtain ⟨e1, e2, e3, e4⟩ := rd_last (c := ⟨k, i, x0, u, t, m, xs⟩) (a := a) (cp := cp) HRS9.out HB9.out HRL.out (HR.out.keep HB9.out) (fun hz p hp => by have h1 := row_off HR.out hz p hp; have h2 := HRL.out; omega) (by simp only; rw [← HN.out]; exact hcn)
  exact bodyPost_ret (cmd_ret1 rfl rs rfl e1) rfl ⟨a, cp, by rw [HN.out], e2, e3, e4, .inl rfl⟩

set_option maxHeartbeats 3200000 in
theorem rd_3 (k i b u t : List UInt8) (m : Int) (a : Option Addr) (cp : Nat) (xs : List Sh) (x0 : List UInt8) (W : List (List UInt8)) (b1 off cw : Nat) (w : World) (hrw : RowS w (some ⟨b1, off, none⟩) (x0 :: W)) (hlen : (x0 :: W).length ≤ 1000) (hwl : ∀ x ∈ x0 :: W, x.length ≤ 100000) (hv : Vars w) (hr : RowG 2 cSh w a xs) (hc : xs.length ≤ cp) :
    Calls Tryz.prog 39 #[.agg #[.string (st k), .string (st i), .string (st b), .string (st u), .string (st t), .int .i64 m, .slice a xs.length cp], .int .i64 3, .slice (some ⟨b1, off, none⟩) (x0 :: W).length cw] w (RdPost ⟨k, i, b, x0, t, m, xs⟩ a w) := by
  have h0 : w.cell? ⟨b1, off, none⟩ = some (.string (st x0)) := by
    obtain ⟨b', off', e, hcell⟩ := hrw (by simp)
    simp only [Option.some.injEq, Addr.mk.injEq, and_true] at e
    obtain ⟨rfl, rfl⟩ := e
    simpa using hcell 0 x0 rfl
  have hb0 : Below w.heap.size w ((w.alloc (.cells #[.string (st k), .string (st i), .string (st b), .string (st u), .string (st t), .int .i64 m, .slice a xs.length cp] 24)).alloc (.cells #[.string ⟨#[]⟩, .string ⟨#[]⟩, .string ⟨#[]⟩, .string ⟨#[]⟩, .string ⟨#[]⟩, .int .i64 0, .slice none 0 0] 24)) := ((Below.refl _ w).alloc (Nat.le_refl _) _).alloc (by simp) _
  have HB0 := Lib.hid hb0
  have HBX : Hid (Blk ((w.alloc (.cells #[.string (st k), .string (st i), .string (st b), .string (st u), .string (st t), .int .i64 m, .slice a xs.length cp] 24)).alloc (.cells #[.string ⟨#[]⟩, .string ⟨#[]⟩, .string ⟨#[]⟩, .string ⟨#[]⟩, .string ⟨#[]⟩, .int .i64 0, .slice none 0 0] 24)) w.heap.size 24 #[.string (st k), .string (st i), .string (st b), .string (st u), .string (st t), .int .i64 m, .slice a xs.length cp]) := (Blk.new w _ _).alloc _
  have HRS : Hid (Blk ((w.alloc (.cells #[.string (st k), .string (st i), .string (st b), .string (st u), .string (st t), .int .i64 m, .slice a xs.length cp] 24)).alloc (.cells #[.string ⟨#[]⟩, .string ⟨#[]⟩, .string ⟨#[]⟩, .string ⟨#[]⟩, .string ⟨#[]⟩, .int .i64 0, .slice none 0 0] 24)) (w.heap.size + 1) 24 #[.string ⟨#[]⟩, .string ⟨#[]⟩, .string ⟨#[]⟩, .string ⟨#[]⟩, .string ⟨#[]⟩, .int .i64 0, .slice none 0 0]) := blk_twoC _ _ _ _
  have c0 : ((w.alloc (.cells #[.string (st k), .string (st i), .string (st b), .string (st u), .string (st t), .int .i64 m, .slice a xs.length cp] 24)).alloc (.cells #[.string ⟨#[]⟩, .string ⟨#[]⟩, .string ⟨#[]⟩, .string ⟨#[]⟩, .string ⟨#[]⟩, .int .i64 0, .slice none 0 0] 24)).cell? ⟨b1, off, none⟩ = some (.string (st x0)) := cell_keepV h0 hb0
  have hx0 := hwl x0 (by simp)
  have HCL : ∀ W', Hid (Calls Tryz.prog 38 #[.string (st x0)] W' fun e w' => e = .returned (.string (st x0)) ∧ Below W'.heap.size W' w') := fun W' => sclone_any (st x0) W' (by rw [st_size]; omega)
  have HR := Lib.hid hr
  have HC := Lib.hid hc
  have HV := Lib.hid hv
  have HRW := Lib.hid hrw
  have HWL := Lib.hid hwl
  have HLEN := Lib.hid hlen
  obtain ⟨n, hn⟩ : ∃ n, n = xs.length := ⟨_, rfl⟩
  have HN := Lib.hid hn
  have hnw : 0 < W.length + 1 := by omega
  rw [List.length_cons] at hlen ⊢
  rw [← hn] at HBX HB0 HRS c0 ⊢
  obtain ⟨lw, hlw⟩ : ∃ lw, lw = W.length + 1 := ⟨_, rfl⟩
  have HLW := Lib.hid hlw
  rw [← hlw] at hnw hlen ⊢
  clear hr hc hv hrw hwl hn hb0 h0 hlw
  unfold RdPost
  go_enter Tryz.func39, Tryz.ntmps39
  go_upto_region 1 with fail
  obtain ⟨rs, hrs⟩ : ∃ rs, rs = w.heap.size + 1 := ⟨_, rfl⟩
  rw [← hrs] at HRS ⊢
  obtain ⟨bx, hbx⟩ : ∃ bx, bx = w.heap.size := ⟨_, rfl⟩
  have HE := Lib.hid hbx
  have HNE : Hid (bx ≠ rs) := by show _ ≠ _; omega
  have HRL : Hid (w.heap.size ≤ rs) := by show _ ≤ _; omega
  rw [← hbx] at HBX HB0 ⊢
  generalize (w.alloc (.cells #[.string (st k), .string (st i), .string (st b), .string (st u), .string (st t), .int .i64 m, .slice a n cp] 24)).alloc (.cells #[.string ⟨#[]⟩, .string ⟨#[]⟩, .string ⟨#[]⟩, .string ⟨#[]⟩, .string ⟨#[]⟩, .int .i64 0, .slice none 0 0] 24) = w0 at HBX HB0 HRS c0 ⊢
  clear hbx hrs
  go_wp2_with fail
  refine (HCL _).out.mono ?_
  rintro e w1 ⟨rfl, hb⟩
  have HBX1 := Lib.hid (HBX.out.since hb)
  have HRS1 := Lib.hid (HRS.out.since hb)
  have HB1 : Hid (Below w.heap.size w w1) := by
    have h := bel_onG (show Below w.heap.size w w0 by rw [← HE.out]; exact HB0.out) (by have := HB0.out.size; have := HE.out; omega) hb
    exact h
  clear hb c0 HBX HRS HB0 HCL
  have f0 := HBX1.out.frozen 3
  obtain ⟨d0, d1, d2, d3, d4, d5, d6⟩ := cell_seven HBX1.out
  have HBX9 : Hid (Blk (w1.setCell ⟨bx, 3, none⟩ (.string (st x0))) bx 24 #[.string (st k), .string (st i), .string (st b), .string (st x0), .string (st t), .int .i64 m, .slice a n cp]) := by
    have h := HBX1.out.set 3 (.string (st x0))
    simp only [List.setIfInBounds_toArray, List.set_cons_zero, List.set_cons_succ] at h
    exact h
  have HRS9 : Hid (Blk (w1.setCell ⟨bx, 3, none⟩ (.string (st x0))) rs 24 #[.string ⟨#[]⟩, .string ⟨#[]⟩, .string ⟨#[]⟩, .string ⟨#[]⟩, .string ⟨#[]⟩, .int .i64 0, .slice none 0 0]) := HRS1.out.other (fun e => HNE.out e.symm) _
  have HB9 : Hid (Below w.heap.size w (w1.setCell ⟨bx, 3, none⟩ (.string (st x0)))) := HB1.out.setCell (by have := HE.out; show _ ≤ bx; omega) _
  clear HBX1 HRS1 HB1
  go_upto_region 20 with fail
  generalize w1.setCell ⟨bx, 3, none⟩ (.string (st x0)) = w9 at HBX9 HRS9 HB9 ⊢
  clear f0 d0 d1 d2 d3 d4 d5 d6
  obtain ⟨d0, d1, d2, d3, d4, d5, d6⟩ := cell_seven HBX9.out
  obtain ⟨r0, r1, r2, r3, r4, r5, r6⟩ := cell_seven HRS9.out
  have f0 := HRS9.out.frozen 0
  have f1 := HRS9.out.frozen 1
  have f2 := HRS9.out.frozen 2
  have f3 := HRS9.out.frozen 3
  have f4 := HRS9.out.frozen 4
  have f5 := HRS9.out.frozen 5
  have f6 := HRS9.out.frozen 6
  go_wp2
  have hcn : n ≤ cp := by have := HC.out; rw [← HN.out] at this; exact this
  obtain ⟨e1, e2, e3, e4⟩ := rd_last (c := ⟨k, i, b, x0, t, m, xs⟩) (a := a) (cp := cp) HRS9.out HB9.out HRL.out (HR.out.keep HB9.out) (fun hz p hp => by have h1 := row_off HR.out hz p hp; have h2 := HRL.out; omega) (by simp only; rw [← HN.out]; exact hcn)
  exact bodyPost_ret (cmd_ret1 rfl rs rfl e1) rfl ⟨a, cp, by rw [HN.out], e2, e3, e4, .inl rfl⟩

set_option maxHeartbeats 3200000 in
theorem rd_5 (k i b u t : List UInt8) (m : Int) (a : Option Addr) (cp : Nat) (xs : List Sh) (x0 : List UInt8) (W : List (List UInt8)) (b1 off cw : Nat) (w : World) (hrw : RowS w (some ⟨b1, off, none⟩) (x0 :: W)) (hlen : (x0 :: W).length ≤ 1000) (hwl : ∀ x ∈ x0 :: W, x.length ≤ 100000) (hv : Vars w) (hr : RowG 2 cSh w a xs) (hc : xs.length ≤ cp) :
    Calls Tryz.prog 39 #[.agg #[.string (st k), .string (st i), .string (st b), .string (st u), .string (st t), .int .i64 m, .slice a xs.length cp], .int .i64 5, .slice (some ⟨b1, off, none⟩) (x0 :: W).length cw] w (RdPost ⟨k, i, b, u, x0, m, xs⟩ a w) := by
  have h0 : w.cell? ⟨b1, off, none⟩ = some (.string (st x0)) := by
    obtain ⟨b', off', e, hcell⟩ := hrw (by simp)
    simp only [Option.some.injEq, Addr.mk.injEq, and_true] at e
    obtain ⟨rfl, rfl⟩ := e
    simpa using hcell 0 x0 rfl
  have hb0 : Below w.heap.size w ((w.alloc (.cells #[.string (st k), .string (st i), .string (st b), .string (st u), .string (st t), .int .i64 m, .slice a xs.length cp] 24)).alloc (.cells #[.string ⟨#[]⟩, .string ⟨#[]⟩, .string ⟨#[]⟩, .string ⟨#[]⟩, .string ⟨#[]⟩, .int .i64 0, .slice none 0 0] 24)) := ((Below.refl _ w).alloc (Nat.le_refl _) _).alloc (by simp) _
  have HB0 := Lib.hid hb0
  have HBX : Hid (Blk ((w.alloc (.cells #[.string (st k), .string (st i), .string (st b), .string (st u), .string (st t), .int .i64 m, .slice a xs.length cp] 24)).alloc (.cells #[.string ⟨#[]⟩, .string ⟨#[]⟩, .string ⟨#[]⟩, .string ⟨#[]⟩, .string ⟨#[]⟩, .int .i64 0, .slice none 0 0] 24)) w.heap.size 24 #[.string (st k), .string (st i), .string (st b), .string (st u), .string (st t), .int .i64 m, .slice a xs.length cp]) := (Blk.new w _ _).alloc _
  have HRS : Hid (Blk ((w.alloc (.cells #[.string (st k), .string (st i), .string (st b), .string (st u), .string (st t), .int .i64 m, .slice a xs.length cp] 24)).alloc (.cells #[.string ⟨#[]⟩, .string ⟨#[]⟩, .string ⟨#[]⟩, .string ⟨#[]⟩, .string ⟨#[]⟩, .int .i64 0, .slice none 0 0] 24)) (w.heap.size + 1) 24 #[.string ⟨#[]⟩, .string ⟨#[]⟩, .string ⟨#[]⟩, .string ⟨#[]⟩, .string ⟨#[]⟩, .int .i64 0, .slice none 0 0]) := blk_twoC _ _ _ _
  have c0 : ((w.alloc (.cells #[.string (st k), .string (st i), .string (st b), .string (st u), .string (st t), .int .i64 m, .slice a xs.length cp] 24)).alloc (.cells #[.string ⟨#[]⟩, .string ⟨#[]⟩, .string ⟨#[]⟩, .string ⟨#[]⟩, .string ⟨#[]⟩, .int .i64 0, .slice none 0 0] 24)).cell? ⟨b1, off, none⟩ = some (.string (st x0)) := cell_keepV h0 hb0
  have hx0 := hwl x0 (by simp)
  have HCL : ∀ W', Hid (Calls Tryz.prog 38 #[.string (st x0)] W' fun e w' => e = .returned (.string (st x0)) ∧ Below W'.heap.size W' w') := fun W' => sclone_any (st x0) W' (by rw [st_size]; omega)
  have HR := Lib.hid hr
  have HC := Lib.hid hc
  have HV := Lib.hid hv
  have HRW := Lib.hid hrw
  have HWL := Lib.hid hwl
  have HLEN := Lib.hid hlen
  obtain ⟨n, hn⟩ : ∃ n, n = xs.length := ⟨_, rfl⟩
  have HN := Lib.hid hn
  have hnw : 0 < W.length + 1 := by omega
  rw [List.length_cons] at hlen ⊢
  rw [← hn] at HBX HB0 HRS c0 ⊢
  obtain ⟨lw, hlw⟩ : ∃ lw, lw = W.length + 1 := ⟨_, rfl⟩
  have HLW := Lib.hid hlw
  rw [← hlw] at hnw hlen ⊢
  clear hr hc hv hrw hwl hn hb0 h0 hlw
  unfold RdPost
  go_enter Tryz.func39, Tryz.ntmps39
  go_upto_region 1 with fail
  obtain ⟨rs, hrs⟩ : ∃ rs, rs = w.heap.size + 1 := ⟨_, rfl⟩
  rw [← hrs] at HRS ⊢
  obtain ⟨bx, hbx⟩ : ∃ bx, bx = w.heap.size := ⟨_, rfl⟩
  have HE := Lib.hid hbx
  have HNE : Hid (bx ≠ rs) := by show _ ≠ _; omega
  have HRL : Hid (w.heap.size ≤ rs) := by show _ ≤ _; omega
  rw [← hbx] at HBX HB0 ⊢
  generalize (w.alloc (.cells #[.string (st k), .string (st i), .string (st b), .string (st u), .string (st t), .int .i64 m, .slice a n cp] 24)).alloc (.cells #[.string ⟨#[]⟩, .string ⟨#[]⟩, .string ⟨#[]⟩, .string ⟨#[]⟩, .string ⟨#[]⟩, .int .i64 0, .slice none 0 0] 24) = w0 at HBX HB0 HRS c0 ⊢
  clear hbx hrs
  go_wp2_with fail
  refine (HCL _).out.mono ?_
  rintro e w1 ⟨rfl, hb⟩
  have HBX1 := Lib.hid (HBX.out.since hb)
  have HRS1 := Lib.hid (HRS.out.since hb)
  have HB1 : Hid (Below w.heap.size w w1) := by
    have h := bel_onG (show Below w.heap.size w w0 by rw [← HE.out]; exact HB0.out) (by have := HB0.out.size; have := HE.out; omega) hb
    exact h
  clear hb c0 HBX HRS HB0 HCL
  have f0 := HBX1.out.frozen 4
  obtain ⟨d0, d1, d2, d3, d4, d5, d6⟩ := cell_seven HBX1.out
  have HBX9 : Hid (Blk (w1.setCell ⟨bx, 4, none⟩ (.string (st x0))) bx 24 #[.string (st k), .string (st i), .string (st b), .string (st u), .string (st x0), .int .i64 m, .slice a n cp]) := by
    have h := HBX1.out.set 4 (.string (st x0))
    simp only [List.setIfInBounds_toArray, List.set_cons_zero, List.set_cons_succ] at h
    exact h
  have HRS9 : Hid (Blk (w1.setCell ⟨bx, 4, none⟩ (.string (st x0))) rs 24 #[.string ⟨#[]⟩, .string ⟨#[]⟩, .string ⟨#[]⟩, .string ⟨#[]⟩, .string ⟨#[]⟩, .int .i64 0, .slice none 0 0]) := HRS1.out.other (fun e => HNE.out e.symm) _
  have HB9 : Hid (Below w.heap.size w (w1.setCell ⟨bx, 4, none⟩ (.string (st x0)))) := HB1.out.setCell (by have := HE.out; show _ ≤ bx; omega) _
  clear HBX1 HRS1 HB1
  go_upto_region 20 with fail
  generalize w1.setCell ⟨bx, 4, none⟩ (.string (st x0)) = w9 at HBX9 HRS9 HB9 ⊢
  clear f0 d0 d1 d2 d3 d4 d5 d6
  obtain ⟨d0, d1, d2, d3, d4, d5, d6⟩ := cell_seven HBX9.out
  obtain ⟨r0, r1, r2, r3, r4, r5, r6⟩ := cell_seven HRS9.out
  have f0 := HRS9.out.frozen 0
  have f1 := HRS9.out.frozen 1
  have f2 := HRS9.out.frozen 2
  have f3 := HRS9.out.frozen 3
  have f4 := HRS9.out.frozen 4
  have f5 := HRS9.out.frozen 5
  have f6 := HRS9.out.frozen 6
  go_wp2
  have hcn : n ≤ cp := by have := HC.out; rw [← HN.out] at this; exact this
  obtain ⟨e1, e2, e3, e4⟩ := rd_last (c := ⟨k, i, b, u, x0, m, xs⟩) (a := a) (cp := cp) HRS9.out HB9.out HRL.out (HR.out.keep HB9.out) (fun hz p hp => by have h1 := row_off HR.out hz p hp; have h2 := HRL.out; omega) (by simp only; rw [← HN.out]; exact hcn)
  exact bodyPost_ret (cmd_ret1 rfl rs rfl e1) rfl ⟨a, cp, by rw [HN.out], e2, e3, e4, .inl rfl⟩

set_option maxHeartbeats 3200000 in
theorem rd_4n (k i b u t : List UInt8) (m : Int) (a : Option Addr) (cp : Nat) (xs : List Sh) (x0 : List UInt8) (W : List (List UInt8)) (b1 off cw : Nat) (w : World) (hrw : RowS w (some ⟨b1, off, none⟩) (x0 :: W)) (hlen : (x0 :: W).length ≤ 1000) (hwl : ∀ x ∈ x0 :: W, x.length ≤ 100000) (hv : Vars w) (hr : RowG 2 cSh w a xs) (hc : xs.length ≤ cp) (hd : x0 ≠ [45]) :
    Calls Tryz.prog 39 #[.agg #[.string (st k), .string (st i), .string (st b), .string (st u), .string (st t), .int .i64 m, .slice a xs.length cp], .int .i64 4, .slice (some ⟨b1, off, none⟩) (x0 :: W).length cw] w (RdPost ⟨k, i, b, u, x0, m, xs⟩ a w) := by
  have h0 : w.cell? ⟨b1, off, none⟩ = some (.string (st x0)) := by
    obtain ⟨b', off', e, hcell⟩ := hrw (by simp)
    simp only [Option.some.injEq, Addr.mk.injEq, and_true] at e
    obtain ⟨rfl, rfl⟩ := e
    simpa using hcell 0 x0 rfl
  have hb0 : Below w.heap.size w ((w.alloc (.cells #[.string (st k), .string (st i), .string (st b), .string (st u), .string (st t), .int .i64 m, .slice a xs.length cp] 24)).alloc (.cells #[.string ⟨#[]⟩, .string ⟨#[]⟩, .string ⟨#[]⟩, .string ⟨#[]⟩, .string ⟨#[]⟩, .int .i64 0, .slice none 0 0] 24)) := ((Below.refl _ w).alloc (Nat.le_refl _) _).alloc (by simp) _
  have HB0 := Lib.hid hb0
  have HBX : Hid (Blk ((w.alloc (.cells #[.string (st k), .string (st i), .string (st b), .string (st u), .string (st t), .int .i64 m, .slice a xs.length cp] 24)).alloc (.cells #[.string ⟨#[]⟩, .string ⟨#[]⟩, .string ⟨#[]⟩, .string ⟨#[]⟩, .string ⟨#[]⟩, .int .i64 0, .slice none 0 0] 24)) w.heap.size 24 #[.string (st k), .string (st i), .string (st b), .string (st u), .string (st t), .int .i64 m, .slice a xs.length cp]) := (Blk.new w _ _).alloc _
  have HRS : Hid (Blk ((w.alloc (.cells #[.string (st k), .string (st i), .string (st b), .string (st u), .string (st t), .int .i64 m, .slice a xs.length cp] 24)).alloc (.cells #[.string ⟨#[]⟩, .string ⟨#[]⟩, .string ⟨#[]⟩, .string ⟨#[]⟩, .string ⟨#[]⟩, .int .i64 0, .slice none 0 0] 24)) (w.heap.size + 1) 24 #[.string ⟨#[]⟩, .string ⟨#[]⟩, .string ⟨#[]⟩, .string ⟨#[]⟩, .string ⟨#[]⟩, .int .i64 0, .slice none 0 0]) := blk_twoC _ _ _ _
  have c0 : ((w.alloc (.cells #[.string (st k), .string (st i), .string (st b), .string (st u), .string (st t), .int .i64 m, .slice a xs.length cp] 24)).alloc (.cells #[.string ⟨#[]⟩, .string ⟨#[]⟩, .string ⟨#[]⟩, .string ⟨#[]⟩, .string ⟨#[]⟩, .int .i64 0, .slice none 0 0] 24)).cell? ⟨b1, off, none⟩ = some (.string (st x0)) := cell_keepV h0 hb0
  have hx0 := hwl x0 (by simp)
  have HCL : ∀ W', Hid (Calls Tryz.prog 38 #[.string (st x0)] W' fun e w' => e = .returned (.string (st x0)) ∧ Below W'.heap.size W' w') := fun W' => sclone_any (st x0) W' (by rw [st_size]; omega)
  have HR := Lib.hid hr
  have HC := Lib.hid hc
  have HV := Lib.hid hv
  have HRW := Lib.hid hrw
  have HWL := Lib.hid hwl
  have HLEN := Lib.hid hlen
  obtain ⟨n, hn⟩ : ∃ n, n = xs.length := ⟨_, rfl⟩
  have HN := Lib.hid hn
  have hnw : 0 < W.length + 1 := by omega
  rw [List.length_cons] at hlen ⊢
  rw [← hn] at HBX HB0 HRS c0 ⊢
  obtain ⟨lw, hlw⟩ : ∃ lw, lw = W.length + 1 := ⟨_, rfl⟩
  have HLW := Lib.hid hlw
  rw [← hlw] at hnw hlen ⊢
  clear hr hc hv hrw hwl hn hb0 h0 hlw
  unfold RdPost
  go_enter Tryz.func39, Tryz.ntmps39
  go_upto_region 1 with fail
  obtain ⟨rs, hrs⟩ : ∃ rs, rs = w.heap.size + 1 := ⟨_, rfl⟩
  rw [← hrs] at HRS ⊢
  obtain ⟨bx, hbx⟩ : ∃ bx, bx = w.heap.size := ⟨_, rfl⟩
  have HE := Lib.hid hbx
  have HNE : Hid (bx ≠ rs) := by show _ ≠ _; omega
  have HRL : Hid (w.heap.size ≤ rs) := by show _ ≤ _; omega
  rw [← hbx] at HBX HB0 ⊢
  generalize (w.alloc (.cells #[.string (st k), .string (st i), .string (st b), .string (st u), .string (st t), .int .i64 m, .slice a n cp] 24)).alloc (.cells #[.string ⟨#[]⟩, .string ⟨#[]⟩, .string ⟨#[]⟩, .string ⟨#[]⟩, .string ⟨#[]⟩, .int .i64 0, .slice none 0 0] 24) = w0 at HBX HB0 HRS c0 ⊢
  clear hbx hrs
  have hq := lit_eqA x0 [45]
  rw [decide_eq_false hd] at hq
  clear hd
  go_wp2_with fail
  refine (HCL _).out.mono ?_
  rintro e w1 ⟨rfl, hb⟩
  have HBX1 := Lib.hid (HBX.out.since hb)
  have HRS1 := Lib.hid (HRS.out.since hb)
  have HB1 : Hid (Below w.heap.size w w1) := by
    have h := bel_onG (show Below w.heap.size w w0 by rw [← HE.out]; exact HB0.out) (by have := HB0.out.size; have := HE.out; omega) hb
    exact h
  clear hb c0 HBX HRS HB0 HCL
  have f0 := HBX1.out.frozen 4
  obtain ⟨d0, d1, d2, d3, d4, d5, d6⟩ := cell_seven HBX1.out
  have HBX9 : Hid (Blk (w1.setCell ⟨bx, 4, none⟩ (.string (st x0))) bx 24 #[.string (st k), .string (st i), .string (st b), .string (st u), .string (st x0), .int .i64 m, .slice a n cp]) := by
    have h := HBX1.out.set 4 (.string (st x0))
    simp only [List.setIfInBounds_toArray, List.set_cons_zero, List.set_cons_succ] at h
    exact h
  have HRS9 : Hid (Blk (w1.setCell ⟨bx, 4, none⟩ (.string (st x0))) rs 24 #[.string ⟨#[]⟩, .string ⟨#[]⟩, .string ⟨#[]⟩, .string ⟨#[]⟩, .string ⟨#[]⟩, .int .i64 0, .slice none 0 0]) := HRS1.out.other (fun e => HNE.out e.symm) _
  have HB9 : Hid (Below w.heap.size w (w1.setCell ⟨bx, 4, none⟩ (.string (st x0)))) := HB1.out.setCell (by have := HE.out; show _ ≤ bx; omega) _
  clear HBX1 HRS1 HB1
  go_upto_region 20 with fail
  generalize w1.setCell ⟨bx, 4, none⟩ (.string (st x0)) = w9 at HBX9 HRS9 HB9 ⊢
  clear f0 d0 d1 d2 d3 d4 d5 d6
  obtain ⟨d0, d1, d2, d3, d4, d5, d6⟩ := cell_seven HBX9.out
  obtain ⟨r0, r1, r2, r3, r4, r5, r6⟩ := cell_seven HRS9.out
  have f0 := HRS9.out.frozen 0
  have f1 := HRS9.out.frozen 1
  have f2 := HRS9.out.frozen 2
  have f3 := HRS9.out.frozen 3
  have f4 := HRS9.out.frozen 4
  have f5 := HRS9.out.frozen 5
  have f6 := HRS9.out.frozen 6
  go_wp2
  have hcn : n ≤ cp := by have := HC.out; rw [← HN.out] at this; exact this
  obtain ⟨e1, e2, e3, e4⟩ := rd_last (c := ⟨k, i, b, u, x0, m, xs⟩) (a := a) (cp := cp) HRS9.out HB9.out HRL.out (HR.out.keep HB9.out) (fun hz p hp => by have h1 := row_off HR.out hz p hp; have h2 := HRL.out; omega) (by simp only; rw [← HN.out]; exact hcn)
  exact bodyPost_ret (cmd_ret1 rfl rs rfl e1) rfl ⟨a, cp, by rw [HN.out], e2, e3, e4, .inl rfl⟩

set_option maxHeartbeats 3200000 in
theorem rd_4d (k i b u t : List UInt8) (m : Int) (a : Option Addr) (cp : Nat) (xs : List Sh) (x0 : List UInt8) (W : List (List UInt8)) (b1 off cw : Nat) (w : World) (hrw : RowS w (some ⟨b1, off, none⟩) (x0 :: W)) (hlen : (x0 :: W).length ≤ 1000) (hwl : ∀ x ∈ x0 :: W, x.length ≤ 100000) (hv : Vars w) (hr : RowG 2 cSh w a xs) (hc : xs.length ≤ cp) (hd : x0 = [45]) :
    Calls Tryz.prog 39 #[.agg #[.string (st k), .string (st i), .string (st b), .string (st u), .string (st t), .int .i64 m, .slice a xs.length cp], .int .i64 4, .slice (some ⟨b1, off, none⟩) (x0 :: W).length cw] w (RdPost ⟨k, i, b, u, t, m, xs⟩ a w) := by
  have h0 : w.cell? ⟨b1, off, none⟩ = some (.string (st x0)) := by
    obtain ⟨b', off', e, hcell⟩ := hrw (by simp)
    simp only [Option.some.injEq, Addr.mk.injEq, and_true] at e
    obtain ⟨rfl, rfl⟩ := e
    simpa using hcell 0 x0 rfl
  have hb0 : Below w.heap.size w ((w.alloc (.cells #[.string (st k), .string (st i), .string (st b), .string (st u), .string (st t), .int .i64 m, .slice a xs.length cp] 24)).alloc (.cells #[.string ⟨#[]⟩, .string ⟨#[]⟩, .string ⟨#[]⟩, .string ⟨#[]⟩, .string ⟨#[]⟩, .int .i64 0, .slice none 0 0] 24)) := ((Below.refl _ w).alloc (Nat.le_refl _) _).alloc (by simp) _
  have HB0 := Lib.hid hb0
  have HBX : Hid (Blk ((w.alloc (.cells #[.string (st k), .string (st i), .string (st b), .string (st u), .string (st t), .int .i64 m, .slice a xs.length cp] 24)).alloc (.cells #[.string ⟨#[]⟩, .string ⟨#[]⟩, .string ⟨#[]⟩, .string ⟨#[]⟩, .string ⟨#[]⟩, .int .i64 0, .slice none 0 0] 24)) w.heap.size 24 #[.string (st k), .string (st i), .string (st b), .string (st u), .string (st t), .int .i64 m, .slice a xs.length cp]) := (Blk.new w _ _).alloc _
  have HRS : Hid (Blk ((w.alloc (.cells #[.string (st k), .string (st i), .string (st b), .string (st u), .string (st t), .int .i64 m, .slice a xs.length cp] 24)).alloc (.cells #[.string ⟨#[]⟩, .string ⟨#[]⟩, .string ⟨#[]⟩, .string ⟨#[]⟩, .string ⟨#[]⟩, .int .i64 0, .slice none 0 0] 24)) (w.heap.size + 1) 24 #[.string ⟨#[]⟩, .string ⟨#[]⟩, .string ⟨#[]⟩, .string ⟨#[]⟩, .string ⟨#[]⟩, .int .i64 0, .slice none 0 0]) := blk_twoC _ _ _ _
  have c0 : ((w.alloc (.cells #[.string (st k), .string (st i), .string (st b), .string (st u), .string (st t), .int .i64 m, .slice a xs.length cp] 24)).alloc (.cells #[.string ⟨#[]⟩, .string ⟨#[]⟩, .string ⟨#[]⟩, .string ⟨#[]⟩, .string ⟨#[]⟩, .int .i64 0, .slice none 0 0] 24)).cell? ⟨b1, off, none⟩ = some (.string (st x0)) := cell_keepV h0 hb0
  have hx0 := hwl x0 (by simp)
  have HCL : ∀ W', Hid (Calls Tryz.prog 38 #[.string (st x0)] W' fun e w' => e = .returned (.string (st x0)) ∧ Below W'.heap.size W' w') := fun W' => sclone_any (st x0) W' (by rw [st_size]; omega)
  have HR := Lib.hid hr
  have HC := Lib.hid hc
  have HV := Lib.hid hv
  have HRW := Lib.hid hrw
  have HWL := Lib.hid hwl
  have HLEN := Lib.hid hlen
  obtain ⟨n, hn⟩ : ∃ n, n = xs.length := ⟨_, rfl⟩
  have HN := Lib.hid hn
  have hnw : 0 < W.length + 1 := by omega
  rw [List.length_cons] at hlen ⊢
  rw [← hn] at HBX HB0 HRS c0 ⊢
  obtain ⟨lw, hlw⟩ : ∃ lw, lw = W.length + 1 := ⟨_, rfl⟩
  have HLW := Lib.hid hlw
  rw [← hlw] at hnw hlen ⊢
  clear hr hc hv hrw hwl hn hb0 h0 hlw
  unfold RdPost
  go_enter Tryz.func39, Tryz.ntmps39
  go_upto_region 1 with fail
  obtain ⟨rs, hrs⟩ : ∃ rs, rs = w.heap.size + 1 := ⟨_, rfl⟩
  rw [← hrs] at HRS ⊢
  obtain ⟨bx, hbx⟩ : ∃ bx, bx = w.heap.size := ⟨_, rfl⟩
  have HE := Lib.hid hbx
  have HNE : Hid (bx ≠ rs) := by show _ ≠ _; omega
  have HRL : Hid (w.heap.size ≤ rs) := by show _ ≤ _; omega
  rw [← hbx] at HBX HB0 ⊢
  generalize (w.alloc (.cells #[.string (st k), .string (st i), .string (st b), .string (st u), .string (st t), .int .i64 m, .slice a n cp] 24)).alloc (.cells #[.string ⟨#[]⟩, .string ⟨#[]⟩, .string ⟨#[]⟩, .string ⟨#[]⟩, .string ⟨#[]⟩, .int .i64 0, .slice none 0 0] 24) = w0 at HBX HB0 HRS c0 ⊢
  clear hbx hrs
  have hq := lit_eqA x0 [45]
  rw [decide_eq_true hd] at hq
  clear hd
  go_wp2_with fail
  refine (HCL _).out.mono ?_
  rintro e w1 ⟨rfl, hb⟩
  have HBX1 := Lib.hid (HBX.out.since hb)
  have HRS1 := Lib.hid (HRS.out.since hb)
  have HB1 : Hid (Below w.heap.size w w1) := by
    have h := bel_onG (show Below w.heap.size w w0 by rw [← HE.out]; exact HB0.out) (by have := HB0.out.size; have := HE.out; omega) hb
    exact h
  clear hb c0 HBX HRS HB0 HCL
  go_upto_region 20 with fail
  obtain ⟨d0, d1, d2, d3, d4, d5, d6⟩ := cell_seven HBX1.out
  obtain ⟨r0, r1, r2, r3, r4, r5, r6⟩ := cell_seven HRS1.out
  have f0 := HRS1.out.frozen 0
  have f1 := HRS1.out.frozen 1
  have f2 := HRS1.out.frozen 2
  have f3 := HRS1.out.frozen 3
  have f4 := HRS1.out.frozen 4
  have f5 := HRS1.out.frozen 5
  have f6 := HRS1.out.frozen 6
  go_wp2
  have hcn : n ≤ cp := by have := HC.out; rw [← HN.out] at this; exact this
  obtain ⟨e1, e2, e3, e4⟩ := rd_last (c := ⟨k, i, b, u, t, m, xs⟩) (a := a) (cp := cp) HRS1.out HB1.out HRL.out (HR.out.keep HB1.out) (fun hz p hp => by have h1 := row_off HR.out hz p hp; have h2 := HRL.out; omega) (by simp only; rw [← HN.out]; exact hcn)
  exact bodyPost_ret (cmd_ret1 rfl rs rfl e1) rfl ⟨a, cp, by rw [HN.out], e2, e3, e4, .inl rfl⟩

set_option maxHeartbeats 3200000 in
theorem rd_6 (k i b u t : List UInt8) (m : Int) (a : Option Addr) (cp : Nat) (xs : List Sh) (x0 : List UInt8) (W : List (List UInt8)) (b1 off cw : Nat) (w : World) (hrw : RowS w (some ⟨b1, off, none⟩) (x0 :: W)) (hlen : (x0 :: W).length ≤ 1000) (hwl : ∀ x ∈ x0 :: W, x.length ≤ 100000) (hv : Vars w) (hr : RowG 2 cSh w a xs) (hc : xs.length ≤ cp) :
    Calls Tryz.prog 39 #[.agg #[.string (st k), .string (st i), .string (st b), .string (st u), .string (st t), .int .i64 m, .slice a xs.length cp], .int .i64 6, .slice (some ⟨b1, off, none⟩) (x0 :: W).length cw] w (RdPost ⟨k, i, b, u, t, (numW x0), xs⟩ a w) := by
  have h0 : w.cell? ⟨b1, off, none⟩ = some (.string (st x0)) := by
    obtain ⟨b', off', e, hcell⟩ := hrw (by simp)
    simp only [Option.some.injEq, Addr.mk.injEq, and_true] at e
    obtain ⟨rfl, rfl⟩ := e
    simpa using hcell 0 x0 rfl
  have hb0 : Below w.heap.size w ((w.alloc (.cells #[.string (st k), .string (st i), .string (st b), .string (st u), .string (st t), .int .i64 m, .slice a xs.length cp] 24)).alloc (.cells #[.string ⟨#[]⟩, .string ⟨#[]⟩, .string ⟨#[]⟩, .string ⟨#[]⟩, .string ⟨#[]⟩, .int .i64 0, .slice none 0 0] 24)) := ((Below.refl _ w).alloc (Nat.le_refl _) _).alloc (by simp) _
  have HB0 := Lib.hid hb0
  have HBX : Hid (Blk ((w.alloc (.cells #[.string (st k), .string (st i), .string (st b), .string (st u), .string (st t), .int .i64 m, .slice a xs.length cp] 24)).alloc (.cells #[.string ⟨#[]⟩, .string ⟨#[]⟩, .string ⟨#[]⟩, .string ⟨#[]⟩, .string ⟨#[]⟩, .int .i64 0, .slice none 0 0] 24)) w.heap.size 24 #[.string (st k), .string (st i), .string (st b), .string (st u), .string (st t), .int .i64 m, .slice a xs.length cp]) := (Blk.new w _ _).alloc _
  have HRS : Hid (Blk ((w.alloc (.cells #[.string (st k), .string (st i), .string (st b), .string (st u), .string (st t), .int .i64 m, .slice a xs.length cp] 24)).alloc (.cells #[.string ⟨#[]⟩, .string ⟨#[]⟩, .string ⟨#[]⟩, .string ⟨#[]⟩, .string ⟨#[]⟩, .int .i64 0, .slice none 0 0] 24)) (w.heap.size + 1) 24 #[.string ⟨#[]⟩, .string ⟨#[]⟩, .string ⟨#[]⟩, .string ⟨#[]⟩, .string ⟨#[]⟩, .int .i64 0, .slice none 0 0]) := blk_twoC _ _ _ _
  have c0 : ((w.alloc (.cells #[.string (st k), .string (st i), .string (st b), .string (st u), .string (st t), .int .i64 m, .slice a xs.length cp] 24)).alloc (.cells #[.string ⟨#[]⟩, .string ⟨#[]⟩, .string ⟨#[]⟩, .string ⟨#[]⟩, .string ⟨#[]⟩, .int .i64 0, .slice none 0 0] 24)).cell? ⟨b1, off, none⟩ = some (.string (st x0)) := cell_keepV h0 hb0
  have hx0 := hwl x0 (by simp)
  have HCL : ∀ W', Hid (Calls Tryz.prog 38 #[.string (st x0)] W' fun e w' => e = .returned (.string (st x0)) ∧ Below W'.heap.size W' w') := fun W' => sclone_any (st x0) W' (by rw [st_size]; omega)
  have HR := Lib.hid hr
  have HC := Lib.hid hc
  have HV := Lib.hid hv
  have HRW := Lib.hid hrw
  have HWL := Lib.hid hwl
  have HLEN := Lib.hid hlen
  obtain ⟨n, hn⟩ : ∃ n, n = xs.length := ⟨_, rfl⟩
  have HN := Lib.hid hn
  have hnw : 0 < W.length + 1 := by omega
  rw [List.length_cons] at hlen ⊢
  rw [← hn] at HBX HB0 HRS c0 ⊢
  obtain ⟨lw, hlw⟩ : ∃ lw, lw = W.length + 1 := ⟨_, rfl⟩
  have HLW := Lib.hid hlw
  rw [← hlw] at hnw hlen ⊢
  clear hr hc hv hrw hwl hn hb0 h0 hlw
  unfold RdPost
  go_enter Tryz.func39, Tryz.ntmps39
  go_upto_region 1 with fail
  obtain ⟨rs, hrs⟩ : ∃ rs, rs = w.heap.size + 1 := ⟨_, rfl⟩
  rw [← hrs] at HRS ⊢
  obtain ⟨bx, hbx⟩ : ∃ bx, bx = w.heap.size := ⟨_, rfl⟩
  have HE := Lib.hid hbx
  have HNE : Hid (bx ≠ rs) := by show _ ≠ _; omega
  have HRL : Hid (w.heap.size ≤ rs) := by show _ ≤ _; omega
  rw [← hbx] at HBX HB0 ⊢
  generalize (w.alloc (.cells #[.string (st k), .string (st i), .string (st b), .string (st u), .string (st t), .int .i64 m, .slice a n cp] 24)).alloc (.cells #[.string ⟨#[]⟩, .string ⟨#[]⟩, .string ⟨#[]⟩, .string ⟨#[]⟩, .string ⟨#[]⟩, .int .i64 0, .slice none 0 0] 24) = w0 at HBX HB0 HRS c0 ⊢
  clear hbx hrs
  go_wp2_with fail
  refine (HCL _).out.mono ?_
  rintro e w1 ⟨rfl, hb⟩
  have HBX1 := Lib.hid (HBX.out.since hb)
  have HRS1 := Lib.hid (HRS.out.since hb)
  have HB1 : Hid (Below w.heap.size w w1) := by
    have h := bel_onG (show Below w.heap.size w w0 by rw [← HE.out]; exact HB0.out) (by have := HB0.out.size; have := HE.out; omega) hb
    exact h
  clear hb c0 HBX HRS HB0 HCL
  have HNU : Hid (Calls Tryz.prog 65 #[.string (st x0)] w1 fun e w' => e = .returned (.int .i64 (numW x0)) ∧ Below w1.heap.size w1 w') := number_any x0 w1 hx0 (HV.out.keep HB1.out)
  go_wp2_with fail
  refine HNU.out.mono ?_
  rintro e w2 ⟨rfl, hb⟩
  have HBX2 := Lib.hid (HBX1.out.since hb)
  have HRS2 := Lib.hid (HRS1.out.since hb)
  have HB2 := Lib.hid (bel_onG HB1.out HB1.out.size hb)
  clear hb HBX1 HRS1 HB1 HNU
  have f0 := HBX2.out.frozen 5
  obtain ⟨d0, d1, d2, d3, d4, d5, d6⟩ := cell_seven HBX2.out
  have HBX9 : Hid (Blk (w2.setCell ⟨bx, 5, none⟩ (.int .i64 (numW x0))) bx 24 #[.string (st k), .string (st i), .string (st b), .string (st u), .string (st t), .int .i64 (numW x0), .slice a n cp]) := by
    have h := HBX2.out.set 5 (.int .i64 (numW x0))
    simp only [List.setIfInBounds_toArray, List.set_cons_zero, List.set_cons_succ] at h
    exact h
  have HRS9 : Hid (Blk (w2.setCell ⟨bx, 5, none⟩ (.int .i64 (numW x0))) rs 24 #[.string ⟨#[]⟩, .string ⟨#[]⟩, .string ⟨#[]⟩, .string ⟨#[]⟩, .string ⟨#[]⟩, .int .i64 0, .slice none 0 0]) := HRS2.out.other (fun e => HNE.out e.symm) _
  have HB9 : Hid (Below w.heap.size w (w2.setCell ⟨bx, 5, none⟩ (.int .i64 (numW x0)))) := HB2.out.setCell (by have := HE.out; show _ ≤ bx; omega) _
  clear HBX2 HRS2 HB2
  go_upto_region 20 with fail
  generalize w2.setCell ⟨bx, 5, none⟩ (.int .i64 (numW x0)) = w9 at HBX9 HRS9 HB9 ⊢
  clear f0 d0 d1 d2 d3 d4 d5 d6
  obtain ⟨d0, d1, d2, d3, d4, d5, d6⟩ := cell_seven HBX9.out
  obtain ⟨r0, r1, r2, r3, r4, r5, r6⟩ := cell_seven HRS9.out
  have f0 := HRS9.out.frozen 0
  have f1 := HRS9.out.frozen 1
  have f2 := HRS9.out.frozen 2
  have f3 := HRS9.out.frozen 3
  have f4 := HRS9.out.frozen 4
  have f5 := HRS9.out.frozen 5
  have f6 := HRS9.out.frozen 6
  go_wp2
  have hcn : n ≤ cp := by have := HC.out; rw [← HN.out] at this; exact this
  obtain ⟨e1, e2, e3, e4⟩ := rd_last (c := ⟨k, i, b, u, t, (numW x0), xs⟩) (a := a) (cp := cp) HRS9.out HB9.out HRL.out (HR.out.keep HB9.out) (fun hz p hp => by have h1 := row_off HR.out hz p hp; have h2 := HRL.out; omega) (by simp only; rw [← HN.out]; exact hcn)
  exact bodyPost_ret (cmd_ret1 rfl rs rfl e1) rfl ⟨a, cp, by rw [HN.out], e2, e3, e4, .inl rfl⟩

set_option maxHeartbeats 3200000 in
theorem rd_7 (k i b u t : List UInt8) (m : Int) (a : Option Addr) (cp : Nat) (xs : List Sh) (x0 : List UInt8) (W : List (List UInt8)) (b1 off cw : Nat) (w : World) (hrw : RowS w (some ⟨b1, off, none⟩) (x0 :: W)) (hlen : (x0 :: W).length ≤ 1000) (hwl : ∀ x ∈ x0 :: W, x.length ≤ 100000) (hv : Vars w) (hr : RowG 2 cSh w a xs) (hc : xs.length ≤ cp) :
    Calls Tryz.prog 39 #[.agg #[.string (st k), .string (st i), .string (st b), .string (st u), .string (st t), .int .i64 m, .slice a xs.length cp], .int .i64 7, .slice (some ⟨b1, off, none⟩) (x0 :: W).length cw] w (RdPost ⟨k, i, b, u, t, (numW x0), xs⟩ a w) := by
  have h0 : w.cell? ⟨b1, off, none⟩ = some (.string (st x0)) := by
    obtain ⟨b', off', e, hcell⟩ := hrw (by simp)
    simp only [Option.some.injEq, Addr.mk.injEq, and_true] at e
    obtain ⟨rfl, rfl⟩ := e
    simpa using hcell 0 x0 rfl
  have hb0 : Below w.heap.size w ((w.alloc (.cells #[.string (st k), .string (st i), .string (st b), .string (st u), .string (st t), .int .i64 m, .slice a xs.length cp] 24)).alloc (.cells #[.string ⟨#[]⟩, .string ⟨#[]⟩, .string ⟨#[]⟩, .string ⟨#[]⟩, .string ⟨#[]⟩, .int .i64 0, .slice none 0 0] 24)) := ((Below.refl _ w).alloc (Nat.le_refl _) _).alloc (by simp) _
  have HB0 := Lib.hid hb0
  have HBX : Hid (Blk ((w.alloc (.cells #[.string (st k), .string (st i), .string (st b), .string (st u), .string (st t), .int .i64 m, .slice a xs.length cp] 24)).alloc (.cells #[.string ⟨#[]⟩, .string ⟨#[]⟩, .string ⟨#[]⟩, .string ⟨#[]⟩, .string ⟨#[]⟩, .int .i64 0, .slice none 0 0] 24)) w.heap.size 24 #[.string (st k), .string (st i), .string (st b), .string (st u), .string (st t), .int .i64 m, .slice a xs.length cp]) := (Blk.new w _ _).alloc _
  have HRS : Hid (Blk ((w.alloc (.cells #[.string (st k), .string (st i), .string (st b), .string (st u), .string (st t), .int .i64 m, .slice a xs.length cp] 24)).alloc (.cells #[.string ⟨#[]⟩, .string ⟨#[]⟩, .string ⟨#[]⟩, .string ⟨#[]⟩, .string ⟨#[]⟩, .int .i64 0, .slice none 0 0] 24)) (w.heap.size + 1) 24 #[.string ⟨#[]⟩, .string ⟨#[]⟩, .string ⟨#[]⟩, .string ⟨#[]⟩, .string ⟨#[]⟩, .int .i64 0, .slice none 0 0]) := blk_twoC _ _ _ _
  have c0 : ((w.alloc (.cells #[.string (st k), .string (st i), .string (st b), .string (st u), .string (st t), .int .i64 m, .slice a xs.length cp] 24)).alloc (.cells #[.string ⟨#[]⟩, .string ⟨#[]⟩, .string ⟨#[]⟩, .string ⟨#[]⟩, .string ⟨#[]⟩, .int .i64 0, .slice none 0 0] 24)).cell? ⟨b1, off, none⟩ = some (.string (st x0)) := cell_keepV h0 hb0
  have hx0 := hwl x0 (by simp)
  have HCL : ∀ W', Hid (Calls Tryz.prog 38 #[.string (st x0)] W' fun e w' => e = .returned (.string (st x0)) ∧ Below W'.heap.size W' w') := fun W' => sclone_any (st x0) W' (by rw [st_size]; omega)
  have HR := Lib.hid hr
  have HC := Lib.hid hc
  have HV := Lib.hid hv
  have HRW := Lib.hid hrw
  have HWL := Lib.hid hwl
  have HLEN := Lib.hid hlen
  obtain ⟨n, hn⟩ : ∃ n, n = xs.length := ⟨_, rfl⟩
  have HN := Lib.hid hn
  have hnw : 0 < W.length + 1 := by omega
  rw [List.length_cons] at hlen ⊢
  rw [← hn] at HBX HB0 HRS c0 ⊢
  obtain ⟨lw, hlw⟩ : ∃ lw, lw = W.length + 1 := ⟨_, rfl⟩
  have HLW := Lib.hid hlw
  rw [← hlw] at hnw hlen ⊢
  clear hr hc hv hrw hwl hn hb0 h0 hlw
  unfold RdPost
  go_enter Tryz.func39, Tryz.ntmps39
  go_upto_region 1 with fail
  obtain ⟨rs, hrs⟩ : ∃ rs, rs = w.heap.size + 1 := ⟨_, rfl⟩
  rw [← hrs] at HRS ⊢
  obtain ⟨bx, hbx⟩ : ∃ bx, bx = w.heap.size := ⟨_, rfl⟩
  have HE := Lib.hid hbx
  have HNE : Hid (bx ≠ rs) := by show _ ≠ _; omega
  have HRL : Hid (w.heap.size ≤ rs) := by show _ ≤ _; omega
  rw [← hbx] at HBX HB0 ⊢
  generalize (w.alloc (.cells #[.string (st k), .string (st i), .string (st b), .string (st u), .string (st t), .int .i64 m, .slice a n cp] 24)).alloc (.cells #[.string ⟨#[]⟩, .string ⟨#[]⟩, .string ⟨#[]⟩, .string ⟨#[]⟩, .string ⟨#[]⟩, .int .i64 0, .slice none 0 0] 24) = w0 at HBX HB0 HRS c0 ⊢
  clear hbx hrs
  go_wp2_with fail
  refine (HCL _).out.mono ?_
  rintro e w1 ⟨rfl, hb⟩
  have HBX1 := Lib.hid (HBX.out.since hb)
  have HRS1 := Lib.hid (HRS.out.since hb)
  have HB1 : Hid (Below w.heap.size w w1) := by
    have h := bel_onG (show Below w.heap.size w w0 by rw [← HE.out]; exact HB0.out) (by have := HB0.out.size; have := HE.out; omega) hb
    exact h
  clear hb c0 HBX HRS HB0 HCL
  have HNU : Hid (Calls Tryz.prog 65 #[.string (st x0)] w1 fun e w' => e = .returned (.int .i64 (numW x0)) ∧ Below w1.heap.size w1 w') := number_any x0 w1 hx0 (HV.out.keep HB1.out)
  go_wp2_with fail
  refine HNU.out.mono ?_
  rintro e w2 ⟨rfl, hb⟩
  have HBX2 := Lib.hid (HBX1.out.since hb)
  have HRS2 := Lib.hid (HRS1.out.since hb)
  have HB2 := Lib.hid (bel_onG HB1.out HB1.out.size hb)
  clear hb HBX1 HRS1 HB1 HNU
  have f0 := HBX2.out.frozen 5
  obtain ⟨d0, d1, d2, d3, d4, d5, d6⟩ := cell_seven HBX2.out
  have HBX9 : Hid (Blk (w2.setCell ⟨bx, 5, none⟩ (.int .i64 (numW x0))) bx 24 #[.string (st k), .string (st i), .string (st b), .string (st u), .string (st t), .int .i64 (numW x0), .slice a n cp]) := by
    have h := HBX2.out.set 5 (.int .i64 (numW x0))
    simp only [List.setIfInBounds_toArray, List.set_cons_zero, List.set_cons_succ] at h
    exact h
  have HRS9 : Hid (Blk (w2.setCell ⟨bx, 5, none⟩ (.int .i64 (numW x0))) rs 24 #[.string ⟨#[]⟩, .string ⟨#[]⟩, .string ⟨#[]⟩, .string ⟨#[]⟩, .string ⟨#[]⟩, .int .i64 0, .slice none 0 0]) := HRS2.out.other (fun e => HNE.out e.symm) _
  have HB9 : Hid (Below w.heap.size w (w2.setCell ⟨bx, 5, none⟩ (.int .i64 (numW x0)))) := HB2.out.setCell (by have := HE.out; show _ ≤ bx; omega) _
  clear HBX2 HRS2 HB2
  go_upto_region 20 with fail
  generalize w2.setCell ⟨bx, 5, none⟩ (.int .i64 (numW x0)) = w9 at HBX9 HRS9 HB9 ⊢
  clear f0 d0 d1 d2 d3 d4 d5 d6
  obtain ⟨d0, d1, d2, d3, d4, d5, d6⟩ := cell_seven HBX9.out
  obtain ⟨r0, r1, r2, r3, r4, r5, r6⟩ := cell_seven HRS9.out
  have f0 := HRS9.out.frozen 0
  have f1 := HRS9.out.frozen 1
  have f2 := HRS9.out.frozen 2
  have f3 := HRS9.out.frozen 3
  have f4 := HRS9.out.frozen 4
  have f5 := HRS9.out.frozen 5
  have f6 := HRS9.out.frozen 6
  go_wp2
  have hcn : n ≤ cp := by have := HC.out; rw [← HN.out] at this; exact this
  obtain ⟨e1, e2, e3, e4⟩ := rd_last (c := ⟨k, i, b, u, t, (numW x0), xs⟩) (a := a) (cp := cp) HRS9.out HB9.out HRL.out (HR.out.keep HB9.out) (fun hz p hp => by have h1 := row_off HR.out hz p hp; have h2 := HRL.out; omega) (by simp only; rw [← HN.out]; exact hcn)
  exact bodyPost_ret (cmd_ret1 rfl rs rfl e1) rfl ⟨a, cp, by rw [HN.out], e2, e3, e4, .inl rfl⟩

set_option maxHeartbeats 3200000 in
theorem rd_8 (k i b u t : List UInt8) (m : Int) (a : Option Addr) (cp : Nat) (xs : List Sh) (x0 : List UInt8) (W : List (List UInt8)) (b1 off cw : Nat) (w : World) (hrw : RowS w (some ⟨b1, off, none⟩) (x0 :: W)) (hlen : (x0 :: W).length ≤ 1000) (hwl : ∀ x ∈ x0 :: W, x.length ≤ 100000) (hv : Vars w) (hr : RowG 2 cSh w a xs) (hc : xs.length ≤ cp) :
    Calls Tryz.prog 39 #[.agg #[.string (st k), .string (st i), .string (st b), .string (st u), .string (st t), .int .i64 m, .slice a xs.length cp], .int .i64 8, .slice (some ⟨b1, off, none⟩) (x0 :: W).length cw] w (RdPost ⟨k, i, b, u, t, m, ((x0 :: W).map shW)⟩ a w) := by
  have h0 : w.cell? ⟨b1, off, none⟩ = some (.string (st x0)) := by
    obtain ⟨b', off', e, hcell⟩ := hrw (by simp)
    simp only [Option.some.injEq, Addr.mk.injEq, and_true] at e
    obtain ⟨rfl, rfl⟩ := e
    simpa using hcell 0 x0 rfl
  have hb0 : Below w.heap.size w ((w.alloc (.cells #[.string (st k), .string (st i), .string (st b), .string (st u), .string (st t), .int .i64 m, .slice a xs.length cp] 24)).alloc (.cells #[.string ⟨#[]⟩, .string ⟨#[]⟩, .string ⟨#[]⟩, .string ⟨#[]⟩, .string ⟨#[]⟩, .int .i64 0, .slice none 0 0] 24)) := ((Below.refl _ w).alloc (Nat.le_refl _) _).alloc (by simp) _
  have HB0 := Lib.hid hb0
  have HBX : Hid (Blk ((w.alloc (.cells #[.string (st k), .string (st i), .string (st b), .string (st u), .string (st t), .int .i64 m, .slice a xs.length cp] 24)).alloc (.cells #[.string ⟨#[]⟩, .string ⟨#[]⟩, .string ⟨#[]⟩, .string ⟨#[]⟩, .string ⟨#[]⟩, .int .i64 0, .slice none 0 0] 24)) w.heap.size 24 #[.string (st k), .string (st i), .string (st b), .string (st u), .string (st t), .int .i64 m, .slice a xs.length cp]) := (Blk.new w _ _).alloc _
  have HRS : Hid (Blk ((w.alloc (.cells #[.string (st k), .string (st i), .string (st b), .string (st u), .string (st t), .int .i64 m, .slice a xs.length cp] 24)).alloc (.cells #[.string ⟨#[]⟩, .string ⟨#[]⟩, .string ⟨#[]⟩, .string ⟨#[]⟩, .string ⟨#[]⟩, .int .i64 0, .slice none 0 0] 24)) (w.heap.size + 1) 24 #[.string ⟨#[]⟩, .string ⟨#[]⟩, .string ⟨#[]⟩, .string ⟨#[]⟩, .string ⟨#[]⟩, .int .i64 0, .slice none 0 0]) := blk_twoC _ _ _ _
  have c0 : ((w.alloc (.cells #[.string (st k), .string (st i), .string (st b), .string (st u), .string (st t), .int .i64 m, .slice a xs.length cp] 24)).alloc (.cells #[.string ⟨#[]⟩, .string ⟨#[]⟩, .string ⟨#[]⟩, .string ⟨#[]⟩, .string ⟨#[]⟩, .int .i64 0, .slice none 0 0] 24)).cell? ⟨b1, off, none⟩ = some (.string (st x0)) := cell_keepV h0 hb0
  have hx0 := hwl x0 (by simp)
  have HCL : ∀ W', Hid (Calls Tryz.prog 38 #[.string (st x0)] W' fun e w' => e = .returned (.string (st x0)) ∧ Below W'.heap.size W' w') := fun W' => sclone_any (st x0) W' (by rw [st_size]; omega)
  have HR := Lib.hid hr
  have HC := Lib.hid hc
  have HV := Lib.hid hv
  have HRW := Lib.hid hrw
  have HWL := Lib.hid hwl
  have HLEN := Lib.hid hlen
  obtain ⟨n, hn⟩ : ∃ n, n = xs.length := ⟨_, rfl⟩
  have HN := Lib.hid hn
  have hnw : 0 < W.length + 1 := by omega
  rw [List.length_cons] at hlen ⊢
  rw [← hn] at HBX HB0 HRS c0 ⊢
  obtain ⟨lw, hlw⟩ : ∃ lw, lw = W.length + 1 := ⟨_, rfl⟩
  have HLW := Lib.hid hlw
  rw [← hlw] at hnw hlen ⊢
  clear hr hc hv hrw hwl hn hb0 h0 hlw
  unfold RdPost
  go_enter Tryz.func39, Tryz.ntmps39
  go_upto_region 1 with fail
  obtain ⟨rs, hrs⟩ : ∃ rs, rs = w.heap.size + 1 := ⟨_, rfl⟩
  rw [← hrs] at HRS ⊢
  obtain ⟨bx, hbx⟩ : ∃ bx, bx = w.heap.size := ⟨_, rfl⟩
  have HE := Lib.hid hbx
  have HNE : Hid (bx ≠ rs) := by show _ ≠ _; omega
  have HRL : Hid (w.heap.size ≤ rs) := by show _ ≤ _; omega
  rw [← hbx] at HBX HB0 ⊢
  generalize (w.alloc (.cells #[.string (st k), .string (st i), .string (st b), .string (st u), .string (st t), .int .i64 m, .slice a n cp] 24)).alloc (.cells #[.string ⟨#[]⟩, .string ⟨#[]⟩, .string ⟨#[]⟩, .string ⟨#[]⟩, .string ⟨#[]⟩, .int .i64 0, .slice none 0 0] 24) = w0 at HBX HB0 HRS c0 ⊢
  clear hbx hrs
  go_wp2_with fail
  refine (HCL _).out.mono ?_
  rintro e w1 ⟨rfl, hb⟩
  have HBX1 := Lib.hid (HBX.out.since hb)
  have HRS1 := Lib.hid (HRS.out.since hb)
  have HB1 : Hid (Below w.heap.size w w1) := by
    have h := bel_onG (show Below w.heap.size w w0 by rw [← HE.out]; exact HB0.out) (by have := HB0.out.size; have := HE.out; omega) hb
    exact h
  clear hb c0 HBX HRS HB0 HCL
  have HNU : Hid (Calls Tryz.prog 66 #[.slice (some ⟨b1, off, none⟩) lw cw] w1 (RsPost (x0 :: W) w1)) := by
    have h := readShares_any (some ⟨b1, off, none⟩) cw (x0 :: W) w1 (HRW.out.keep HB1.out) HLEN.out HWL.out (HV.out.keep HB1.out)
    rw [List.length_cons, ← HLW.out] at h
    exact h
  go_wp2_with fail
  refine HNU.out.mono ?_
  rintro e w2 ⟨g, he, hrow, hgl, hb⟩
  rw [List.length_cons, ← HLW.out] at he
  subst he
  have HBX2 := Lib.hid (HBX1.out.since hb)
  have HRS2 := Lib.hid (HRS1.out.since hb)
  have HB2 := Lib.hid (bel_onG HB1.out HB1.out.size hb)
  have HROW := Lib.hid hrow
  have HGW : Hid (w.heap.size ≤ g) := Nat.le_trans HB1.out.size hgl
  have HGB : Hid (g ≠ bx) := by have := HBX1.out.lt; show _ ≠ _; omega
  have HGR : Hid (g ≠ rs) := by have := HRS1.out.lt; show _ ≠ _; omega
  clear hb HBX1 HRS1 HB1 HNU hrow hgl
  have f0 := HBX2.out.frozen 6
  obtain ⟨d0, d1, d2, d3, d4, d5, d6⟩ := cell_seven HBX2.out
  have HBX9 : Hid (Blk (w2.setCell ⟨bx, 6, none⟩ (.slice (some ⟨g, 0, none⟩) lw lw)) bx 24 #[.string (st k), .string (st i), .string (st b), .string (st u), .string (st t), .int .i64 m, .slice (some ⟨g, 0, none⟩) lw lw]) := by
    have h := HBX2.out.set 6 (.slice (some ⟨g, 0, none⟩) lw lw)
    simp only [List.setIfInBounds_toArray, List.set_cons_zero, List.set_cons_succ] at h
    exact h
  have HRS9 : Hid (Blk (w2.setCell ⟨bx, 6, none⟩ (.slice (some ⟨g, 0, none⟩) lw lw)) rs 24 #[.string ⟨#[]⟩, .string ⟨#[]⟩, .string ⟨#[]⟩, .string ⟨#[]⟩, .string ⟨#[]⟩, .int .i64 0, .slice none 0 0]) := HRS2.out.other (fun e => HNE.out e.symm) _
  have HB9 : Hid (Below w.heap.size w (w2.setCell ⟨bx, 6, none⟩ (.slice (some ⟨g, 0, none⟩) lw lw))) := HB2.out.setCell (by have := HE.out; show _ ≤ bx; omega) _
  have HRO : Hid (RowG 2 cSh (w2.setCell ⟨bx, 6, none⟩ (.slice (some ⟨g, 0, none⟩) lw lw)) (some ⟨g, 0, none⟩) ((x0 :: W).map shW)) := HROW.out.stp (Stp.setCell (fp := [bx]) (Stp.refl _ _) (.inl (by simp)) _) (fun p hp => by injection hp with hp; rw [← hp]; simpa using HGB.out)
  clear HBX2 HRS2 HB2
  go_upto_region 20 with fail
  generalize w2.setCell ⟨bx, 6, none⟩ (.slice (some ⟨g, 0, none⟩) lw lw) = w9 at HBX9 HRS9 HB9 HRO ⊢
  clear f0 d0 d1 d2 d3 d4 d5 d6
  obtain ⟨d0, d1, d2, d3, d4, d5, d6⟩ := cell_seven HBX9.out
  obtain ⟨r0, r1, r2, r3, r4, r5, r6⟩ := cell_seven HRS9.out
  have f0 := HRS9.out.frozen 0
  have f1 := HRS9.out.frozen 1
  have f2 := HRS9.out.frozen 2
  have f3 := HRS9.out.frozen 3
  have f4 := HRS9.out.frozen 4
  have f5 := HRS9.out.frozen 5
  have f6 := HRS9.out.frozen 6
  go_wp2
  obtain ⟨e1, e2, e3, e4⟩ := rd_last (c := ⟨k, i, b, u, t, m, ((x0 :: W).map shW)⟩) (a := some ⟨g, 0, none⟩) (cp := lw) HRS9.out HB9.out HRL.out HRO.out (fun _ p hp => by injection hp with hp; rw [← hp]; exact HGR.out) (by simp only [List.length_map, List.length_cons]; rw [HLW.out]; exact Nat.le_refl _)
  exact bodyPost_ret (cmd_ret1 rfl rs rfl e1) rfl ⟨_, _, by simp only [List.length_map, List.length_cons]; rw [HLW.out], e2, e3, e4, .inr (fun p hp => by injection hp with hp; rw [← hp]; exact HGW.out)⟩


/-- ████ THE CONTRACT OF command.read ████ -/
theorem read_any18 (c : Cm) (f : Nat) (a : Option Addr) (cp : Nat) (W : List (List UInt8)) (ad : Option Addr) (cw : Nat) (w : World) (hf : f ≤ 8) (hW : 0 < W.length) (hrw : RowS w ad W) (hlen : W.length ≤ 1000) (hwl : ∀ x ∈ W, x.length ≤ 100000) (hv : Vars w) (hr : RowG 2 cSh w a c.sh) (hc : c.sh.length ≤ cp) :
    Calls Tryz.prog 39 #[.agg #[.string (st c.kind), .string (st c.id), .string (st c.about), .string (st c.cur), .string (st c.cat), .int .i64 c.amt, .slice a c.sh.length cp], .int .i64 (f : Int), .slice ad W.length cw] w (RdPost (readF c f W) a w) := by
  obtain ⟨x0, W', rfl⟩ : ∃ x0 W', W = x0 :: W' := by
    cases W with
    | nil => simp at hW
    | cons x0 W' => exact ⟨x0, W', rfl⟩
  obtain ⟨b1, off, e, _⟩ := hrw hW
  subst e
  match f, hf with
  | 0, _ => exact rd_0 _ _ _ _ _ _ _ _ _ _ _ _ _ _ _ hrw hlen hwl hv hr hc
  | 1, _ => exact rd_1 _ _ _ _ _ _ _ _ _ _ _ _ _ _ _ hrw hlen hwl hv hr hc
  | 2, _ => exact rd_2 _ _ _ _ _ _ _ _ _ _ _ _ _ _ _ hrw hlen hwl hv hr hc
  | 3, _ => exact rd_3 _ _ _ _ _ _ _ _ _ _ _ _ _ _ _ hrw hlen hwl hv hr hc
  | 4, _ =>
    by_cases hd : x0 = [45]
    · have e : readF c 4 (x0 :: W') = c := by simp [readF, hd]
      rw [e]
      exact rd_4d _ _ _ _ _ _ _ _ _ _ _ _ _ _ _ hrw hlen hwl hv hr hc hd
    · have e : readF c 4 (x0 :: W') = { c with cat := x0 } := by simp [readF, hd]
      rw [e]
      exact rd_4n _ _ _ _ _ _ _ _ _ _ _ _ _ _ _ hrw hlen hwl hv hr hc hd
  | 5, _ => exact rd_5 _ _ _ _ _ _ _ _ _ _ _ _ _ _ _ hrw hlen hwl hv hr hc
  | 6, _ => exact rd_6 _ _ _ _ _ _ _ _ _ _ _ _ _ _ _ hrw hlen hwl hv hr hc
  | 7, _ => exact rd_7 _ _ _ _ _ _ _ _ _ _ _ _ _ _ _ hrw hlen hwl hv hr hc
  | 8, _ => exact rd_8 _ _ _ _ _ _ _ _ _ _ _ _ _ _ _ hrw hlen hwl hv hr hc
end Go.Proofs.YtkflakeocdlinaaGreatDoor
