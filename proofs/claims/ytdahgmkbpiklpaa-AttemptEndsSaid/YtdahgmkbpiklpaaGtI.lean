/-
  Contracts of gate.Waiting and Late.
-/
import Derived.Test.YtdahgmkbpiklpaaGtC
import Derived.Test.YtdahgmkbpiklpaaGtH
namespace Go.Proofs.Ytdahgmkbpiklpaa
open Go.RowKit Go.Deep Go.Lib

theorem rp_ret {fn : Func} {s1 s2 : Nat} (h : fn.results = #[.cell s1 59, .tmp s2]) {tmps : Array Value} {W : World} (g : Nat) (hp : tmps.getD s1 undef = .pointer (some ⟨g, 0, none⟩)) (x : Rp) (fr : Nat × Nat) (b : Bool)
    (hg : W.heap[g]? = some (.cells #[.string (st x.1), .string (st x.2.1), .int .i64 x.2.2] 59 fr)) (hb : tmps.getD s2 undef = .bool b) :
    (results fn tmps).run Try.prog W = .ok (.tuple #[.agg (cRp x).toArray, .bool b]) W := by
  have hp' : tmps[s1]?.getD undef = .pointer (some ⟨g, 0, none⟩) := by simpa using hp
  have hb' : tmps[s2]?.getD undef = .bool b := by simpa using hb
  rw [results_cell_tmp h]
  simp [hp', hb', asAddr, Result.andThen, run_loadVar_row W g 59 59 _ fr _ hg Try.underlying59 rfl (by kernel_rfl), cRp]

set_option maxHeartbeats 800000 in
theorem waiting_nil (w : World) : Calls Try.prog 28 #[.pointer none] w fun e w' => e = .returned (.int .i64 0) ∧ w = w' := by
  go_enter Try.func28, Try.ntmps28
  go_wp2
  go_ret
  exact ⟨rfl, rfl⟩
set_option maxHeartbeats 800000 in
theorem waiting_any (B b : Nat) (L : List Rc) (Q : List Rp) (v1 v2 : Value) (w : World) (h : GateP 46 63 59 B w b L Q v1 v2) :
    Calls Try.prog 28 #[.pointer (some ⟨b, 0, none⟩)] w fun e w' => e = .returned (.int .i64 (Q.length : Int)) ∧ w = w' := by
  obtain ⟨a, cp, rfl, hrow⟩ := h.row2
  have c1 := h.cell1
  clear h hrow
  generalize Q.length = n at c1 ⊢
  go_enter Try.func28, Try.ntmps28
  go_wp2
  go_ret
  exact ⟨rfl, rfl⟩

set_option maxHeartbeats 1600000 in
theorem late_nil (n : Int) (w : World) (hn : 0 ≤ n) : Calls Try.prog 22 #[.pointer none, .int .i64 n] w fun e w' => e = .returned (.tuple #[.agg #[.string (st []), .string (st []), .int .i64 0], .bool false]) ∧ Below w.heap.size w w' := by
  have h1 : ¬ n < 0 := by omega
  have HW : Hid (∀ W, Calls Try.prog 28 #[.pointer none] W fun e w' => e = .returned (.int .i64 0) ∧ W = w') := waiting_nil
  have HB : Hid (∀ o, Below w.heap.size w (w.alloc o)) := fun o => (Below.refl _ w).alloc (Nat.le_refl _) o
  go_enter Try.func22, Try.ntmps22
  go_wp2_with fail
  refine (HW.out _).mono ?_
  rintro e w' ⟨rfl, rfl⟩
  go_wp2
  refine bodyPost_ret (rp_ret rfl w.heap.size rfl ([], [], 0) _ false (heap_alloc_new _ _) rfl) rfl ⟨rfl, HB.out _⟩

set_option maxHeartbeats 1600000 in
theorem late_no (B b : Nat) (L : List Rc) (Q : List Rp) (v1 v2 : Value) (n : Int) (w : World) (h : GateP 46 63 59 B w b L Q v1 v2) (hn : n < 0 ∨ (Q.length : Int) ≤ n) :
    Calls Try.prog 22 #[.pointer (some ⟨b, 0, none⟩), .int .i64 n] w fun e w' => e = .returned (.tuple #[.agg #[.string (st []), .string (st []), .int .i64 0], .bool false]) ∧ Below w.heap.size w w' := by
  have HB : Hid (∀ o, Below w.heap.size w (w.alloc o)) := fun o => (Below.refl _ w).alloc (Nat.le_refl _) o
  have HW : Hid (∀ W, Below w.heap.size w W → Calls Try.prog 28 #[.pointer (some ⟨b, 0, none⟩)] W fun e w' => e = .returned (.int .i64 (Q.length : Int)) ∧ W = w') := fun W hb => waiting_any B b L Q v1 v2 W (h.keep hb)
  clear h
  by_cases h1 : n < 0
  · clear hn
    go_enter Try.func22, Try.ntmps22
    go_wp2
    refine bodyPost_ret (rp_ret rfl w.heap.size rfl ([], [], 0) _ false (heap_alloc_new _ _) rfl) rfl ⟨rfl, HB.out _⟩
  · have h2 : (Q.length : Int) ≤ n := by omega
    clear hn
    generalize (Q.length : Int) = q at HW h2
    go_enter Try.func22, Try.ntmps22
    go_wp2_with fail
    refine (HW.out _ (HB.out _)).mono ?_
    rintro e w' ⟨rfl, rfl⟩
    go_wp2
    refine bodyPost_ret (rp_ret rfl w.heap.size rfl ([], [], 0) _ false (heap_alloc_new _ _) rfl) rfl ⟨rfl, HB.out _⟩

set_option maxHeartbeats 3200000 in
theorem late_yes (B b : Nat) (L : List Rc) (Q : List Rp) (v1 v2 : Value) (i : Nat) (x : Rp) (w : World) (h : GateP 46 63 59 B w b L Q v1 v2) (hx : Q[i]? = some x) (hl : Q.length ≤ 1000000) :
    Calls Try.prog 22 #[.pointer (some ⟨b, 0, none⟩), .int .i64 (i : Int)] w fun e w' => e = .returned (.tuple #[.agg (cRp x).toArray, .bool true]) ∧ Turned 46 63 59 B b v1 v2 L (Q.eraseIdx i) w w' := by
  have hlt := (List.getElem?_eq_some_iff.1 hx).1
  have HW : Hid (∀ W, Below w.heap.size w W → Calls Try.prog 28 #[.pointer (some ⟨b, 0, none⟩)] W fun e w' => e = .returned (.int .i64 (Q.length : Int)) ∧ W = w') := fun W hb => waiting_any B b L Q v1 v2 W (h.keep hb)
  have HG := Lib.hid h
  obtain ⟨a, cp, hv, hrow⟩ := h.row2
  obtain ⟨g, off, rfl⟩ := hrow.form (by omega)
  have hoff : off = 0 ∧ Q.length ≤ cp ∧ cp ≤ maxLen := by
    rcases h.two.2 with ⟨e, h0⟩ | ⟨g', cap', cur, e, _, _, hnc, hcm, _⟩
    · omega
    · rw [hv] at e
      injection e with e1 _ e2
      injection e1 with e1
      injection e1 with _ e1 _
      exact ⟨e1, by omega, by omega⟩
  obtain ⟨rfl, hcp, hcm⟩ := hoff
  subst hv
  have HB : Hid (Below w.heap.size w (w.alloc (.cells #[.string ⟨#[]⟩, .string ⟨#[]⟩, .int .i64 0] 59))) := (Below.refl _ w).alloc (Nat.le_refl _) _
  obtain ⟨k, q, a⟩ := x
  have HB2 : Hid (Below w.heap.size w ((w.alloc (.cells #[.string ⟨#[]⟩, .string ⟨#[]⟩, .int .i64 0] 59)).alloc (.cells #[.string (st k), .string (st q), .int .i64 a] 59))) := HB.out.alloc HB.out.size _
  have c1 : (w.alloc (.cells #[.string ⟨#[]⟩, .string ⟨#[]⟩, .int .i64 0] 59)).cell? ⟨b, 1, none⟩ = _ := (h.keep HB.out).cell1
  obtain ⟨d0, d1, d2⟩ := cells3 (hrow.keep HB.out) hx
  simp only [Nat.zero_add] at d0 d1 d2
  have HR1 : Hid (Blk ((w.alloc (.cells #[.string ⟨#[]⟩, .string ⟨#[]⟩, .int .i64 0] 59)).alloc (.cells #[.string (st k), .string (st q), .int .i64 a] 59)) w.heap.size 59 #[.string ⟨#[]⟩, .string ⟨#[]⟩, .int .i64 0]) := (Blk.new w _ _).alloc _
  have HX1 : Hid (Blk ((w.alloc (.cells #[.string ⟨#[]⟩, .string ⟨#[]⟩, .int .i64 0] 59)).alloc (.cells #[.string (st k), .string (st q), .int .i64 a] 59)) (w.heap.size + 1) 59 #[.string (st k), .string (st q), .int .i64 a]) := by
    have := Blk.new (w.alloc (.cells #[.string ⟨#[]⟩, .string ⟨#[]⟩, .int .i64 0] 59)) 59 #[.string (st k), .string (st q), .int .i64 a]
    show Blk _ _ _ _
    simpa using this
  have c1b : ((w.alloc (.cells #[.string ⟨#[]⟩, .string ⟨#[]⟩, .int .i64 0] 59)).alloc (.cells #[.string (st k), .string (st q), .int .i64 a] 59)).cell? ⟨b, 1, none⟩ = _ := (h.keep HB2.out).cell1
  have HD := Lib.hid (del_any B Q g cp i (i + 1) _ (h.keep HB2.out).two hlt rfl)
  have HGL : Hid (g < w.heap.size ∧ B ≤ g ∧ g ≠ b) := ⟨(h.two.lt g rfl).2, (h.two.lt g rfl).1, h.ne2 g rfl⟩
  have HBL : Hid (b < w.heap.size) := h.box.lt
  have HLE : Hid ((Q.eraseIdx i).length = Q.length - 1) := by show _ = _; rw [List.length_eraseIdx, if_pos hlt]
  obtain ⟨n, hn⟩ : ∃ n, n = Q.length := ⟨_, rfl⟩
  have HN := Lib.hid hn
  unfold DelP at HD
  rw [← hn] at HW HD HLE c1 c1b hl hlt hcp
  have t1 : ((i + 1 : Nat) : Int) = (i : Int) + 1 := by omega
  rw [t1] at HD
  have hin : (i : Int) < (n : Int) := by omega
  have hi0 : ¬ (i : Int) < 0 := by omega
  have hi1 : (0 : Int) ≤ (i : Int) := by omega
  have hcap : cp ≤ 9223372036854775807 := by unfold maxLen at hcm; omega
  clear h hx hrow hn t1 hcm
  go_enter Try.func22, Try.ntmps22
  go_wp2_with fail
  refine (HW.out _ HB.out).mono ?_
  rintro e w' ⟨rfl, rfl⟩
  go_wp2_with fail
  refine HD.out.mono ?_
  rintro e w2 ⟨rfl, hown2, hs2⟩
  have HGB : Hid (GateP 46 63 59 B (w2.setCell ⟨b, 1, none⟩ (.slice (some ⟨g, 0, none⟩) (n - 1) cp)) b L (Q.eraseIdx i) v1 (.slice (some ⟨g, 0, none⟩) (n - 1) cp)) :=
    GateP.put2 HG.out.ty HG.out.hb ((HG.out.keep HB2.out).box.stp hs2 (fun hm => by rw [List.mem_singleton] at hm; exact HGL.out.2.2 hm.symm)) (own_stp (HG.out.keep HB2.out).one hs2 fun k hk hm => by
      rw [List.mem_singleton] at hm
      subst hm
      exact HG.out.ne12 _ hk rfl) (by rw [HLE.out]; exact hown2)
  have hbx := (HG.out.keep HB2.out).box.stp hs2 (fun hm => by rw [List.mem_singleton] at hm; exact HGL.out.2.2 hm.symm)
  have e1 : w2.cell? ⟨b, 1, none⟩ = _ := hbx.cell 1
  have e1f := hbx.frozen 1
  have hr2 := (HR1.out.stp hs2 (fun hm => by rw [List.mem_singleton] at hm; have := HGL.out.1; omega)).other (a := ⟨b, 1, none⟩) (fun e => by have := HBL.out; simp only at e; omega) (.slice (some ⟨g, 0, none⟩) (n - 1) cp)
  have hx2 := (HX1.out.stp hs2 (fun hm => by rw [List.mem_singleton] at hm; have := HGL.out.1; omega)).other (a := ⟨b, 1, none⟩) (fun e => by have := HBL.out; simp only at e; omega) (.slice (some ⟨g, 0, none⟩) (n - 1) cp)
  have HR2 := Lib.hid hr2
  have q0 := hx2.cell 0
  have q1 := hx2.cell 1
  have q2 := hx2.cell 2
  have r0 := hr2.cell 0
  have r1 := hr2.cell 1
  have r2 := hr2.cell 2
  have f0 := hr2.frozen 0
  have f1 := hr2.frozen 1
  have f2 := hr2.frozen 2
  simp only [List.getElem?_toArray, List.getElem?_cons_zero, List.getElem?_cons_succ] at e1 q0 q1 q2 r0 r1 r2
  have HS2 : Hid (Stp (fpG b v1 (.slice (some ⟨g, 0, none⟩) n cp)) w (w2.setCell ⟨b, 1, none⟩ (.slice (some ⟨g, 0, none⟩) (n - 1) cp))) :=
    ((Stp.of_below (fp := fpG b v1 (.slice (some ⟨g, 0, none⟩) n cp)) HB2.out).trans hs2 (fun k hk => by rw [List.mem_singleton] at hk; exact .inl (mem_fpG.2 (.inr (.inr (by rw [hk]; rfl)))))).setCell (.inl (mem_fpG.2 (.inl rfl))) _
  clear hown2 hs2 hbx hr2 hx2 HD HW c1 c1b d0 d1 d2 HR1 HX1
  go_wp2
  refine bodyPost_ret (rp_ret rfl w.heap.size rfl (k, q, a) _ true (((HR2.out.set 0 _).set 1 _).set 2 _) rfl) rfl ⟨rfl, ?_⟩
  have hs3 := (((Stp.refl [w.heap.size] (w2.setCell ⟨b, 1, none⟩ (.slice (some ⟨g, 0, none⟩) (n - 1) cp))).setCell (x := ⟨w.heap.size, 0, none⟩) (.inl (by simp)) (.string (st k))).setCell (x := ⟨w.heap.size, 1, none⟩) (.inl (by simp)) (.string (st q))).setCell (x := ⟨w.heap.size, 2, none⟩) (.inl (by simp)) (.int .i64 a)
  have hfar : ∀ k ∈ fpG b v1 (.slice (some ⟨g, 0, none⟩) (n - 1) cp), k < w.heap.size := fun k hk => by
    rcases mem_fpG.1 hk with rfl | hk | hk
    · exact HBL.out
    · exact (HG.out.lt k (mem_fpG.2 (.inr (.inl hk)))).1
    · have hk2 : some g = some k := hk
      injection hk2 with hk2
      have := HGL.out.1
      omega
  rw [← HN.out]
  refine ⟨v1, .slice (some ⟨g, 0, none⟩) (n - 1) cp, HGB.out.stp hs3 (fun k hk hm => by
    rw [List.mem_singleton] at hm
    have := hfar k hk
    omega), HS2.out.trans hs3 (fun k hk => by rw [List.mem_singleton] at hk; exact .inr (by omega)), fun k hk => .inl ?_⟩
  rcases mem_fpG.1 hk with rfl | hk | hk
  · exact mem_fpG.2 (.inl rfl)
  · exact mem_fpG.2 (.inr (.inl hk))
  · exact mem_fpG.2 (.inr (.inr hk))
end Go.Proofs.Ytdahgmkbpiklpaa
