/-
  The walk of souklaw17.AttemptEnds.
-/
import Derived.Test.YtdahgmkbpiklpaaAtM
import Derived.Test.YtdahgmkbpiklpaaAtE
import Derived.Test.YtdahgmkbpiklpaaOwn
namespace Go.Proofs.Ytdahgmkbpiklpaa
open Go.RowKit Go.Deep Go.Lib

set_option maxHeartbeats 1600000 in
theorem ends17_many (M : Nat) (ad : Option Addr) (n cp : Nat) (w : World) (hn : 300 < n) :
    Calls Try.prog 5 #[.int .u32 (M : Int), .slice ad n cp] w fun e w' => e = .returned (.bool true) ∧ Below w.heap.size w w' := by
  have HL := Lib.hid lives17_any
  have hgt : (300 : Int) < (n : Int) := by omega
  clear hn
  go_enter Try.func5, Try.ntmps5
  go_wp2_with fail
  refine (HL.out _).mono ?_
  rintro e w1 ⟨rfl, hb⟩
  have HB := Lib.hid hb
  clear hb
  go_wp2_with fail
  refine (HL.out _).mono ?_
  rintro e w2 ⟨rfl, hb⟩
  have HB2 := Lib.hid (bel_onG HB.out HB.out.size hb)
  clear hb HL
  go_wp2
  go_ret
  exact ⟨rfl, HB2.out⟩

/-- a gateway, what lies below, and a payout in a box beside -/
structure GX (B : Nat) (w wr : World) (b : Nat) (L : List Rc) (Q : List Rp) (v1 v2 : Value) (pb : Nat) (P : Py) : Prop where
  gb : GB B w wr b L Q v1 v2
  pay : Blk wr pb 23 (cPy P).toArray
  off : pb ∉ fpG b v1 v2
  new : B ≤ pb
section
variable {B b pb : Nat} {w wr wr' : World} {L L' : List Rc} {Q Q' : List Rp} {v1 v2 : Value} {P : Py}
theorem GX.keep (h : GX B w wr b L Q v1 v2 pb P) (hb : Below wr.heap.size wr wr') : GX B w wr' b L Q v1 v2 pb P := ⟨h.gb.keep hb, h.pay.since hb, h.off, h.new⟩
theorem GX.start (h : GB B w wr b L Q v1 v2) : GX B w (wr.alloc (.cells (cPy P).toArray 23)) b L Q v1 v2 wr.heap.size P :=
  ⟨h.keep ((Below.refl _ wr).alloc (Nat.le_refl _) _), Blk.new wr _ _, fun hm => by have := (h.gate.lt _ hm).1; omega, h.size⟩
theorem GX.turn (h : GX B w wr b L Q v1 v2 pb P) (ht : Turned 46 63 59 B b v1 v2 L' Q' wr wr') : ∃ x1 x2, GX B w wr' b L' Q' x1 x2 pb P := by
  obtain ⟨x1, x2, hg, hs, hn⟩ := ht
  refine ⟨x1, x2, ⟨hg, h.gb.below.trans (hs.below (fun k hk => (h.gb.gate.lt k hk).2) h.gb.size)⟩, h.pay.stp hs h.off, fun hm => ?_, h.new⟩
  rcases hn pb hm with h' | h'
  · exact h.off h'
  · have := h.pay.lt
    omega
theorem GX.put {k1 q1 c1 : List UInt8} {m1 : Int} {s1 : List UInt8} {n1 t1 a1 : Int} {k2 q2 c2 : List UInt8} {m2 : Int} {s2 : List UInt8} {n2 t2 a2 : Int} (h : GX B w wr b L Q v1 v2 pb ⟨k1, q1, c1, m1, s1, n1, t1, a1⟩) :
    GX B w ((((((((wr.setCell ⟨pb, 0, none⟩ (.string (st k2))).setCell ⟨pb, 1, none⟩ (.string (st q2))).setCell ⟨pb, 2, none⟩ (.string (st c2))).setCell ⟨pb, 3, none⟩ (.int .i64 m2)).setCell ⟨pb, 4, none⟩ (.string (st s2))).setCell ⟨pb, 5, none⟩ (.int .i64 n2)).setCell ⟨pb, 6, none⟩ (.int .i64 t2)).setCell ⟨pb, 7, none⟩ (.int .i64 a2)) b L Q v1 v2 pb ⟨k2, q2, c2, m2, s2, n2, t2, a2⟩ := by
  have hs := put_stp wr pb (.string (st k2)) (.string (st q2)) (.string (st c2)) (.int .i64 m2) (.string (st s2)) (.int .i64 n2) (.int .i64 t2) (.int .i64 a2)
  exact ⟨⟨h.gb.gate.stp hs (fun x hx hm => by rw [List.mem_singleton] at hm; subst hm; exact h.off hx), h.gb.below.trans (hs.below (fun k hk => by rw [List.mem_singleton] at hk; subst hk; exact h.new) h.gb.size)⟩, Blk.put8 h.pay _ _ _ _ _ _ _ _, h.off, h.new⟩
end

theorem infoU817 : (Try.prog.info? 5).map (fun i => (i.zero, i.size, i.bytes)) = some (some (.int .u8 0), 1, 1) := by kernel_rfl
theorem ones_flat (j : Nat) : (List.replicate j 1).flatMap cU8 = List.replicate j (Value.int .u8 1) := by
  induction j with
  | zero => rfl
  | succ j ih => rw [List.replicate_succ, List.flatMap_cons, ih]; rfl
theorem ones_more (j : Nat) : List.replicate j (Value.int .u8 1) ++ [Value.int .u8 1] = List.replicate (j + 1) (Value.int .u8 1) := by
  rw [List.replicate_succ']

/-- a row of ones, of one's own -/
def Ones (B : Nat) (w : World) (A : Option Addr) (j c : Nat) : Prop := w.ownsRow B 5 1 (.slice A j c) j (List.replicate j (Value.int .u8 1))
theorem Ones.row {B : Nat} {w : World} {A : Option Addr} {j c : Nat} (h : Ones B w A j c) : RowG 1 cU8 w A (List.replicate j 1) ∧ ∀ p, A = some p → B ≤ p.block := by
  unfold Ones at h
  rw [← ones_flat] at h
  obtain ⟨a, cp, e1, e2, e3, _⟩ := RowG.own cU8_len h (by simp)
  injection e1 with e1 _ _
  subst e1
  exact ⟨e2, e3⟩

set_option maxHeartbeats 12800000 in
set_option maxRecDepth 100000 in
theorem ends17_few (M : Nat) (ad : Option Addr) (cp : Nat) (xs : List Nat) (w : World) (hM : M ≤ 4294967295) (hr : RowG 1 cU8 w ad xs) (hx : ∀ x ∈ xs, x ≤ 255) (hn : xs.length ≤ 300) :
    Calls Try.prog 5 #[.int .u32 (M : Int), .slice ad xs.length cp] w fun e w' => e = .returned (.bool true) ∧ Below w.heap.size w w' := by
  have HL := Lib.hid lives17_any
  have HR := Lib.hid hr
  have HX := Lib.hid hx
  obtain ⟨S, hS⟩ : ∃ S, S = runR (fun i => xs.getD i 0) 0 ⟨py0 (M : Int), [], []⟩ xs.length := ⟨_, rfl⟩
  have HSE := Lib.hid hS
  have HQL : Hid (S.Q.length ≤ 1000000) := by
    show _ ≤ _
    have h := (run_few (f := fun i => xs.getD i 0) (fr := 0) (M := 0) (s := ⟨py0 (M : Int), [], []⟩) (by unfold Bd py0; simp only; omega) xs.length).2.2
    rw [hS]
    simp only [List.length_nil] at h
    omega
  have HINV : Hid (Inv (M : Int) S.p S.L S.Q) := by rw [hS]; exact Inv.run (s := ⟨py0 (M : Int), [], []⟩) (Inv.start _) _
  obtain ⟨n, hnn⟩ : ∃ n, n = xs.length := ⟨_, rfl⟩
  have HN := Lib.hid hnn
  rw [← hnn] at hn ⊢
  have hgt : ¬ (300 : Int) < (n : Int) := by omega
  have HM := Lib.hid hM
  have hm0 : (0 : Int) ≤ (M : Int) := by omega
  have hm1 : (M : Int) ≤ 4294967295 := by omega
  have HNX : Hid (S.p.next ≤ (n : Int) + 9) := by
    show _ ≤ _
    rw [hS, ← hnn]
    exact next_run (f := fun i => xs.getD i 0) (s := ⟨py0 (M : Int), [], []⟩) (by unfold py0; simp only; omega) n
  have HBD : Hid (Bd 10000 S.p ∧ S.L.length ≤ 1000 ∧ S.Q.length ≤ 1000) := by
    have h := run_few (f := fun i => xs.getD i 0) (fr := 0) (M := 0) (s := ⟨py0 (M : Int), [], []⟩) (by unfold Bd py0; simp only; omega) xs.length
    rw [← hS] at h
    simp only [List.length_nil] at h
    exact ⟨h.1.less (by omega), by omega, by omega⟩
  clear hr hx hnn hS
  go_enter Try.func5, Try.ntmps5
  go_wp2_with fail
  refine (HL.out _).mono ?_
  rintro e w1 ⟨rfl, hb⟩
  have HG1 := Lib.hid (GB.new hb)
  clear hb HL
  obtain ⟨b, hb⟩ : ∃ b, b = w1.heap.size := ⟨_, rfl⟩
  obtain ⟨w2, hw2⟩ : ∃ w2, w2 = w1.alloc (.cells #[.slice none 0 0, .slice none 0 0] 46) := ⟨_, rfl⟩
  have HRUN : Hid (Calls Try.prog 14 #[.pointer (some ⟨b, 0, none⟩), .agg #[.string ⟨#[107]⟩, .string ⟨#[97, 110, 110]⟩, .string ⟨#[69, 85, 82]⟩, .int .i64 (M : Int), .string ⟨#[114, 101, 97, 100, 121]⟩, .int .i64 0, .int .i64 0, .int .i64 0], .int .i64 0, .slice ad n cp] w2 fun e w' => e = .returned (.agg (cPy S.p).toArray) ∧ Turned 46 63 59 w.heap.size b (.slice none 0 0) (.slice none 0 0) S.L S.Q w2 w') := by
    obtain ⟨hr2, ho2⟩ := HG1.out.apart HR.out
    rw [hb, hw2]
    have h := run_any w.heap.size w1.heap.size [] [] _ _ kK kAnn kEur (M : Int) kReady 0 0 0 0 ad cp xs _ HG1.out.gate hr2 HX.out ho2 (by rw [← HN.out]; omega) (by unfold Bd; simp only; omega) (by simp) (by simp) ⟨by decide, by decide⟩ S HSE.out
    rw [← HN.out] at h
    exact h
  rw [← hb, ← hw2] at HG1
  clear HSE HX HR
  obtain ⟨⟨k2, q2, c2, m2, s2, n2, t2, a2⟩, L, Q⟩ := S
  have HRUN : Hid (Calls Try.prog 14 #[.pointer (some ⟨b, 0, none⟩), .agg #[.string ⟨#[107]⟩, .string ⟨#[97, 110, 110]⟩, .string ⟨#[69, 85, 82]⟩, .int .i64 (M : Int), .string ⟨#[114, 101, 97, 100, 121]⟩, .int .i64 0, .int .i64 0, .int .i64 0], .int .i64 0, .slice ad n cp] w2 fun e w' => e = .returned (.agg #[.string (st k2), .string (st q2), .string (st c2), .int .i64 m2, .string (st s2), .int .i64 n2, .int .i64 t2, .int .i64 a2]) ∧ Turned 46 63 59 w.heap.size b (.slice none 0 0) (.slice none 0 0) L Q w2 w') := HRUN
  have HQL : Hid (Q.length ≤ 1000000) := HQL
  have HINV : Hid (Inv (M : Int) ⟨k2, q2, c2, m2, s2, n2, t2, a2⟩ L Q) := HINV
  have HNX : Hid (n2 ≤ (n : Int) + 9) := HNX
  have HBD : Hid (Bd 10000 ⟨k2, q2, c2, m2, s2, n2, t2, a2⟩ ∧ L.length ≤ 1000 ∧ Q.length ≤ 1000) := HBD
  go_wp2_with fail
  rw [← hb, ← hw2]
  clear hb hw2
  refine HRUN.out.mono ?_
  rintro e w3 ⟨rfl, ht⟩
  obtain ⟨x1, x2, hg3⟩ := HG1.out.turn ht
  have HX4 := Lib.hid (GX.start (P := ⟨k2, q2, c2, m2, s2, n2, t2, a2⟩) hg3)
  obtain ⟨pb, hpb⟩ : ∃ pb, pb = w3.heap.size := ⟨_, rfl⟩
  rw [← hpb] at HX4
  obtain ⟨f1, _, _⟩ := HINV.out.few
  obtain ⟨w4, hw4⟩ : ∃ w4, w4 = w3.alloc (.cells #[.string (st k2), .string (st q2), .string (st c2), .int .i64 m2, .string (st s2), .int .i64 n2, .int .i64 t2, .int .i64 a2] 23) := ⟨_, rfl⟩
  have HX4 : Hid (GX w.heap.size w w4 b L Q x1 x2 pb ⟨k2, q2, c2, m2, s2, n2, t2, a2⟩) := by rw [hw4]; exact HX4
  have H1 := Lib.hid (records_any w.heap.size b L Q x1 x2 w4 HX4.out.gb.gate (by omega))
  unfold RowToG at H1
  obtain ⟨n0, hn0⟩ : ∃ n0, n0 = L.length := ⟨_, rfl⟩
  have HN0 := Lib.hid hn0
  rw [← hn0] at H1
  obtain ⟨KB, hKB⟩ : ∃ KB, ((n0 : Int) == 1) = KB := ⟨_, rfl⟩
  have HKB : Hid (L ≠ [] → KB = true) := fun hne => by
    have h1 : L.length ≠ 0 := fun h0 => hne (List.eq_nil_of_length_eq_zero h0)
    rw [← hKB, beq_iff_eq, hn0]
    omega
  obtain ⟨T, hT⟩ : ∃ T, T = runR (fun i => (List.replicate 30 1).getD i 0) (n : Int) ⟨⟨k2, q2, c2, m2, s2, n2, t2, a2⟩, L, Q⟩ 30 := ⟨_, rfl⟩
  have HEND := Lib.hid (end_all (s := ⟨⟨k2, q2, c2, m2, s2, n2, t2, a2⟩, L, Q⟩) HINV.out HNX.out (fun i hi => by rw [List.getD_eq_getElem?_getD, List.getElem?_replicate, if_pos hi]; rfl) T hT)
  have HT := Lib.hid hT
  obtain ⟨⟨k3, q3, c3', m3, s3, n3, t3, a3⟩, L3, Q3⟩ := T
  clear ht hg3 f1 HRUN HG1 HINV HNX hn0 hT
  go_wp2_with fail
  rw [← hw4]
  try rw [← hpb]
  clear hw4 hpb
  refine H1.out.mono ?_
  rintro e w5 ⟨ra, rcp, rfl, _, _, hb5⟩
  have HX5 := Lib.hid (HX4.out.keep hb5)
  clear hb5 HX4 H1
  go_wp2
  go_loopg [8, 31] 30 (fun gk v i wr => ∃ (j : Nat) (A : Option Addr) (cA : Nat), j ≤ 30 ∧ i = .int .i64 j ∧ 30 - j ≤ gk ∧ v = .slice A j cA ∧ Hid (Ones w5.heap.size wr A j cA) ∧ Hid (Below w5.heap.size w5 wr))
  case atStart => exact ⟨0, none, 0, Nat.zero_le _, rfl, by omega, rfl, World.ownsRow_nil _ _ _ _, Below.refl _ _⟩
  case round =>
    obtain ⟨j, A, cA, hj, rfl, hgk, rfl, HO, HB5⟩ := hrel
    by_cases hlt : j < 30
    · have hjn : (j : Int) < 30 := by omega
      go_wp2_with (at_builtin; refine wpList_append_one rfl (.tmp 33) (.tmp 34) 41 rfl w5.heap.size 5 _ 1 Try.underlying41 infoU817 rfl _ _ rfl (.slice A j cA) j _ rfl rfl HO.out HB5.out.size (by unfold maxLen; omega) (by omega) ?_)
      intro v' w' hown hbel
      rw [ones_more] at hown
      obtain ⟨A', cA', rfl⟩ := own_sliceG hown
      have HO2 : Hid (Ones w5.heap.size w' A' (j + 1) cA') := hown
      have HB6 := Lib.hid (HB5.out.trans hbel)
      clear hown hbel HO HB5
      go_wp2
      go_roundg (30 - (j + 1))
      case measure => omega
      case rel => exact ⟨j + 1, A', cA', by omega, by go_num, by omega, rfl, HO2.out, HB6.out⟩
    · obtain rfl : j = 30 := by omega
      have HXE := Lib.hid (HX5.out.keep HB5.out)
      obtain ⟨row1, row2⟩ := HO.out.row
      have hlt5 : ∀ k ∈ fpG b x1 x2, k < w5.heap.size := fun k hk => (HX5.out.gb.gate.lt k hk).1
      have h0 := run_any w.heap.size b L Q x1 x2 k2 q2 c2 m2 s2 n2 t2 a2 (n : Int) A cA (List.replicate 30 1) wr HXE.out.gb.gate row1 (fun x hx => by rw [(List.mem_replicate.1 hx).2]; decide) (fun _ p hp hm => by have h1 := row2 p hp; have h2 := hlt5 _ hm; omega) (by simp) HBD.out.1 HBD.out.2.1 HBD.out.2.2 ⟨by omega, by omega⟩ ⟨⟨k3, q3, c3', m3, s3, n3, t3, a3⟩, L3, Q3⟩ (by rw [List.length_replicate]; exact HT.out)
      rw [List.length_replicate] at h0
      have HRUN2 : Hid (Calls Try.prog 14 #[.pointer (some ⟨b, 0, none⟩), .agg #[.string (st k2), .string (st q2), .string (st c2), .int .i64 m2, .string (st s2), .int .i64 n2, .int .i64 t2, .int .i64 a2], .int .i64 (n : Int), .slice A 30 cA] wr fun e w' => e = .returned (.agg #[.string (st k3), .string (st q3), .string (st c3'), .int .i64 m3, .string (st s3), .int .i64 n3, .int .i64 t3, .int .i64 a3]) ∧ Turned 46 63 59 w.heap.size b x1 x2 L3 Q3 wr w') := h0
      obtain ⟨c0, c1, c2', c3, c4, c5, c6, c7⟩ := Blk.cells8 HXE.out.pay
      clear h0 row1 row2 hlt5 HO HB5 HX5 HT HBD hgk
      go_wp2_with fail
      refine HRUN2.out.mono ?_
      rintro e w6 ⟨rfl, ht⟩
      obtain ⟨z1, z2, hx6⟩ := HXE.out.turn ht
      have HX6 := Lib.hid hx6
      have HPUT := Lib.hid (hx6.put (k2 := k3) (q2 := q3) (c2 := c3') (m2 := m3) (s2 := s3) (n2 := n3) (t2 := t3) (a2 := a3))
      clear ht hx6 HRUN2 HXE c0 c1 c2' c3 c4 c5 c6 c7
      obtain ⟨c0, c1, c2', c3, c4, c5, c6, c7⟩ := Blk.cells8 HX6.out.pay
      have f0 := HX6.out.pay.frozen 0
      have f1 := HX6.out.pay.frozen 1
      have f2 := HX6.out.pay.frozen 2
      have f3 := HX6.out.pay.frozen 3
      have f4 := HX6.out.pay.frozen 4
      have f5 := HX6.out.pay.frozen 5
      have f6 := HX6.out.pay.frozen 6
      have f7 := HX6.out.pay.frozen 7
      go_upto_region 12 with fail
      generalize ((((((((w6.setCell ⟨pb, 0, none⟩ (.string (st k3))).setCell ⟨pb, 1, none⟩ (.string (st q3))).setCell ⟨pb, 2, none⟩ (.string (st c3'))).setCell ⟨pb, 3, none⟩ (.int .i64 m3)).setCell ⟨pb, 4, none⟩ (.string (st s3))).setCell ⟨pb, 5, none⟩ (.int .i64 n3)).setCell ⟨pb, 6, none⟩ (.int .i64 t3)).setCell ⟨pb, 7, none⟩ (.int .i64 a3)) = w7 at HPUT ⊢
      clear c0 c1 c2' c3 c4 c5 c6 c7 f0 f1 f2 f3 f4 f5 f6 f7 HX6
      obtain ⟨g1, g2, g3⟩ := HEND.out.1.few
      have HMV0 := moved_any w.heap.size b L3 Q3 z1 z2 w7 HPUT.out.gb.gate g1 g2 (fun x hx => by rw [g3 x hx]; have := HM.out; omega)
      obtain ⟨sv, hsv⟩ : ∃ sv, sv = mvS L3 := ⟨_, rfl⟩
      obtain ⟨nv, hnv⟩ : ∃ nv, nv = mvN L3 := ⟨_, rfl⟩
      rw [← hsv, ← hnv] at HMV0
      have HMV := Lib.hid HMV0
      have HNV := Lib.hid hnv
      clear HMV0 hsv hnv g1 g2 g3
      go_wp2_with fail
      refine HMV.out.mono ?_
      rintro e w8 ⟨rfl, hb8⟩
      have HX8 := Lib.hid (HPUT.out.keep hb8)
      obtain ⟨c0, c1, c2', c3, c4, c5, c6, c7⟩ := Blk.cells8 HX8.out.pay
      have lpb := HX8.out.pay.lt
      have HZ : Hid (∀ o, Below w.heap.size w (w8.alloc o)) := fun o => HX8.out.gb.below.alloc HX8.out.gb.size o
      clear hb8 HPUT HMV
      have HOV : Hid (overB s3 = true) := by
        rcases HEND.out.2 with ⟨e, _⟩ | ⟨e, _⟩
        · exact overB_eq.2 (.inl e)
        · exact overB_eq.2 (.inr e)
      have HOC : Hid (∀ W, Calls Try.prog 12 #[.agg #[.string (st k3), .string (st q3), .string (st c3'), .int .i64 m3, .string (st s3), .int .i64 n3, .int .i64 t3, .int .i64 a3]] W fun e w' => e = .returned (.bool true) ∧ w' = W.alloc (.cells #[.string (st k3), .string (st q3), .string (st c3'), .int .i64 m3, .string (st s3), .int .i64 n3, .int .i64 t3, .int .i64 a3] 23)) := fun W => by
        have h := over_any k3 q3 c3' m3 s3 n3 t3 a3 W
        rw [HOV.out] at h
        exact h
      rcases HEND.out.2 with ⟨e1, e2⟩ | ⟨e1, e2, e3⟩
      · have p1 : ((st s3).toList == [112, 97, 105, 100]) = true := txt_t e1
        have e2 : L3 = [recA (M : Int) true] := e2
        obtain rfl : nv = 1 := by rw [HNV.out, e2]; rfl
        clear e1 e2 HNV HEND HOV
        go_wp2_with fail
        refine (HOC.out _).mono ?_
        rintro e w' ⟨rfl, rfl⟩
        cases KB with
        | true =>
          go_wp2
          go_ret
          exact ⟨rfl, HZ.out _⟩
        | false =>
          go_wp2
          go_ret
          exact ⟨rfl, HZ.out _⟩
      · have p1 : ((st s3).toList == [112, 97, 105, 100]) = false := txt_f (by rw [show s3 = kBack from e1]; decide)
        have e2 : L3 = [recA (M : Int) false] := e2
        obtain rfl : nv = 0 := by rw [HNV.out, e2]; rfl
        obtain rfl : KB = true := HKB.out e3
        clear e1 e2 e3 HNV HEND HOV HKB
        go_wp2_with fail
        refine (HOC.out _).mono ?_
        rintro e w' ⟨rfl, rfl⟩
        go_wp2
        go_ret
        exact ⟨rfl, HZ.out _⟩

theorem ends17_walk (M : Nat) (ad : Option Addr) (cp n : Nat) (xs : List Nat) (w : World) (hl : xs.length = n) (hM : M ≤ 4294967295) (hr : RowG 1 cU8 w ad xs) (hx : ∀ x ∈ xs, x ≤ 255) :
    Calls Try.prog 5 #[.int .u32 (M : Int), .slice ad n cp] w fun e w' => e = .returned (.bool true) ∧ Below w.heap.size w w' := by
  subst hl
  by_cases h : xs.length ≤ 300
  · exact ends17_few M ad cp xs w hM hr hx h
  · exact ends17_many M ad _ cp w (by omega)
end Go.Proofs.Ytdahgmkbpiklpaa
