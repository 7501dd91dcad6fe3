/-
  Plain: a command's bytes. Contract of command.Encode.
-/
import Derived.Test.YtkflakeocdlinaaGreatDoorMC06
import Derived.Test.YtkflakeocdlinaaGreatDoorMC10
import Derived.Deep.RegionHeld3
import Derived.Deep.CutRange
import Derived.Deep.LoopGhost
namespace Go.Proofs.YtkflakeocdlinaaGreatDoor
open Go.RowKit Go.Deep

/-- a command's bytes -/
def shB (xs : List Sh) : List UInt8 := xs.flatMap fun s => txt s.1 ++ lowL 8 (wd s.2)
def bytesC (c : Cm) : List UInt8 := txt c.kind ++ txt c.id ++ txt c.about ++ txt c.cur ++ txt c.cat ++ lowL 8 (wd c.amt) ++ lowL 8 (wd (c.sh.length : Int)) ++ shB c.sh

theorem shB_len : ∀ (xs : List Sh), (∀ s ∈ xs, badS s = false) → (shB xs).length ≤ 30 * xs.length
  | [], _ => by simp [shB]
  | x :: r, h => by
    have h1 := badS_not (h x (by simp))
    have h2 := shB_len r (fun s hs => h s (by simp [hs]))
    have e : shB (x :: r) = (txt x.1 ++ lowL 8 (wd x.2)) ++ shB r := by simp [shB]
    rw [e, List.length_append, List.length_append, List.length_cons]
    simp only [txt, List.length_append, lowL_length]
    omega
theorem shB_next {xs : List Sh} {j : Nat} {p : List UInt8} {q : Int} (h : xs[j]? = some (p, q)) : shB (xs.take (j + 1)) = shB (xs.take j) ++ (txt p ++ lowL 8 (wd q)) := by
  obtain ⟨h1, h2⟩ := List.getElem?_eq_some_iff.1 h
  unfold shB
  rw [List.take_succ_eq_append_getElem h1, h2, List.flatMap_append]
  simp

/-- a writer, and a command's box below it -/
structure EnP (w0 : World) (bx b : Nat) (cs : Array Value) (W : World) (ps : List (List UInt8)) : Prop where
  wat : WAt W b b (some ps)
  box : Blk W bx 24 cs
  below : Below b w0 W
  lt : bx < b
section
variable {w0 W : World} {bx b : Nat} {cs : Array Value} {ps : List (List UInt8)}
theorem EnP.size (h : EnP w0 bx b cs W ps) : b < W.heap.size := h.wat.base.2
theorem EnP.drew (h : EnP w0 bx b cs W ps) : EnP w0 bx b cs W.drew ps := ⟨h.wat.keep (Below.refl _ W).drew, h.box, drewN_below h.below 1, h.lt⟩
theorem EnP.keep {W' : World} (h : EnP w0 bx b cs W ps) (hb : Below W.heap.size W W') : EnP w0 bx b cs W' ps := ⟨h.wat.keep hb, h.box.since hb, h.below.trans (bel_lessG hb (Nat.le_of_lt h.size)), h.lt⟩
theorem EnP.grown {W' : World} {qs : List (List UInt8)} (h : EnP w0 bx b cs W ps) (hg : W.grownBy W' (some b)) (ha : WAt W' b b (some qs)) : EnP w0 bx b cs W' qs :=
  ⟨ha, h.box.kept hg (fun e => by have := h.lt; simp only [Option.some.injEq] at e; omega), Below.of_grown h.below hg (Nat.le_of_lt h.size) (Nat.le_refl _), h.lt⟩
theorem EnP.text (h : EnP w0 bx b cs W ps) (s : List UInt8) (S : ByteArray) (hS : S = st s) (hl : s.length ≤ 65535) :
    Calls Tryz.prog 24 #[.pointer (some ⟨b, 0, none⟩), .string S] W fun e w' => e = .returned (.pointer (some ⟨b, 0, none⟩)) ∧ EnP w0 bx b cs w' (txt s :: ps) ∧ W.grownBy w' (some b) := by
  rw [hS]
  refine (wText_any b b (some ps) s W h.wat (Nat.le_of_lt h.size)).mono ?_
  rintro e w' ⟨he, hg, ha⟩
  rw [if_neg (by omega)] at ha
  exact ⟨he, h.grown hg ha, hg⟩
theorem EnP.int (h : EnP w0 bx b cs W ps) (z : Int) :
    Calls Tryz.prog 25 #[.pointer (some ⟨b, 0, none⟩), .int .i64 z] W fun e w' => e = .returned (.pointer (some ⟨b, 0, none⟩)) ∧ EnP w0 bx b cs w' (lowL 8 (wd z) :: ps) ∧ W.grownBy w' (some b) := by
  refine (wInt_any b b (some ps) z W h.wat (Nat.le_of_lt h.size)).mono ?_
  rintro e w' ⟨he, hg, ha⟩
  exact ⟨he, h.grown hg ha, hg⟩
theorem EnP.cells {v0 v1 v2 v3 v4 v5 v6 : Value} (h : EnP w0 bx b #[v0, v1, v2, v3, v4, v5, v6] W ps) : W.cell? ⟨bx, 0, none⟩ = some v0 ∧ W.cell? ⟨bx, 1, none⟩ = some v1 ∧ W.cell? ⟨bx, 2, none⟩ = some v2 ∧ W.cell? ⟨bx, 3, none⟩ = some v3 ∧ W.cell? ⟨bx, 4, none⟩ = some v4 ∧ W.cell? ⟨bx, 5, none⟩ = some v5 ∧ W.cell? ⟨bx, 6, none⟩ = some v6 := cell_seven h.box
end

set_option maxHeartbeats 1600000 in
theorem encode_bad (k i b u t : List UInt8) (m : Int) (a : Option Addr) (cp : Nat) (xs : List Sh) (w : World) (hk : k.length ≤ maxLen) (hr : RowG 2 cSh w a xs) (hc : xs.length ≤ cp) (hl : xs.length ≤ 4611686018427387904) (hE : rightC ⟨k, i, b, u, t, m, xs⟩ ≠ 0) :
    Calls Tryz.prog 9 #[.agg #[.string (st k), .string (st i), .string (st b), .string (st u), .string (st t), .int .i64 m, .slice a xs.length cp]] w fun e w' => e = .returned (.tuple #[.string (st []), .int .i64 (rightC ⟨k, i, b, u, t, m, xs⟩)]) ∧ Below w.heap.size w w' := by
  have hb0 : Below w.heap.size w (w.alloc (.cells #[.string (st k), .string (st i), .string (st b), .string (st u), .string (st t), .int .i64 m, .slice a xs.length cp] 24)) := (Below.refl _ w).alloc (Nat.le_refl _) _
  have HB0 := Lib.hid hb0
  have HC := Lib.hid (right18_any k i b u t m a cp xs (w.alloc (.cells #[.string (st k), .string (st i), .string (st b), .string (st u), .string (st t), .int .i64 m, .slice a xs.length cp] 24)) hk (hr.keep hb0) hc hl)
  obtain ⟨E, hEE⟩ : ∃ E, E = rightC ⟨k, i, b, u, t, m, xs⟩ := ⟨_, rfl⟩
  rw [← hEE] at HC hE ⊢
  have t1 : (E != 0) = true := by rw [bne_iff_ne]; exact hE
  clear hEE hE hr hb0
  go_enter Tryz.func9, Tryz.ntmps9
  go_wp2_with fail
  refine HC.out.mono ?_
  rintro e w1 ⟨rfl, hb⟩
  have HB1 := Lib.hid (bel_onG HB0.out HB0.out.size hb)
  clear hb
  go_wp2
  go_ret2
  exact ⟨rfl, HB1.out⟩

set_option maxHeartbeats 6400000 in
set_option maxRecDepth 100000 in
theorem encode_good (k i b u t : List UInt8) (m : Int) (a : Option Addr) (cp : Nat) (xs : List Sh) (w : World) (hk : k.length ≤ maxLen) (hr : RowG 2 cSh w a xs) (hc : xs.length ≤ cp) (hE : rightC ⟨k, i, b, u, t, m, xs⟩ = 0) (Z : List UInt8) (hZ : Z = bytesC ⟨k, i, b, u, t, m, xs⟩) :
    Calls Tryz.prog 9 #[.agg #[.string (st k), .string (st i), .string (st b), .string (st u), .string (st t), .int .i64 m, .slice a xs.length cp]] w fun e w' => e = .returned (.tuple #[.string (st Z), .int .i64 0]) ∧ Below w.heap.size w w' := by
  obtain ⟨q1, q2, q3, q4, q5, hm0, hm1, hx8, hxb, _⟩ := good_small (good_of hE)
  simp only at q1 q2 q3 q4 q5 hm0 hm1 hx8 hxb
  have hb0 : Below w.heap.size w (w.alloc (.cells #[.string (st k), .string (st i), .string (st b), .string (st u), .string (st t), .int .i64 m, .slice a xs.length cp] 24)) := (Below.refl _ w).alloc (Nat.le_refl _) _
  have HB0 := Lib.hid hb0
  have HR := Lib.hid (hr.keep hb0)
  have HBX : Hid (Blk (w.alloc (.cells #[.string (st k), .string (st i), .string (st b), .string (st u), .string (st t), .int .i64 m, .slice a xs.length cp] 24)) w.heap.size 24 #[.string (st k), .string (st i), .string (st b), .string (st u), .string (st t), .int .i64 m, .slice a xs.length cp]) := Blk.new w _ _
  have HC := Lib.hid (right18_any k i b u t m a cp xs (w.alloc (.cells #[.string (st k), .string (st i), .string (st b), .string (st u), .string (st t), .int .i64 m, .slice a xs.length cp] 24)) hk (hr.keep hb0) hc (by omega))
  rw [hE] at HC
  have HXB := Lib.hid hxb
  obtain ⟨n, hn⟩ : ∃ n, n = xs.length := ⟨_, rfl⟩
  have HN := Lib.hid hn
  have HZ : Hid (Z = (txt k ++ txt i ++ txt b ++ txt u ++ txt t ++ lowL 8 (wd m) ++ lowL 8 (wd (n : Int))) ++ shB xs) := by show _ = _; rw [hZ, hn]; unfold bytesC; simp only
  obtain ⟨SK, hSK⟩ : ∃ S, S = st k := ⟨_, rfl⟩
  obtain ⟨SI, hSI⟩ : ∃ S, S = st i := ⟨_, rfl⟩
  obtain ⟨SB, hSB⟩ : ∃ S, S = st b := ⟨_, rfl⟩
  obtain ⟨SU, hSU⟩ : ∃ S, S = st u := ⟨_, rfl⟩
  obtain ⟨SC, hSC⟩ : ∃ S, S = st t := ⟨_, rfl⟩
  have T1 : ∀ {w0 : World} {bx bw : Nat} {cs : Array Value} {ps : List (List UInt8)} (W : World), EnP w0 bx bw cs W ps → Hid (Calls Tryz.prog 24 #[.pointer (some ⟨bw, 0, none⟩), .string SK] W fun e w' => e = .returned (.pointer (some ⟨bw, 0, none⟩)) ∧ EnP w0 bx bw cs w' (txt k :: ps) ∧ W.grownBy w' (some bw)) := fun W h => h.text k SK hSK (by omega)
  have T2 : ∀ {w0 : World} {bx bw : Nat} {cs : Array Value} {ps : List (List UInt8)} (W : World), EnP w0 bx bw cs W ps → Hid (Calls Tryz.prog 24 #[.pointer (some ⟨bw, 0, none⟩), .string SI] W fun e w' => e = .returned (.pointer (some ⟨bw, 0, none⟩)) ∧ EnP w0 bx bw cs w' (txt i :: ps) ∧ W.grownBy w' (some bw)) := fun W h => h.text i SI hSI (by omega)
  have T3 : ∀ {w0 : World} {bx bw : Nat} {cs : Array Value} {ps : List (List UInt8)} (W : World), EnP w0 bx bw cs W ps → Hid (Calls Tryz.prog 24 #[.pointer (some ⟨bw, 0, none⟩), .string SB] W fun e w' => e = .returned (.pointer (some ⟨bw, 0, none⟩)) ∧ EnP w0 bx bw cs w' (txt b :: ps) ∧ W.grownBy w' (some bw)) := fun W h => h.text b SB hSB (by omega)
  have T4 : ∀ {w0 : World} {bx bw : Nat} {cs : Array Value} {ps : List (List UInt8)} (W : World), EnP w0 bx bw cs W ps → Hid (Calls Tryz.prog 24 #[.pointer (some ⟨bw, 0, none⟩), .string SU] W fun e w' => e = .returned (.pointer (some ⟨bw, 0, none⟩)) ∧ EnP w0 bx bw cs w' (txt u :: ps) ∧ W.grownBy w' (some bw)) := fun W h => h.text u SU hSU (by omega)
  have T5 : ∀ {w0 : World} {bx bw : Nat} {cs : Array Value} {ps : List (List UInt8)} (W : World), EnP w0 bx bw cs W ps → Hid (Calls Tryz.prog 24 #[.pointer (some ⟨bw, 0, none⟩), .string SC] W fun e w' => e = .returned (.pointer (some ⟨bw, 0, none⟩)) ∧ EnP w0 bx bw cs w' (txt t :: ps) ∧ W.grownBy w' (some bw)) := fun W h => h.text t SC hSC (by omega)
  have I1 : ∀ {w0 : World} {bx bw : Nat} {cs : Array Value} {ps : List (List UInt8)} (W : World), EnP w0 bx bw cs W ps → Hid (Calls Tryz.prog 25 #[.pointer (some ⟨bw, 0, none⟩), .int .i64 m] W fun e w' => e = .returned (.pointer (some ⟨bw, 0, none⟩)) ∧ EnP w0 bx bw cs w' (lowL 8 (wd m) :: ps) ∧ W.grownBy w' (some bw)) := fun W h => h.int m
  have I2 : ∀ {w0 : World} {bx bw : Nat} {cs : Array Value} {ps : List (List UInt8)} (W : World), EnP w0 bx bw cs W ps → Hid (Calls Tryz.prog 25 #[.pointer (some ⟨bw, 0, none⟩), .int .i64 (n : Int)] W fun e w' => e = .returned (.pointer (some ⟨bw, 0, none⟩)) ∧ EnP w0 bx bw cs w' (lowL 8 (wd (n : Int)) :: ps) ∧ W.grownBy w' (some bw)) := fun W h => h.int (n : Int)
  rw [← hn] at HB0 HR HBX HC hx8 ⊢
  rw [← hSK, ← hSI, ← hSB, ← hSU, ← hSC] at HB0 HR HBX HC ⊢
  have HKL := Lib.hid (⟨q1, q2, q3, q4, q5⟩ : k.length ≤ 10 ∧ i.length ≤ 20 ∧ b.length ≤ 60 ∧ u.length ≤ 3 ∧ t.length ≤ 20)
  clear hn hr hc hk hE hb0 hm0 hm1 hxb hZ hSK hSI hSB hSU hSC q1 q2 q3 q4 q5
  go_enter Tryz.func9, Tryz.ntmps9
  go_upto_region 1 with fail
  obtain ⟨bx, hbx⟩ : ∃ bx, bx = w.heap.size := ⟨_, rfl⟩
  have HE := Lib.hid hbx
  rw [← hbx] at HBX HB0 ⊢
  generalize w.alloc (.cells #[.string SK, .string SI, .string SB, .string SU, .string SC, .int .i64 m, .slice a n cp] 24) = w0 at HBX HB0 HR HC ⊢
  have hsz0 : bx < w0.heap.size := HBX.out.lt
  clear hbx
  obtain ⟨d0, d1, d2, d3, d4, d5, d6⟩ := cell_seven HBX.out
  go_wp2_with fail
  refine HC.out.mono ?_
  rintro e w1 ⟨rfl, hb⟩
  have HBX1 := Lib.hid (HBX.out.since hb)
  have HB1 := Lib.hid hb
  clear hb d0 d1 d2 d3 d4 d5 d6 HC
  go_upto_region 5 with fail
  obtain ⟨bw, hbw⟩ : ∃ bw, bw = w1.heap.size := ⟨_, rfl⟩
  have HEP : Hid (EnP w1 bx bw #[.string SK, .string SI, .string SB, .string SU, .string SC, .int .i64 m, .slice a n cp] (w1.alloc (.cells #[.pointer none, .bool false] 52)) []) := ⟨⟨by rw [hbw]; exact Nat.le_refl _, none, by rw [hbw]; exact Blk.new w1 _ _, rfl⟩, HBX1.out.alloc _, by rw [hbw]; exact (Below.refl _ w1).alloc (Nat.le_refl _) _, by rw [hbw]; exact HBX1.out.lt⟩
  have HBW : Hid (w0.heap.size ≤ bw) := by rw [hbw]; exact HB1.out.size
  rw [← hbw]
  generalize w1.alloc (.cells #[.pointer none, .bool false] 52) = w2 at HEP ⊢
  clear hbw HBX1
  obtain ⟨d0, d1, d2, d3, d4, d5, d6⟩ := HEP.out.drew.cells
  have D0 := HEP.out.drew
  go_region_held3 (fun w' => w'.cell? ⟨bx, 0, none⟩ = some (.string SK) ∧ w'.cell? ⟨bx, 1, none⟩ = some (.string SI) ∧ w'.cell? ⟨bx, 2, none⟩ = some (.string SB) ∧ w'.cell? ⟨bx, 3, none⟩ = some (.string SU) ∧ w'.cell? ⟨bx, 4, none⟩ = some (.string SC))
    (first | with_reducible exact ⟨d0, d1, d2, d3, d4⟩ | with_reducible exact h1 | with_reducible exact h2 | with_reducible exact h3 | with_reducible exact h4 | with_reducible exact h5 | go_keep)
    (first
      | (go_at_call 24; ((with_reducible refine (T1 _ (by exact D0)).out.mono ?_); rintro e x1 ⟨rfl, D1, _⟩; have h1 := (show _ ∧ _ ∧ _ ∧ _ ∧ _ from ⟨D1.cells.1, D1.cells.2.1, D1.cells.2.2.1, D1.cells.2.2.2.1, D1.cells.2.2.2.2.1⟩)))
      | (go_at_call 24; ((with_reducible refine (T2 _ (by exact D1)).out.mono ?_); rintro e x2 ⟨rfl, D2, _⟩; have h2 := (show _ ∧ _ ∧ _ ∧ _ ∧ _ from ⟨D2.cells.1, D2.cells.2.1, D2.cells.2.2.1, D2.cells.2.2.2.1, D2.cells.2.2.2.2.1⟩)))
      | (go_at_call 24; ((with_reducible refine (T3 _ (by exact D2)).out.mono ?_); rintro e x3 ⟨rfl, D3, _⟩; have h3 := (show _ ∧ _ ∧ _ ∧ _ ∧ _ from ⟨D3.cells.1, D3.cells.2.1, D3.cells.2.2.1, D3.cells.2.2.2.1, D3.cells.2.2.2.2.1⟩)))
      | (go_at_call 24; ((with_reducible refine (T4 _ (by exact D3)).out.mono ?_); rintro e x4 ⟨rfl, D4, _⟩; have h4 := (show _ ∧ _ ∧ _ ∧ _ ∧ _ from ⟨D4.cells.1, D4.cells.2.1, D4.cells.2.2.1, D4.cells.2.2.2.1, D4.cells.2.2.2.2.1⟩)))
      | (go_at_call 24; ((with_reducible refine (T5 _ (by exact D4)).out.mono ?_); rintro e x5 ⟨rfl, D5, _⟩; have h5 := (show _ ∧ _ ∧ _ ∧ _ ∧ _ from ⟨D5.cells.1, D5.cells.2.1, D5.cells.2.2.1, D5.cells.2.2.2.1, D5.cells.2.2.2.2.1⟩))))
  have HD5 := Lib.hid D5
  clear D0 D1 D2 D3 D4 D5 h1 h2 h3 h4 h5 d0 d1 d2 d3 d4 d5 d6 T1 T2 T3 T4 T5 HEP
  go_upto_region 6 with fail
  obtain ⟨d0, d1, d2, d3, d4, d5, d6⟩ := HD5.out.drew.cells
  have D0 := HD5.out.drew
  go_region_held3 (fun w' => w'.cell? ⟨bx, 5, none⟩ = some (.int .i64 m) ∧ w'.cell? ⟨bx, 6, none⟩ = some (.slice a n cp))
    (first | with_reducible exact ⟨d5, d6⟩ | with_reducible exact h1 | with_reducible exact h2 | go_keep)
    (first
      | (go_at_call 25; ((with_reducible refine (I1 _ (by exact D0)).out.mono ?_); rintro e x6 ⟨rfl, D1, _⟩; have h1 := (show _ ∧ _ from ⟨D1.cells.2.2.2.2.2.1, D1.cells.2.2.2.2.2.2⟩)))
      | (go_at_call 25; ((with_reducible refine (I2 _ (by exact D1)).out.mono ?_); rintro e x7 ⟨rfl, D2, _⟩; have h2 := (show _ ∧ _ from ⟨D2.cells.2.2.2.2.2.1, D2.cells.2.2.2.2.2.2⟩))))
  have HD7 := Lib.hid D2
  clear D0 D1 D2 h1 h2 d0 d1 d2 d3 d4 d5 d6 I1 I2 HD5
  obtain ⟨P0, hP0⟩ : ∃ P0, P0 = txt k ++ txt i ++ txt b ++ txt u ++ txt t ++ lowL 8 (wd m) ++ lowL 8 (wd (n : Int)) := ⟨_, rfl⟩
  have HPL : Hid (P0.length ≤ 200) := by
    obtain ⟨q1, q2, q3, q4, q5⟩ := HKL.out
    show _ ≤ _
    rw [hP0]
    simp only [List.length_append, txt, lowL_length]
    omega
  rw [← hP0] at HZ
  obtain ⟨ps7, hps7⟩ : ∃ ps7, ps7 = [lowL 8 (wd (n : Int)), lowL 8 (wd m), txt t, txt u, txt b, txt i, txt k] := ⟨_, rfl⟩
  have HFL : Hid (flat ps7 = P0 ++ shB (xs.take 0)) := by show _ = _; rw [hps7, hP0]; simp [flat, shB]
  rw [← hps7] at HD7
  clear hP0 hps7 HKL
  obtain ⟨x9, hx9⟩ : ∃ x9, x9 = x7 := ⟨_, rfl⟩
  subst hx9
  obtain ⟨d0, d1, d2, d3, d4, d5, d6⟩ := HD7.out.cells
  go_wp2
  clear d0 d1 d2 d3 d4 d5 d6
  go_loopg [7, 41] n (fun gk _ ix wr => ∃ (j : Nat) (ps : List (List UInt8)), j ≤ n ∧ ix = .int .i64 j ∧ n - j ≤ gk ∧ Hid (flat ps = P0 ++ shB (xs.take j)) ∧ Hid (EnP w1 bx bw #[.string SK, .string SI, .string SB, .string SU, .string SC, .int .i64 m, .slice a n cp] wr ps))
  case atStart => exact ⟨0, ps7, Nat.zero_le _, rfl, by omega, HFL.out, HD7.out⟩
  case round =>
    clear HD7 HFL
    obtain ⟨j, ps, hj, rfl, hgk, HFL, HD⟩ := hrel
    have HBR : Hid (Below w0.heap.size w0 wr) := HB1.out.trans (bel_lessG HD.out.below HBW.out)
    by_cases hlt : j < n
    · obtain ⟨x, hx⟩ : ∃ x, xs[j]? = some x := ⟨_, List.getElem?_eq_getElem (by rw [← HN.out]; exact hlt)⟩
      have hbad := badS_not (HXB.out x (List.mem_of_getElem? hx))
      obtain ⟨p, q⟩ := x
      simp only at hbad
      obtain ⟨b1, off, rfl⟩ := HR.out.form (by rw [← HN.out]; omega)
      have hat := (HR.out.keep HBR.out).at hx
      have c0 : wr.cell? ⟨b1, off + j * 2, none⟩ = some (.string (st p)) := by simpa using hat 0 _ rfl
      have c1 : wr.cell? ⟨b1, off + j * 2 + 1, none⟩ = some (.int .i64 q) := hat 1 _ rfl
      have HF2 : Hid (flat (lowL 8 (wd q) :: txt p :: ps) = P0 ++ shB (xs.take (j + 1))) := by
        show _ = _
        rw [shB_next hx, ← List.append_assoc, ← HFL.out]
        simp [flat]
      obtain ⟨SP, hSP⟩ : ∃ S, S = st p := ⟨_, rfl⟩
      have TP : ∀ {w0 : World} {bx bw : Nat} {cs : Array Value} {ps : List (List UInt8)} (W : World), EnP w0 bx bw cs W ps → Hid (Calls Tryz.prog 24 #[.pointer (some ⟨bw, 0, none⟩), .string SP] W fun e w' => e = .returned (.pointer (some ⟨bw, 0, none⟩)) ∧ EnP w0 bx bw cs w' (txt p :: ps) ∧ W.grownBy w' (some bw)) := fun W h => h.text p SP hSP (by omega)
      have IP : ∀ {w0 : World} {bx bw : Nat} {cs : Array Value} {ps : List (List UInt8)} (W : World), EnP w0 bx bw cs W ps → Hid (Calls Tryz.prog 25 #[.pointer (some ⟨bw, 0, none⟩), .int .i64 q] W fun e w' => e = .returned (.pointer (some ⟨bw, 0, none⟩)) ∧ EnP w0 bx bw cs w' (lowL 8 (wd q) :: ps) ∧ W.grownBy w' (some bw)) := fun W h => h.int q
      rw [← hSP] at c0
      have hkz : (0 : Int) ≤ (j : Int) := by omega
      have hkn : (j : Int) < (n : Int) := by omega
      clear hx hbad hat hSP HFL HBR
      go_upto_region 10 with fail
      have hbx := Blk.new wr 39 #[.string SP, .int .i64 q]
      have hbd : Below wr.heap.size wr (wr.alloc (.cells #[.string SP, .int .i64 q] 39)) := (Below.refl _ wr).alloc (Nat.le_refl _) _
      have HDa := Lib.hid (HD.out.keep hbd)
      have hYb : wr.heap.size ≠ bw := by have := HD.out.size; omega
      obtain ⟨Y, hY⟩ : ∃ Y, Y = wr.heap.size := ⟨_, rfl⟩
      rw [← hY] at hbx hYb ⊢
      generalize wr.alloc (.cells #[.string SP, .int .i64 q] 39) = wc at hbx HDa ⊢
      have k0 : wc.drew.cell? ⟨Y, 0, none⟩ = some (.string SP) ∧ wc.drew.cell? ⟨Y, 1, none⟩ = some (.int .i64 q) := ⟨hbx.cell 0, hbx.cell 1⟩
      have K0 : Blk wc.drew Y 39 #[.string SP, .int .i64 q] := hbx
      have D0 := HDa.out.drew
      clear c0 c1 hbx hbd hY HD HDa
      go_region_held3 (fun w' => w'.cell? ⟨Y, 0, none⟩ = some (.string SP) ∧ w'.cell? ⟨Y, 1, none⟩ = some (.int .i64 q))
        (first | with_reducible exact k0 | with_reducible exact h1 | with_reducible exact h2 | go_keep)
        (first
          | (go_at_call 24; ((with_reducible refine (TP _ (by exact D0)).out.mono ?_); rintro e x6 ⟨rfl, D1, hg1⟩; have K1 := K0.kept hg1 (fun e => hYb (Option.some.inj e)); have h1 := (show _ ∧ _ from ⟨K1.cell 0, K1.cell 1⟩)))
          | (go_at_call 25; ((with_reducible refine (IP _ (by exact D1)).out.mono ?_); rintro e x8 ⟨rfl, D2, hg2⟩; have K2 := K1.kept hg2 (fun e => hYb (Option.some.inj e)); have h2 := (show _ ∧ _ from ⟨K2.cell 0, K2.cell 1⟩))))
      have HD2 := Lib.hid D2
      clear D0 D1 D2 K0 K1 K2 k0 h1 h2 hg1 hg2 TP IP
      go_wp2
      go_roundg (n - (j + 1))
      case measure => omega
      case rel => exact ⟨j + 1, _, by omega, by go_num, by omega, HF2.out, HD2.out⟩
    · have hkn : ¬ ((j : Int) < (n : Int)) := by omega
      have HT : Hid (xs.take j = xs) := List.take_of_length_le (by rw [← HN.out]; omega)
      have HFZ : Hid (flat ps = Z) := by show _ = _; rw [HFL.out, HT.out, HZ.out]
      have HBY : Hid (Calls Tryz.prog 26 #[.pointer (some ⟨bw, 0, none⟩)] wr fun e w' => e = .returned (.tuple #[.string (st Z), .int .i64 0]) ∧ Below wr.heap.size wr w') := by
        have h := bytes_any bw bw ps wr HD.out.wat (by
          have h1 := shB_len xs HXB.out
          have h2 := HPL.out
          rw [HFZ.out, HZ.out, List.length_append]
          have h3 := HN.out
          omega)
        rw [HFZ.out] at h
        exact h
      have HBF : Hid (Below bx w wr) := HB0.out.trans (bel_lessG HBR.out (Nat.le_of_lt hsz0))
      have hszr : bx ≤ wr.heap.size := Nat.le_of_lt HD.out.box.lt
      clear HFL HT HFZ HD
      go_wp2_with fail
      refine HBY.out.mono ?_
      rintro e w4 ⟨rfl, hb⟩
      have HBG : Hid (Below bx w w4) := HBF.out.trans (bel_lessG hb hszr)
      clear hb
      go_wp2
      go_ret2
      exact ⟨rfl, by rw [← HE.out]; exact HBG.out⟩
end Go.Proofs.YtkflakeocdlinaaGreatDoor
/-
  Plain: the command that some bytes are.
-/
namespace Go.Proofs.YtkflakeocdlinaaGreatDoor
open Go.RowKit Go.Deep

/-- a number, as it is read -/
def iv8 (l : List UInt8) : Int := sg (numL (tk 8 l))
/-- behind some shares, and these -/
def rdR : Nat → List UInt8 → List UInt8
  | 0, l => l
  | n + 1, l => lf 8 (tl (rdR n l))
def shAt (l : List UInt8) : Sh := (tt l, iv8 (tl l))
def rdX : Nat → List UInt8 → List Sh
  | 0, _ => []
  | n + 1, l => rdX n l ++ [shAt (rdR n l)]
def tl5 (l : List UInt8) : List UInt8 := tl (tl (tl (tl (tl l))))
/-- how many shares are told, and what is behind that -/
def nSh (l : List UInt8) : Int := iv8 (lf 8 (tl5 l))
def bSh (l : List UInt8) : List UInt8 := lf 8 (lf 8 (tl5 l))
def decN (l : List UInt8) (n : Nat) : Cm := ⟨tt l, tt (tl l), tt (tl (tl l)), tt (tl (tl (tl l))), tt (tl (tl (tl (tl l)))), iv8 (tl5 l), rdX n (bSh l)⟩
def decC (l : List UInt8) : Cm := decN l (min (nSh l) 8).toNat

theorem rdX_len : ∀ (n : Nat) (l : List UInt8), (rdX n l).length = n
  | 0, _ => rfl
  | n + 1, l => by rw [rdX, List.length_append, rdX_len n l]; rfl

theorem wf64 {z : Int} (h1 : -9223372036854775808 ≤ z) (h2 : z ≤ 9223372036854775807) : (Lit.int .i64 z).wf = true := by
  simp [Lit.wf, IntKind.min, IntKind.max, IntKind.signed, IntKind.bits]
  omega
theorem get_iv (z : Int) (l : List UInt8) (h1 : -9223372036854775808 ≤ z) (h2 : z ≤ 9223372036854775807) : iv8 (lowL 8 (wd z) ++ l) = z ∧ lf 8 (lowL 8 (wd z) ++ l) = l := by
  obtain ⟨e1, e2, _⟩ := get_num z l (wf64 h1 h2)
  exact ⟨e1, e2⟩
theorem get_tt (s l : List UInt8) (h : s.length ≤ 65535) : tt (txt s ++ l) = s ∧ tl (txt s ++ l) = l := by
  obtain ⟨e1, e2, _⟩ := get_text s l h
  exact ⟨e1, e2⟩

theorem rdX_of (R : List UInt8) (xs : List Sh) (h : ∀ s ∈ xs, badS s = false) : ∀ n, n ≤ xs.length → rdX n (shB xs ++ R) = xs.take n ∧ rdR n (shB xs ++ R) = shB (xs.drop n) ++ R
  | 0, _ => by simp [rdX, rdR]
  | n + 1, hn => by
    obtain ⟨h1, h2⟩ := rdX_of R xs h n (by omega)
    have hx : xs[n]? = some (xs[n]'(by omega)) := List.getElem?_eq_getElem _
    obtain ⟨⟨p, q⟩, hpq⟩ : ∃ y : Sh, xs[n]'(by omega) = y := ⟨_, rfl⟩
    rw [hpq] at hx
    have hb := badS_not (h (p, q) (List.mem_of_getElem? hx))
    simp only at hb
    have e : shB (xs.drop n) = txt p ++ (lowL 8 (wd q) ++ shB (xs.drop (n + 1))) := by
      rw [List.drop_eq_getElem_cons (show n < xs.length by omega), hpq]
      simp [shB]
    have e2 : rdR n (shB xs ++ R) = txt p ++ (lowL 8 (wd q) ++ (shB (xs.drop (n + 1)) ++ R)) := by rw [h2, e]; simp
    obtain ⟨t1, t2⟩ := get_tt p (lowL 8 (wd q) ++ (shB (xs.drop (n + 1)) ++ R)) (by omega)
    obtain ⟨i1, i2⟩ := get_iv q (shB (xs.drop (n + 1)) ++ R) (by omega) (by omega)
    constructor
    · rw [rdX, h1, e2, List.take_succ_eq_append_getElem (show n < xs.length by omega), hpq]
      unfold shAt
      rw [t1, t2, i1]
    · rw [rdR, e2, t2, i2]

/-- what is read of a right command's bytes -/
theorem dec_parts {c : Cm} (hg : GoodC c) (R : List UInt8) : nSh (bytesC c ++ R) = (c.sh.length : Int) ∧ decN (bytesC c ++ R) c.sh.length = c := by
  obtain ⟨k, i, b, u, t, m, xs⟩ := c
  obtain ⟨q1, q2, q3, q4, q5, hm0, hm1, hx8, hxb, _⟩ := good_small hg
  simp only at q1 q2 q3 q4 q5 hm0 hm1 hx8 hxb
  have e0 : bytesC ⟨k, i, b, u, t, m, xs⟩ ++ R = txt k ++ (txt i ++ (txt b ++ (txt u ++ (txt t ++ (lowL 8 (wd m) ++ (lowL 8 (wd (xs.length : Int)) ++ (shB xs ++ R))))))) := by
    unfold bytesC; simp
  obtain ⟨a1, b1⟩ := get_tt k (txt i ++ (txt b ++ (txt u ++ (txt t ++ (lowL 8 (wd m) ++ (lowL 8 (wd (xs.length : Int)) ++ (shB xs ++ R))))))) (by omega)
  obtain ⟨a2, b2⟩ := get_tt i (txt b ++ (txt u ++ (txt t ++ (lowL 8 (wd m) ++ (lowL 8 (wd (xs.length : Int)) ++ (shB xs ++ R)))))) (by omega)
  obtain ⟨a3, b3⟩ := get_tt b (txt u ++ (txt t ++ (lowL 8 (wd m) ++ (lowL 8 (wd (xs.length : Int)) ++ (shB xs ++ R))))) (by omega)
  obtain ⟨a4, b4⟩ := get_tt u (txt t ++ (lowL 8 (wd m) ++ (lowL 8 (wd (xs.length : Int)) ++ (shB xs ++ R)))) (by omega)
  obtain ⟨a5, b5⟩ := get_tt t (lowL 8 (wd m) ++ (lowL 8 (wd (xs.length : Int)) ++ (shB xs ++ R))) (by omega)
  obtain ⟨a6, b6⟩ := get_iv m (lowL 8 (wd (xs.length : Int)) ++ (shB xs ++ R)) (by omega) (by omega)
  obtain ⟨a7, b7⟩ := get_iv (xs.length : Int) (shB xs ++ R) (by omega) (by omega)
  obtain ⟨x1, _⟩ := rdX_of R xs hxb xs.length (Nat.le_refl _)
  rw [e0]
  unfold nSh decN bSh tl5
  simp only [b1, b2, b3, b4, b5, b6, b7, a1, a2, a3, a4, a5, a6, a7, x1]
  simp
theorem dec_bytes {c : Cm} (hg : GoodC c) : nSh (bytesC c) = (c.sh.length : Int) ∧ decC (bytesC c) = c := by
  obtain ⟨h1, h2⟩ := dec_parts hg []
  rw [List.append_nil] at h1 h2
  refine ⟨h1, ?_⟩
  have h8 : c.sh.length ≤ 8 := (good_small hg).2.2.2.2.2.2.2.1
  unfold decC
  rw [h1, show (min (c.sh.length : Int) 8).toNat = c.sh.length by omega]
  exact h2

theorem tk_len (n : Nat) (l : List UInt8) : (tk n l).length ≤ l.length := by unfold tk; split <;> simp <;> omega
theorem lf_len (n : Nat) (l : List UInt8) : (lf n l).length ≤ l.length := by unfold lf; split <;> simp
theorem tt_len (l : List UInt8) : (tt l).length ≤ l.length := by
  unfold tt
  exact Nat.le_trans (tk_len _ _) (lf_len _ _)
theorem tl_len (l : List UInt8) : (tl l).length ≤ l.length := by
  unfold tl
  exact Nat.le_trans (lf_len _ _) (lf_len _ _)

/-- what Encode answers -/
def enT (c : Cm) : List UInt8 := if rightC c = 0 then bytesC c else []
theorem encode_any18 (c : Cm) (a : Option Addr) (cp : Nat) (w : World) (hk : c.kind.length ≤ maxLen) (hr : RowG 2 cSh w a c.sh) (hc : c.sh.length ≤ cp) (hl : c.sh.length ≤ 4611686018427387904) :
    Calls Tryz.prog 9 #[.agg #[.string (st c.kind), .string (st c.id), .string (st c.about), .string (st c.cur), .string (st c.cat), .int .i64 c.amt, .slice a c.sh.length cp]] w fun e w' => e = .returned (.tuple #[.string (st (enT c)), .int .i64 (rightC c)]) ∧ Below w.heap.size w w' := by
  obtain ⟨k, i, b, u, t, m, xs⟩ := c
  simp only at hk hr hc hl ⊢
  by_cases hE : rightC ⟨k, i, b, u, t, m, xs⟩ = 0
  · have e : enT ⟨k, i, b, u, t, m, xs⟩ = bytesC ⟨k, i, b, u, t, m, xs⟩ := by unfold enT; rw [if_pos hE]
    rw [e, hE]
    exact encode_good k i b u t m a cp xs w hk hr hc hE _ rfl
  · have e : enT ⟨k, i, b, u, t, m, xs⟩ = [] := by unfold enT; rw [if_neg hE]
    rw [e]
    exact encode_bad k i b u t m a cp xs w hk hr hc hl hE

/-- nothing -/
def cNone : Cm := ⟨[], [], [], [], [], 0, []⟩
end Go.Proofs.YtkflakeocdlinaaGreatDoor
