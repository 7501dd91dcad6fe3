/-
  Contract of command.Print; a command's text.
-/
import Derived.Test.YtkflakeocdlinaaGreatDoorMC06
import Derived.Test.YtkflakeocdlinaaGreatDoorMC07
import Derived.Test.YtkflakeocdlinaaGreatDoorMC03
import Derived.Lib.SplitLaws
import Derived.Lib.ParseIntBTie
import Derived.Lib.ParseIntBCases
namespace Go.Proofs.YtkflakeocdlinaaGreatDoor
open Go.RowKit Go.Deep

/-- a command's words, and its text -/
def wordsC (c : Cm) (f : List Nat) : List (List UInt8) := c.kind :: f.flatMap (wordsF c)
def textF (c : Cm) (f : List Nat) : List UInt8 := Go.Lib.join (wordsC c f) [32]
def textC (c : Cm) : List UInt8 := match formC c.kind with | some f => textF c f | none => []

theorem orD_len {t : List UInt8} (h : t.length ≤ 20) : (orD t).length ≤ 20 := by unfold orD; split <;> simp_all
theorem wordsF_small {c : Cm} (h : GoodC c) (x : Nat) : (wordsF c x).length ≤ 8 ∧ ∀ s ∈ wordsF c x, s.length ≤ 60 := by
  obtain ⟨h1, h2, h3, h4, h5, h6, h7, h8, h9, _⟩ := good_small h
  have hd := digL_len (n := c.amt.toNat) (by omega)
  have ho := orD_len h5
  match x with
  | 0 => exact ⟨by simp [wordsF], fun s hs => by simp [wordsF] at hs; rw [hs]; omega⟩
  | 1 => exact ⟨by simp [wordsF], fun s hs => by simp [wordsF] at hs; rw [hs]; omega⟩
  | 2 => exact ⟨by simp [wordsF], fun s hs => by simp [wordsF] at hs; rw [hs]; omega⟩
  | 3 => exact ⟨by simp [wordsF], fun s hs => by simp [wordsF] at hs; rw [hs]; omega⟩
  | 4 => exact ⟨by simp [wordsF], fun s hs => by simp [wordsF] at hs; rw [hs]; omega⟩
  | 5 => exact ⟨by simp [wordsF], fun s hs => by simp [wordsF] at hs; rw [hs]; omega⟩
  | 6 => exact ⟨by simp [wordsF], fun s hs => by simp [wordsF] at hs; rw [hs]; omega⟩
  | 7 => exact ⟨by simp [wordsF], fun s hs => by simp [wordsF] at hs; rw [hs]; omega⟩
  | n + 8 =>
    have e : wordsF c (n + 8) = c.sh.map fun s => s.1 ++ [58] ++ digL s.2.toNat := rfl
    rw [e]
    refine ⟨by rw [List.length_map]; exact h8, fun s hs => ?_⟩
    obtain ⟨y, hy, rfl⟩ := List.mem_map.1 hs
    have hb := badS_not (h9 y hy)
    have := digL_len (n := y.2.toNat) (by omega)
    simp
    omega
theorem words_len {c : Cm} (h : GoodC c) : ∀ (f : List Nat), (f.flatMap (wordsF c)).length ≤ 8 * f.length
  | [] => by simp
  | x :: r => by
    have h1 := (wordsF_small h x).1
    have h2 := words_len h r
    rw [List.flatMap_cons, List.length_append, List.length_cons]
    omega
theorem words_each {c : Cm} (h : GoodC c) (f : List Nat) : ∀ s ∈ wordsC c f, s.length ≤ 60 := by
  intro s hs
  unfold wordsC at hs
  rcases List.mem_cons.1 hs with rfl | hs
  · have := (good_small h).1; omega
  · obtain ⟨x, _, hx⟩ := List.mem_flatMap.1 hs
    exact (wordsF_small h x).2 s hx
theorem lens_le : ∀ (l : List (List UInt8)) (m : Nat), (∀ s ∈ l, s.length ≤ m) → Go.Lib.lens l ≤ m * l.length
  | [], m, _ => by simp [Go.Lib.lens]
  | x :: r, m, h => by
    have h1 := h x (by simp)
    have h2 := lens_le r m (fun s hs => h s (by simp [hs]))
    have e : Go.Lib.lens (x :: r) = x.length + Go.Lib.lens r := by simp [Go.Lib.lens]
    rw [e, List.length_cons, Nat.mul_succ]
    omega
theorem textF_len {c : Cm} (h : GoodC c) {f : List Nat} (hf : f.length ≤ 5) : (textF c f).length ≤ 3000 := by
  unfold textF wordsC
  rw [Go.Lib.join_length]
  have h1 := words_len h f
  have h2 := lens_le (c.kind :: f.flatMap (wordsF c)) 60 (words_each h f)
  simp only [List.length_cons, List.length_nil] at h2 ⊢
  omega
theorem words_takeF {c : Cm} {f : List Nat} {j x : Nat} (hx : f[j]? = some x) : c.kind :: (f.take (j + 1)).flatMap (wordsF c) = (c.kind :: (f.take j).flatMap (wordsF c)) ++ wordsF c x := by
  obtain ⟨h1, h2⟩ := List.getElem?_eq_some_iff.1 hx
  rw [List.take_succ_eq_append_getElem h1, h2, List.flatMap_append]
  simp

theorem RowG.rowS {w : World} {a : Option Addr} {ls : List (List UInt8)} (h : RowG 1 cTx w a ls) : RowS w a ls := by
  intro h0
  obtain ⟨b, off, e, hc⟩ := h h0
  refine ⟨b, off, e, fun i x hx => ?_⟩
  have := hc i x hx 0 _ rfl
  rwa [Nat.mul_one, Nat.add_zero] at this
theorem join_anyC (g cp : Nat) (W : List (List UInt8)) (w : World) (hr : RowS w (some ⟨g, 0, none⟩) W) (h0 : 0 < W.length) (hl : W.length ≤ 1000) (hc : W.length ≤ cp) (ht : (Go.Lib.join W [32]).length ≤ 100000) :
    Calls Tryz.prog 28 #[.slice (some ⟨g, 0, none⟩) W.length cp, .string ⟨#[32]⟩] w fun e w' => e = .returned (.string (st (Go.Lib.join W [32]))) ∧ Below w.heap.size w w' := by
  obtain ⟨b, off, e, hcell⟩ := hr h0
  simp only [Option.some.injEq, Addr.mk.injEq, and_true] at e
  obtain ⟨rfl, rfl⟩ := e
  have e1 : (W.map st).map (fun x : ByteArray => x.data.toList) = W := by
    rw [List.map_map]
    conv => rhs; rw [← List.map_id W]
    refine List.map_congr_left fun x _ => ?_
    exact st_toList x
  have hlt : g < w.heap.size := by
    obtain ⟨x, hx⟩ : ∃ x, W[0]? = some x := ⟨_, List.getElem?_eq_getElem h0⟩
    exact World.block_lt_of_cell? _ _ (hcell 0 x hx)
  have h := Tryz.strings_Join g 0 cp (W.map st) ⟨#[32]⟩ w (fun j x hx => by
    rw [List.getElem?_map] at hx
    obtain ⟨y, hy, rfl⟩ := Option.map_eq_some_iff.1 hx
    exact hcell j y hy) hlt (by rw [List.length_map]; omega) (by rw [List.length_map]; exact hc) (by rw [e1]; show (Go.Lib.join W [32]).length ≤ _; omega)
  rw [e1, List.length_map] at h
  exact h

set_option maxHeartbeats 1600000 in
theorem print_bad (k i b u t : List UInt8) (m : Int) (a : Option Addr) (cp : Nat) (xs : List Sh) (w : World) (hk : k.length ≤ maxLen) (hr : RowG 2 cSh w a xs) (hc : xs.length ≤ cp) (hl : xs.length ≤ 4611686018427387904) (hE : rightC ⟨k, i, b, u, t, m, xs⟩ ≠ 0) :
    Calls Tryz.prog 10 #[.agg #[.string (st k), .string (st i), .string (st b), .string (st u), .string (st t), .int .i64 m, .slice a xs.length cp]] w fun e w' => e = .returned (.tuple #[.string (st []), .int .i64 (rightC ⟨k, i, b, u, t, m, xs⟩)]) ∧ Below w.heap.size w w' := by
  have hb0 : Below w.heap.size w (w.alloc (.cells #[.string (st k), .string (st i), .string (st b), .string (st u), .string (st t), .int .i64 m, .slice a xs.length cp] 24)) := (Below.refl _ w).alloc (Nat.le_refl _) _
  have HB0 := Lib.hid hb0
  have HC := Lib.hid (right18_any k i b u t m a cp xs (w.alloc (.cells #[.string (st k), .string (st i), .string (st b), .string (st u), .string (st t), .int .i64 m, .slice a xs.length cp] 24)) hk (hr.keep hb0) hc hl)
  obtain ⟨E, hEE⟩ : ∃ E, E = rightC ⟨k, i, b, u, t, m, xs⟩ := ⟨_, rfl⟩
  rw [← hEE] at HC hE ⊢
  have t1 : (E != 0) = true := by rw [bne_iff_ne]; exact hE
  clear hEE hE hr hb0
  go_enter Tryz.func10, Tryz.ntmps10
  go_wp2_with fail
  refine HC.out.mono ?_
  rintro e w1 ⟨rfl, hb⟩
  have HB1 := Lib.hid (bel_onG HB0.out HB0.out.size hb)
  clear hb
  go_wp2
  go_ret2
  exact ⟨rfl, HB1.out⟩

set_option maxHeartbeats 6400000 in
set_option maxRecDepth 100000 in
theorem print_good (k i b u t : List UInt8) (m : Int) (a : Option Addr) (cp : Nat) (xs : List Sh) (f : List Nat) (w : World) (hk : k.length ≤ maxLen) (hf : formC k = some f) (ht : Tab w)
    (hr : RowG 2 cSh w a xs) (hc : xs.length ≤ cp) (hE : rightC ⟨k, i, b, u, t, m, xs⟩ = 0) :
    Calls Tryz.prog 10 #[.agg #[.string (st k), .string (st i), .string (st b), .string (st u), .string (st t), .int .i64 m, .slice a xs.length cp]] w fun e w' => e = .returned (.tuple #[.string (st (textF ⟨k, i, b, u, t, m, xs⟩ f)), .int .i64 0]) ∧ Below w.heap.size w w' := by
  have hg := good_of hE
  obtain ⟨_, _, _, _, _, hm0, hm1, hx8, hxb, _⟩ := good_small hg
  simp only at hm0 hm1 hx8 hxb
  have hfl5 := formC_le hf
  have HTL := Lib.hid (textF_len hg hfl5.1)
  have HWE := Lib.hid (words_len hg)
  have HGD := Lib.hid hg
  have HBX : Hid (Blk (w.alloc (.cells #[.string (st k), .string (st i), .string (st b), .string (st u), .string (st t), .int .i64 m, .slice a xs.length cp] 24)) w.heap.size 24 #[.string (st k), .string (st i), .string (st b), .string (st u), .string (st t), .int .i64 m, .slice a xs.length cp]) := Blk.new w _ _
  have hb0 : Below w.heap.size w (w.alloc (.cells #[.string (st k), .string (st i), .string (st b), .string (st u), .string (st t), .int .i64 m, .slice a xs.length cp] 24)) := (Below.refl _ w).alloc (Nat.le_refl _) _
  have HB0 := Lib.hid hb0
  have HR := Lib.hid (hr.keep hb0)
  have HT := Lib.hid (ht.keep hb0)
  have HC := Lib.hid (right18_any k i b u t m a cp xs (w.alloc (.cells #[.string (st k), .string (st i), .string (st b), .string (st u), .string (st t), .int .i64 m, .slice a xs.length cp] 24)) hk (hr.keep hb0) hc (by omega))
  rw [hE] at HC
  have HWR : Hid (∀ (x : Nat) (W : World), x ≤ 8 → Tab W → RowG 2 cSh W a xs → Calls Tryz.prog 27 #[.agg #[.string (st k), .string (st i), .string (st b), .string (st u), .string (st t), .int .i64 m, .slice a xs.length cp], .int .i64 (x : Int)] W (WrPost (wordsF ⟨k, i, b, u, t, m, xs⟩ x) W)) := fun x W hx hT hR => written_any ⟨k, i, b, u, t, m, xs⟩ x a cp W hx hT hR hx8 hxb ⟨hm0, hm1⟩
  have HWL : Hid (∀ x, (wordsF ⟨k, i, b, u, t, m, xs⟩ x).length ≤ 8) := fun x => (wordsF_small hg x).1
  have HFX := Lib.hid hfl5.2
  have HKL := Lib.hid hk
  have HFF := Lib.hid hf
  obtain ⟨n, hn⟩ : ∃ n, n = xs.length := ⟨_, rfl⟩
  obtain ⟨fl, hfl⟩ : ∃ fl, fl = f.length := ⟨_, rfl⟩
  have HFN := Lib.hid hfl
  have hf5 : fl ≤ 5 := by rw [hfl]; exact hfl5.1
  obtain ⟨C, hCC⟩ : ∃ C : Cm, C = ⟨k, i, b, u, t, m, xs⟩ := ⟨_, rfl⟩
  have HCK : Hid (C.kind = k) := by show _ = _; rw [hCC]
  rw [← hCC] at HTL HWE HGD HWR HWL ⊢
  rw [← hn] at HBX HB0 HR HT HC HWR ⊢
  clear hn hr hc ht hk hf hE hg hm0 hm1 hx8 hxb hfl5 hb0 hCC
  go_enter Tryz.func10, Tryz.ntmps10
  go_upto_region 1 with fail
  obtain ⟨bx, hbx⟩ : ∃ bx, bx = w.heap.size := ⟨_, rfl⟩
  have HE := Lib.hid hbx
  rw [← hbx] at HBX HB0 ⊢
  generalize w.alloc (.cells #[.string (st k), .string (st i), .string (st b), .string (st u), .string (st t), .int .i64 m, .slice a n cp] 24) = w0 at HBX HB0 HR HT HC ⊢
  have hsz0 : bx < w0.heap.size := HBX.out.lt
  clear hbx
  obtain ⟨d0, d1, d2, d3, d4, d5, d6⟩ := cell_seven HBX.out
  go_wp2_with fail
  refine HC.out.mono ?_
  rintro e w1 ⟨rfl, hb⟩
  have HBX1 := Lib.hid (HBX.out.since hb)
  have HB1 : Hid (Below w0.heap.size w0 w1) := hb
  clear hb d0 d1 d2 d3 d4 d5 d6 HC
  obtain ⟨d0, d1, d2, d3, d4, d5, d6⟩ := cell_seven HBX1.out
  go_upto_region 5 with fail
  obtain ⟨g5, hg5⟩ : ∃ g5, g5 = w1.heap.size := ⟨_, rfl⟩
  have HOW : Hid ((w1.alloc (.cells #[.string (st k)] 9)).ownsRow w0.heap.size 9 1 (.slice (some ⟨g5, 0, none⟩) 1 1) 1 (sv [k])) := by
    rw [hg5]
    exact ⟨by simp [sv], .inr ⟨w1.heap.size, 1, #[.string (st k)], rfl, HB1.out.size, heap_alloc_new w1 _, Nat.le_refl _, by unfold maxLen; omega, by simp, by simp [sv]⟩⟩
  have hb2 : Below w1.heap.size w1 (w1.alloc (.cells #[.string (st k)] 9)) := (Below.refl _ w1).alloc (Nat.le_refl _) _
  have HBX2 := Lib.hid (HBX1.out.since hb2)
  have HB2 := Lib.hid (bel_onG HB1.out HB1.out.size hb2)
  rw [← hg5]
  generalize w1.alloc (.cells #[.string (st k)] 9) = w2 at HOW HBX2 HB2 ⊢
  clear hb2 hg5 d0 d1 d2 d3 d4 d5 d6 HBX1 HB1
  have HF : ∀ W, Hid (Below w2.heap.size w2 W → Calls Tryz.prog 18 #[] W fun e w' => ∃ mm g, e = .returned (.map (some mm)) ∧ (Instr.lookup 42 (.map (some mm)) (.string (st k)) false).run Tryz.prog w' = .ok (.slice (some ⟨g, 0, none⟩) fl fl) w' ∧ RowF w' g f ∧ Below w2.heap.size w2 w') := fun W hW => by
    refine (cforms_some HFF.out HKL.out false W).mono ?_
    rintro e w' ⟨mm, g, rfl, hl, hrw, hb⟩
    rw [← hfl] at hl
    exact ⟨mm, g, rfl, hl, hrw, bel_onG hW hW.size hb⟩
  obtain ⟨d0, d1, d2, d3, d4, d5, d6⟩ := cell_seven HBX2.out
  clear hfl
  go_cut [19, 20, 21] from 16 to 21 (fun v19 v20 v21 wx => ∃ g, v19 = .slice (some ⟨g, 0, none⟩) fl fl ∧ v20 = .int .i64 (fl : Int) ∧ v21 = .int .i64 0 ∧ Hid (RowF wx g f) ∧ Hid (Below w2.heap.size w2 wx))
  case first =>
    go_region_with (first | (go_at_call 18; refine ((HF _).out (by exact (Below.refl _ w2).drew)).mono ?_; rintro e w3 ⟨mm, g, rfl, hrun, hrow, hb⟩; have HRW := Lib.hid hrow; have HB3 := Lib.hid hb; have c0 := (cell_seven (HBX2.out.since hb)).1; clear hb hrow) | fail)
    all_goals (go_wp2; go_meet; exact ⟨g, rfl, rfl, rfl, HRW.out, HB3.out⟩)
  case rest =>
    obtain ⟨g, rfl, rfl, rfl, HRW, HB3⟩ := hcut
    clear HF d0 d1 d2 d3 d4 d5 d6
    have HOW3 := Lib.hid (own_since HOW.out HB3.out)
    have HBX3 := Lib.hid (HBX2.out.since HB3.out)
    have HB33 := Lib.hid (bel_onG HB2.out HB2.out.size HB3.out)
    clear HOW HBX2 HB2 HB3
    obtain ⟨w3, hw3⟩ : ∃ w3, w3 = wc := ⟨_, rfl⟩
    subst hw3
    have HNE := Lib.hid (HRW.out.ne HOW3.out (by decide))
    go_wp2
    go_loopg [5, 7, 21] fl (fun gk v5 _ ix wr => ∃ (j : Nat) (W : List (List UInt8)) (nw : Nat), j ≤ fl ∧ ix = .int .i64 j ∧ fl - j ≤ gk ∧ Hid (W = k :: (f.take j).flatMap (wordsF C)) ∧ nw ≤ 1 + 8 * j ∧ Hid (nw = W.length) ∧ Hid (wr.ownsRow w0.heap.size 9 1 v5 nw (sv W)) ∧ Hid (Below w0.heap.size w0 wr) ∧ Hid (RowF wr g f))
    case atStart => exact ⟨0, [k], 1, Nat.zero_le _, rfl, by omega, rfl, by omega, rfl, HOW3.out, HB33.out, HRW.out⟩
    case round =>
      obtain ⟨j, W, nw, hj, rfl, hgk, HW, hnw, HNW, HOW, HBr, HRF⟩ := hrel
      have HBXr := Lib.hid (HBX.out.since HBr.out)
      obtain ⟨d0, d1, d2, d3, d4, d5, d6⟩ := cell_seven HBXr.out
      by_cases hlt : j < fl
      · obtain ⟨x, hx⟩ : ∃ x, f[j]? = some x := ⟨_, List.getElem?_eq_getElem (by rw [← HFN.out]; exact hlt)⟩
        have hx8 : x ≤ 8 := HFX.out x (List.mem_of_getElem? hx)
        have c0 : wr.cell? ⟨g, j, none⟩ = some (.int .i64 (x : Int)) := HRF.out.get hx
        have HWX := Lib.hid (HWR.out x wr hx8 (HT.out.keep HBr.out) (HR.out.keep HBr.out))
        have hwl := HWL.out x
        have HW2 : Hid (W ++ wordsF C x = k :: (f.take (j + 1)).flatMap (wordsF C)) := by
          show _ = _
          rw [HW.out, ← HCK.out, words_takeF hx]
        obtain ⟨X, hX⟩ : ∃ X, X = wordsF C x := ⟨_, rfl⟩
        rw [← hX] at HWX HW2 hwl
        unfold WrPost at HWX
        obtain ⟨nx, hnx⟩ : ∃ nx, nx = X.length := ⟨_, rfl⟩
        have HNX := Lib.hid hnx
        rw [← hnx] at HWX hwl
        have hkz : (0 : Int) ≤ (j : Int) := by omega
        have hkn : (j : Int) < (fl : Int) := by omega
        clear hx hx8 hX hnx
        go_wp2_with fail
        refine HWX.out.mono ?_
        rintro e w4 ⟨gx, rfl, hrx, hgx, hb⟩
        have HOW4 := Lib.hid (own_since HOW.out hb)
        have HB4 := Lib.hid (bel_onG HBr.out HBr.out.size hb)
        have HRF4 := Lib.hid (HRF.out.keep hb)
        have HNE4 := Lib.hid (HRF4.out.ne HOW4.out (by decide))
        have HCL : Hid (∀ (jj : Nat) (uu : Value), (sv X)[jj]? = some uu → w4.cell? ⟨gx, jj, none⟩ = some uu) := fun jj uu hu => by
          unfold sv at hu
          rw [List.getElem?_map] at hu
          obtain ⟨y, hy, rfl⟩ := Option.map_eq_some_iff.1 hu
          have := hrx.at hy 0 _ rfl
          rwa [Nat.zero_add, Nat.mul_one, Nat.add_zero] at this
        have hsb : w0.heap.size ≤ w4.heap.size := HB4.out.size
        clear hb hrx hgx HWX HOW c0 d0 d1 d2 d3 d4 d5 d6 HBXr HRF
        go_wp2_with (first | (at_builtin; refine wpList_append_rowG rfl (.tmp 25) (.tmp 28) 56 rfl w0.heap.size 9 (.string ⟨#[]⟩) 16 Tryz.underlying56 infoStr rfl w4 _ nw (sv W) gx nx nx (sv X) (by rw [sv_length, HNX.out]) rfl rfl HOW4.out HCL.out (sv_one _) hsb (by unfold maxLen; omega) (by omega) ?_; intro v9 w9 hown hgr; have HOW9 : Hid (w9.ownsRow w0.heap.size 9 1 v9 (nw + nx) (sv (W ++ X))) := (by show World.ownsRow _ _ _ _ _ _ _; unfold sv; rw [List.map_append]; exact hown); have HRF9 := Lib.hid (HRF4.out.grown hgr HNE4.out); have HB9 : Hid (Below w0.heap.size w0 w9) := HB4.out.grown hgr hsb (fun kk hk => (HOW4.out.lt kk hk).1); clear hown hgr) | fail)
        have HN9 : Hid (nw + nx = (W ++ X).length) := by show _ = _; rw [List.length_append, ← HNW.out, ← HNX.out]
        go_roundg (fl - (j + 1))
        case measure => omega
        case rel => exact ⟨j + 1, W ++ X, nw + nx, by omega, by go_num, by omega, HW2.out, by omega, HN9.out, HOW9.out, HB9.out, HRF9.out⟩
      · have hkn : ¬ ((j : Int) < (fl : Int)) := by omega
        have HWF : Hid (W = wordsC C f) := by
          show _ = _
          rw [HW.out, List.take_of_length_le (by rw [← HFN.out]; omega)]
          unfold wordsC
          rw [HCK.out]
        obtain ⟨gw, cw, cur, hv, hgb, hgw, hcw, hmx, hcs, htk⟩ : ∃ gw cw cur, u5 = Value.slice (some ⟨gw, 0, none⟩) nw cw ∧ w0.heap.size ≤ gw ∧ wr.heap[gw]? = some (.cells cur 9 (0, 0)) ∧ nw ≤ cw ∧ cw ≤ maxLen ∧ cur.size = cw * 1 ∧ cur.toList.take (nw * 1) = sv W := by
          rcases HOW.out.2 with ⟨_, h0⟩ | h
          · exact absurd h0 (by rw [HNW.out, HW.out]; simp)
          · exact h
        have HJ : Hid (Calls Tryz.prog 28 #[.slice (some ⟨gw, 0, none⟩) nw cw, .string ⟨#[32]⟩] wr fun e w' => e = .returned (.string (st (textF C f))) ∧ Below wr.heap.size wr w') := by
          have how := HOW.out
          rw [hv] at how
          have h := join_anyC gw cw W wr (RowS.of_own how) (by rw [HW.out]; simp) (by rw [← HNW.out]; omega) (by rw [← HNW.out]; exact hcw) (by rw [HWF.out]; exact Nat.le_trans HTL.out (by omega))
          rw [← HNW.out, HWF.out] at h
          exact h
        subst hv
        clear hgb hgw hcw hmx hcs htk HOW HWF
        go_wp2_with fail
        refine HJ.out.mono ?_
        rintro e w4 ⟨rfl, hb⟩
        have HBF : Hid (Below bx w w4) := HB0.out.trans (bel_lessG (bel_onG HBr.out HBr.out.size hb) (Nat.le_of_lt hsz0))
        clear hb
        go_wp2
        go_ret2
        exact ⟨rfl, by rw [← HE.out]; exact HBF.out⟩
end Go.Proofs.YtkflakeocdlinaaGreatDoor
/-
  Plain: what is parsed of a text, and that a command's text is parsed as it.
-/
namespace Go.Proofs.YtkflakeocdlinaaGreatDoor
open Go.RowKit
set_option linter.unusedSimpArgs false

theorem index_not : ∀ (w : List UInt8) (c : UInt8), c ∉ w → Go.Lib.index w [c] = -1
  | [], c, _ => rfl
  | b :: l, c, h => by
    have h1 : (c == b) = false := by rw [beq_eq_false_iff_ne]; exact fun e => h (by rw [e]; simp)
    have h2 := index_not l c (fun e => h (List.mem_cons_of_mem _ e))
    unfold Go.Lib.index
    simp only [List.isPrefixOf, h1, Bool.false_and, Bool.false_eq_true, if_false, h2]
    rfl
theorem index_hit : ∀ (w : List UInt8) (c : UInt8) (r : List UInt8), c ∉ w → Go.Lib.index (w ++ c :: r) [c] = (w.length : Int)
  | [], c, r, _ => by simp [Go.Lib.index, List.isPrefixOf]
  | b :: l, c, r, h => by
    have h1 : (c == b) = false := by rw [beq_eq_false_iff_ne]; exact fun e => h (by rw [e]; simp)
    have h2 := index_hit l c r (fun e => h (List.mem_cons_of_mem _ e))
    rw [List.cons_append]
    unfold Go.Lib.index
    simp only [List.isPrefixOf, h1, Bool.false_and, Bool.false_eq_true, if_false, h2]
    rw [if_neg (by simp)]
    simp

/-- figures as a number -/
def numW (l : List UInt8) : Int :=
  match Go.Lib.parseIntB 64 l with
  | .ok v => v
  | .range => Go.Lib.intSat 64 l
  | _ => 0

theorem digL_lo {n : Nat} (h : n < 10) : digL n = [UInt8.ofNat (48 + n)] := Go.Lib.decDigits_one h
theorem digL_hi {n : Nat} (h : ¬ n < 10) : digL n = digL (n / 10) ++ [UInt8.ofNat (48 + n % 10)] := by unfold digL; rw [Go.Lib.decDigits, dif_neg h]
theorem digL_all (n : Nat) : ∀ b ∈ digL n, 48 ≤ b.toNat ∧ b.toNat ≤ 57 := by
  induction n using Nat.strongRecOn with
  | ind n ih =>
    intro b hb
    have hx : ∀ d, d < 10 → 48 ≤ (UInt8.ofNat (48 + d)).toNat ∧ (UInt8.ofNat (48 + d)).toNat ≤ 57 := fun d hd => by
      have : (UInt8.ofNat (48 + d)).toNat = 48 + d := by
        rw [UInt8.toNat_ofNat']
        exact Nat.mod_eq_of_lt (by omega)
      omega
    by_cases h : n < 10
    · rw [digL_lo h, List.mem_singleton] at hb
      rw [hb]
      exact hx n h
    · rw [digL_hi h, List.mem_append, List.mem_singleton] at hb
      rcases hb with hb | hb
      · exact ih (n / 10) (by omega) b hb
      · rw [hb]; exact hx _ (by omega)
theorem digL_ne (n : Nat) : digL n ≠ [] := by
  by_cases h : n < 10
  · rw [digL_lo h]; simp
  · rw [digL_hi h]; simp

theorem uintM_append (M : Nat) : ∀ (l : List UInt8) (acc a : Nat) (r : List UInt8), Go.Lib.parseUintM M acc l = .ok a → Go.Lib.parseUintM M acc (l ++ r) = Go.Lib.parseUintM M a r
  | [], acc, a, r, h => by
    rw [Go.Lib.parseUintM] at h
    injection h with h
    rw [h]; rfl
  | c :: l, acc, a, r, h => by
    rw [Go.Lib.parseUintM] at h
    rw [List.cons_append, Go.Lib.parseUintM]
    split at h
    · rename_i h1
      rw [if_pos h1]
      split at h
      · cases h
      · rename_i h2
        rw [if_neg h2]
        split at h
        · cases h
        · rename_i h3
          rw [if_neg h3]
          exact uintM_append M l _ a r h
    · cases h
theorem uintM_dig (n : Nat) (h : n ≤ 9223372036854775807) : Go.Lib.parseUintM (2 ^ 64 - 1) 0 (digL n) = .ok n := by
  induction n using Nat.strongRecOn with
  | ind n ih =>
    have hx : ∀ d, d < 10 → (UInt8.ofNat (48 + d)).toNat = 48 + d := fun d hd => by
      rw [UInt8.toNat_ofNat']
      exact Nat.mod_eq_of_lt (by omega)
    by_cases h9 : n < 10
    · rw [digL_lo h9, Go.Lib.parseUintM, hx n h9, if_pos (by omega), if_neg (by omega), if_neg (by omega), Go.Lib.parseUintM]
      congr 1; omega
    · rw [digL_hi h9, uintM_append _ _ _ _ _ (ih (n / 10) (by omega) (by omega)), Go.Lib.parseUintM, hx (n % 10) (by omega), if_pos (by omega), if_neg (by omega), if_neg (by omega), Go.Lib.parseUintM]
      congr 1; omega
theorem numW_dig (n : Nat) (h : n ≤ 1125899906842624) : numW (digL n) = (n : Int) := by
  have h1 := uintM_dig n (by omega)
  have h2 := digL_all n
  unfold numW
  cases hd : digL n with
  | nil => exact absurd hd (digL_ne n)
  | cons c r =>
    rw [hd] at h1 h2
    have hc := h2 c (by simp)
    rw [Go.Lib.parseIntB_plain 64 c r (by omega) (by omega)]
    have e : Go.Lib.parseUintB 64 (c :: r) = .ok n := by
      unfold Go.Lib.parseUintB
      rw [if_neg (by simp), h1]
    rw [e]
    unfold Go.Lib.signlessC
    simp only
    rw [if_neg (by omega)]

/-- a word as a share -/
def shW (w : List UInt8) : Sh := ((Go.Lib.cut w [58]).1, numW (Go.Lib.cut w [58]).2.1)
theorem shW_of (p : List UInt8) (n : Nat) (hp : (58 : UInt8) ∉ p) (h : n ≤ 1125899906842624) : shW (p ++ [58] ++ digL n) = (p, (n : Int)) := by
  have e : p ++ [58] ++ digL n = p ++ 58 :: digL n := by simp
  have hi := index_hit p 58 (digL n) hp
  unfold shW Go.Lib.cut
  rw [e, hi, if_pos (by omega)]
  simp [numW_dig n h]

/-- a text's words -/
def splitW (s : List UInt8) : List (List UInt8) := Go.Lib.splitK [32] 0 (min 14 (s.length + 1) - 1) s
theorem splitK_join : ∀ (r : List (List UInt8)) (x : List UInt8) (k : Nat), (∀ w ∈ x :: r, (32 : UInt8) ∉ w) → r.length ≤ k → Go.Lib.splitK [32] 0 k (Go.Lib.join (x :: r) [32]) = x :: r
  | [], x, k, h, _ => by
    rw [Go.Lib.join_one]
    cases k with
    | zero => rfl
    | succ k =>
      rw [Go.Lib.splitK, index_not x 32 (h x (by simp))]
      rfl
  | y :: r, x, k, h, hk => by
    obtain ⟨k, rfl⟩ : ∃ k', k = k' + 1 := ⟨k - 1, by simp at hk; omega⟩
    have e : Go.Lib.join (x :: y :: r) [32] = x ++ 32 :: Go.Lib.join (y :: r) [32] := by
      rw [Go.Lib.join_cons, Go.Lib.join_cons]
      simp [Go.Lib.joinTail]
    rw [e, Go.Lib.splitK, index_hit x 32 _ (h x (by simp))]
    rw [if_neg (by simp)]
    have e2 : (x ++ 32 :: Go.Lib.join (y :: r) [32]).drop ((x.length : Int).toNat + [(32 : UInt8)].length) = Go.Lib.join (y :: r) [32] := by simp
    rw [e2, splitK_join r y k (fun w hw => h w (List.mem_cons_of_mem _ hw)) (by simp at hk; omega)]
    simp
theorem splitW_join (x : List UInt8) (r : List (List UInt8)) (h : ∀ w ∈ x :: r, (32 : UInt8) ∉ w) (hr : r.length ≤ 13) : splitW (Go.Lib.join (x :: r) [32]) = x :: r := by
  unfold splitW
  refine splitK_join r x _ h ?_
  rw [Go.Lib.join_length]
  simp only [List.length_cons, List.length_nil]
  omega

/-- a command with a field that is read -/
def readF (c : Cm) (f : Nat) (ws : List (List UInt8)) : Cm :=
  match f with
  | 0 => { c with id := ws.headD [] }
  | 1 => { c with about := ws.headD [] }
  | 2 => { c with about := ws.headD [] }
  | 3 => { c with cur := ws.headD [] }
  | 4 => if ws.headD [] = [45] then c else { c with cat := ws.headD [] }
  | 5 => { c with cat := ws.headD [] }
  | 6 => { c with amt := numW (ws.headD []) }
  | 7 => { c with amt := numW (ws.headD []) }
  | 8 => { c with sh := ws.map shW }
  | _ => c
def readL : List Nat → List (List UInt8) → Cm → Cm
  | f :: fs, w :: ws, c => readL fs ws (readF c f (w :: ws))
  | _, _, c => c
def parW (ws : List (List UInt8)) : Cm := readL ((formC (ws.headD [])).getD []) ws.tail ⟨ws.headD [], [], [], [], [], 0, []⟩
def parC (s : List UInt8) : Cm := parW (splitW s)

theorem name_no {s : List UInt8} {m : Nat} (h : nameB s m = true) {b : UInt8} (hb : nlB b.toNat = false) : b ∉ s := fun e => by
  have := (nameB_some h).2.2.2 b e
  rw [hb] at this; cases this
theorem cur_no {s : List UInt8} (h : curB s = true) {b : UInt8} (hb : capB b.toNat = false) : b ∉ s := fun e => by
  have := (curB_some h).2 b e
  rw [hb] at this; cases this
theorem dig_no (n : Nat) {b : UInt8} (hb : b.toNat < 48 ∨ 57 < b.toNat) : b ∉ digL n := fun e => by
  have := digL_all n b e; omega
theorem orD_no {t : List UInt8} (h : t = [] ∨ nameB t 20 = true) : (32 : UInt8) ∉ orD t := by
  unfold orD
  split
  · decide
  · rcases h with h | h
    · contradiction
    · exact name_no h (by decide)

theorem names_each {s : List Sh} (h : namesB s = true) : ∀ x ∈ s, nameB x.1 20 = true := by
  unfold namesB at h
  exact List.all_eq_true.1 h

/-- what is printed is parsed -/
theorem parC_text {c : Cm} (h : GoodC c) : parC (textC c) = c := by
  cases h with
  | sale i u t a s h1 h2 h3 h4 h5 h6 =>
    obtain ⟨r1, r2, r3⟩ := rgF_few8 h6
    have hw : wordsC ⟨kSale, i, [], u, t, a, s⟩ [0, 3, 4, 6, 8] = kSale :: i :: u :: orD t :: digL a.toNat :: s.map fun y => y.1 ++ [58] ++ digL y.2.toNat := by simp [wordsC, wordsF]
    have ht : textC ⟨kSale, i, [], u, t, a, s⟩ = Go.Lib.join (wordsC ⟨kSale, i, [], u, t, a, s⟩ [0, 3, 4, 6, 8]) [32] := rfl
    rw [ht, hw]
    unfold parC
    rw [splitW_join _ _ (fun w hm => by
      simp only [List.mem_cons] at hm
      rcases hm with rfl | rfl | rfl | rfl | rfl | hm
      · decide
      · exact name_no h1 (by decide)
      · exact cur_no h2 (by decide)
      · exact orD_no h3
      · exact dig_no _ (.inl (by decide))
      · obtain ⟨y, hy, rfl⟩ := List.mem_map.1 hm
        simp only [List.mem_append, not_or]
        exact ⟨⟨name_no (names_each h5 y hy) (by decide), by decide⟩, dig_no _ (.inl (by decide))⟩) (by simp; omega)]
    have hs : (s.map fun y => y.1 ++ [58] ++ digL y.2.toNat).map shW = s := by
      rw [List.map_map]
      conv => rhs; rw [← List.map_id s]
      refine List.map_congr_left fun y hy => ?_
      have hb := badS_not (r3 y hy)
      show shW (y.1 ++ [58] ++ digL y.2.toNat) = y
      rw [shW_of y.1 y.2.toNat (name_no (names_each h5 y hy) (by decide)) (by omega), show ((y.2.toNat : Nat) : Int) = y.2 by omega]
    have hn : numW (digL a.toNat) = a := by rw [numW_dig _ (by omega)]; omega
    have hf : formC kSale = some [0, 3, 4, 6, 8] := rfl
    unfold parW
    simp only [List.headD_cons, List.tail_cons, hf, Option.getD_some]
    obtain ⟨ys, hys⟩ : ∃ ys, ys = s.map fun y => y.1 ++ [58] ++ digL y.2.toNat := ⟨_, rfl⟩
    rw [← hys] at hs ⊢
    clear hys
    cases ys with
    | nil => rw [← hs] at r1; simp at r1
    | cons y0 ys =>
      simp only [List.map_cons] at hs
      by_cases e : t = []
      · simp [readL, readF, orD, e, hn, hs]
      · have e45 : t ≠ [45] := by
          rcases h3 with h3 | h3
          · exact absurd h3 e
          · exact (nameB_some h3).2.1
        simp [readL, readF, orD, e, e45, hn, hs]
  | take k i b a hk h1 h2 h4 =>
    have hf : formC k = some [0, 1, 6] := by rcases hk with rfl | rfl <;> rfl
    have hw : wordsC ⟨k, i, b, [], [], a, []⟩ [0, 1, 6] = k :: [i, b, digL a.toNat] := by simp [wordsC, wordsF]
    have ht : textC ⟨k, i, b, [], [], a, []⟩ = Go.Lib.join (wordsC ⟨k, i, b, [], [], a, []⟩ [0, 1, 6]) [32] := by unfold textC; simp only [hf]; rfl
    rw [ht, hw]
    unfold parC
    rw [splitW_join _ _ (fun w hm => by
      simp only [List.mem_cons, List.not_mem_nil, or_false] at hm
      rcases hm with rfl | rfl | rfl | rfl
      · rcases hk with rfl | rfl <;> decide
      · exact name_no h1 (by decide)
      · exact name_no h2 (by decide)
      · exact dig_no _ (.inl (by decide))) (by simp)]
    have hn : numW (digL a.toNat) = a := by rw [numW_dig _ (by omega)]; omega
    unfold parW
    simp [hf, readL, readF, hn]
  | two k i b hk h1 h2 =>
    have hf : formC k = some [0, 1] := by rcases hk with rfl | rfl | rfl <;> rfl
    have hw : wordsC ⟨k, i, b, [], [], 0, []⟩ [0, 1] = k :: [i, b] := by simp [wordsC, wordsF]
    have ht : textC ⟨k, i, b, [], [], 0, []⟩ = Go.Lib.join (wordsC ⟨k, i, b, [], [], 0, []⟩ [0, 1]) [32] := by unfold textC; simp only [hf]; rfl
    rw [ht, hw]
    unfold parC
    rw [splitW_join _ _ (fun w hm => by
      simp only [List.mem_cons, List.not_mem_nil, or_false] at hm
      rcases hm with rfl | rfl | rfl
      · rcases hk with rfl | rfl | rfl <;> decide
      · exact name_no h1 (by decide)
      · exact name_no h2 (by decide)) (by simp)]
    unfold parW
    simp [hf, readL, readF]
  | tick =>
    have ht : textC ⟨kTick, [], [], [], [], 0, []⟩ = Go.Lib.join (kTick :: []) [32] := rfl
    rw [ht]
    unfold parC
    rw [splitW_join _ _ (fun w hm => by
      simp only [List.mem_cons, List.not_mem_nil, or_false] at hm
      rw [hm]; decide) (by simp)]
    rfl
  | reply b t a h1 h2 h4 =>
    have hf : formC kReply = some [2, 5, 7] := rfl
    have hot : orD t = t := by unfold orD; rw [if_neg (nameB_some h2).1]
    have hw : wordsC ⟨kReply, [], b, [], t, a, []⟩ [2, 5, 7] = kReply :: [b, t, digL a.toNat] := by simp [wordsC, wordsF, hot]
    have ht : textC ⟨kReply, [], b, [], t, a, []⟩ = Go.Lib.join (wordsC ⟨kReply, [], b, [], t, a, []⟩ [2, 5, 7]) [32] := rfl
    rw [ht, hw]
    unfold parC
    rw [splitW_join _ _ (fun w hm => by
      simp only [List.mem_cons, List.not_mem_nil, or_false] at hm
      rcases hm with rfl | rfl | rfl | rfl
      · decide
      · exact name_no h1 (by decide)
      · exact name_no h2 (by decide)
      · exact dig_no _ (.inl (by decide))) (by simp)]
    have hn : numW (digL a.toNat) = a := by rw [numW_dig _ (by omega)]; omega
    unfold parW
    simp [hf, readL, readF, hn]
end Go.Proofs.YtkflakeocdlinaaGreatDoor
/-
  Contracts of command.number, readShares.
-/
namespace Go.Proofs.YtkflakeocdlinaaGreatDoor
open Go.RowKit Go.Deep

theorem sclone_any (s : ByteArray) (w : World) (hs : s.size ≤ 281474976710656) : Calls Tryz.prog 38 #[.string s] w fun e w' => e = .returned (.string s) ∧ Below w.heap.size w w' := by
  have H := Lib.hid (Tryz.stringslite_Clone s w hs)
  clear hs
  go_enter Tryz.func38, Tryz.ntmps38
  go_wp2_with fail
  refine H.out.mono ?_
  rintro e w1 ⟨rfl, hb⟩
  have HB := Lib.hid hb
  clear hb
  go_wp2
  go_ret
  exact ⟨rfl, HB.out⟩

set_option maxHeartbeats 1600000 in
theorem number_any (l : List UInt8) (w : World) (hl : l.length ≤ 100000) (hv : Vars w) :
    Calls Tryz.prog 65 #[.string (st l)] w fun e w' => e = .returned (.int .i64 (numW l)) ∧ Below w.heap.size w w' := by
  have hP : ∃ ev : Value, Hid (Calls Tryz.prog 88 #[.string (st l), .int .i64 10, .int .i64 64] w fun e w' => (∃ er : Value, e = .returned (.tuple #[.int .i64 (numW l), er])) ∧ Below w.heap.size w w') := by
    refine ⟨undef, ?_⟩
    have hd : (st l).data.toList = l := st_toList l
    have hsz := st_size l
    show Calls _ _ _ _ _
    cases h : Go.Lib.parseIntB 64 l with
    | ok v =>
      have hn : numW l = v := by unfold numW; rw [h]
      refine (Tryz.strconv_ParseInt_10_at64_ok (st l) (by omega) v (by rw [hd]; exact h) w).mono ?_
      rintro e w' ⟨he, hw⟩
      refine ⟨⟨_, by rw [he, hn]⟩, ?_⟩
      rcases hw with rfl | ⟨t, rfl⟩
      · exact Below.refl _ _
      · exact Go.Lib.bytesWorld_below _ _ _
    | range =>
      have hn : numW l = Go.Lib.intSat 64 l := by unfold numW; rw [h]
      obtain ⟨tp, p, hc⟩ := hv.ran
      refine (Tryz.strconv_ParseInt_10_at64_range (st l) (by omega) (by rw [hd]; exact h) _ w hc (.inr ⟨tp, p, rfl⟩)).mono ?_
      rintro e w' ⟨N, he, _, _, hb⟩
      rw [hd] at he
      exact ⟨⟨_, by rw [he, hn]⟩, hb⟩
    | _ =>
      have hn : numW l = 0 := by unfold numW; rw [h]
      obtain ⟨tp, p, hc⟩ := hv.syn
      refine (Tryz.strconv_ParseInt_10_at64_syntax (st l) (by omega) (by rw [hd]; exact h.trans rfl) _ w hc (.inr ⟨tp, p, rfl⟩)).mono ?_
      rintro e w' ⟨N, he, _, _, hb⟩
      exact ⟨⟨_, by rw [he, hn]⟩, hb⟩
  obtain ⟨_, HP⟩ := hP
  obtain ⟨z, hz⟩ : ∃ z, z = numW l := ⟨_, rfl⟩
  rw [← hz] at HP ⊢
  clear hz hv hl
  go_enter Tryz.func65, Tryz.ntmps65
  go_wp2_with fail
  refine HP.out.mono ?_
  rintro e w1 ⟨⟨er, rfl⟩, hb⟩
  have HB := Lib.hid hb
  clear hb
  go_wp2
  go_ret
  exact ⟨rfl, HB.out⟩

theorem scut_any (l : List UInt8) (w : World) (hl : l.length ≤ 100000) (hv : Vars w) :
    Calls Tryz.prog 89 #[.string (st l), .string ⟨#[58]⟩] w fun e w' => (∃ b : Bool, e = .returned (.tuple #[.string (st (Go.Lib.cut l [58]).1), .string (st (Go.Lib.cut l [58]).2.1), .bool b])) ∧ Below w.heap.size w w' := by
  obtain ⟨m, hm⟩ := hv.max
  refine (Tryz.strings_Cut (st l) ⟨#[58]⟩ m w (by rw [st_size]; omega) hm).mono ?_
  rintro e w' ⟨he, n, rfl⟩
  have hd : (st l).data.toList = l := st_toList l
  rw [hd] at he
  exact ⟨⟨_, he⟩, (⟨rfl, rfl, rfl, Nat.le_refl _, fun _ _ => rfl⟩ : Below w.heap.size w (w.drewN n))⟩
theorem cut_len (l : List UInt8) : (Go.Lib.cut l [58]).1.length ≤ l.length ∧ (Go.Lib.cut l [58]).2.1.length ≤ l.length := by
  unfold Go.Lib.cut
  split
  · simp; omega
  · simp

theorem run_makeSh (n : Nat) (h : n ≤ 1000000) (w : World) :
    (Instr.makeSlice 22 (.int .i64 (n : Int)) (.int .i64 (n : Int))).run Tryz.prog w = .ok (.slice (some ⟨w.heap.size, 0, none⟩) n n) (w.alloc (.cells (madeCells #[.string ⟨#[]⟩, .int .i64 0] (n * 2)) 39)) := by
  have infoSh : (Tryz.prog.info? 39).map (fun i => (i.zero, i.size, i.bytes)) = some (some (.agg #[.string ⟨#[]⟩, .int .i64 0]), 2, 24) := by kernel_rfl
  obtain ⟨i, hi, hzz⟩ := Option.map_eq_some_iff.1 infoSh
  simp only [Prod.mk.injEq] at hzz
  obtain ⟨hz, hs, hb⟩ := hzz
  have hr := run_make (P := Tryz.prog) w 22 39 i _ Tryz.underlying22 hi hz .i64 .i64 n n (by omega) (Int.le_refl _) (by rw [hb]; omega) (by omega)
  simp only [Int.toNat_natCast, hs] at hr
  exact hr

/-- what readShares answers -/
def RsPost (W : List (List UInt8)) (w : World) (e : Ending) (w' : World) : Prop :=
  ∃ g, e = .returned (.slice (some ⟨g, 0, none⟩) W.length W.length) ∧ RowG 2 cSh w' (some ⟨g, 0, none⟩) (W.map shW) ∧ w.heap.size ≤ g ∧ Below w.heap.size w w'

set_option maxHeartbeats 3200000 in
set_option maxRecDepth 100000 in
theorem readShares_any (a : Option Addr) (cp : Nat) (W : List (List UInt8)) (w : World) (hr : RowS w a W) (hl : W.length ≤ 1000) (hs : ∀ x ∈ W, x.length ≤ 100000) (hv : Vars w) :
    Calls Tryz.prog 66 #[.slice a W.length cp] w (RsPost W w) := by
  unfold RsPost
  obtain ⟨L, hL⟩ : ∃ L, L = W.map shW := ⟨_, rfl⟩
  have HL := Lib.hid hL
  obtain ⟨n, hn⟩ : ∃ n, n = W.length := ⟨_, rfl⟩
  have HN := Lib.hid hn
  have HLN : Hid (L.length = n) := by show _ = _; rw [hL, List.length_map, hn]
  have HR := Lib.hid hr
  have HS := Lib.hid hs
  have HV := Lib.hid hv
  rw [← hL, ← hn]
  rw [← hn] at hl
  clear hL hn hr hs hv
  have hmk := run_makeSh n (by omega)
  have HP := Lib.hid (MadeAt.start (z := 2) (c := cSh) (ty := 39) L n w #[.string ⟨#[]⟩, .int .i64 0] (n * 2) rfl)
  go_enter Tryz.func66, Tryz.ntmps66
  go_wp2
  clear hmk
  obtain ⟨g, hg⟩ : ∃ g, g = w.heap.size := ⟨_, rfl⟩
  have HGE := Lib.hid hg
  rw [← hg] at HP ⊢
  generalize w.alloc (.cells (madeCells #[.string ⟨#[]⟩, .int .i64 0] (n * 2)) 39) = w6 at HP ⊢
  clear hg
  go_loopg [4, 5, 6, 7, 8, 14, 19] n (fun gk _ _ _ _ _ ix _ wr => ∃ j : Nat, j ≤ n ∧ ix = .int .i64 j ∧ n - j ≤ gk ∧ Hid (MadeAt 2 cSh 39 L n g w wr j))
  case atStart => exact ⟨0, Nat.zero_le _, rfl, by omega, HP.out⟩
  case round =>
    clear HP
    obtain ⟨j, hj, rfl, hgk, HP⟩ := hrel
    by_cases hlt : j < n
    · obtain ⟨x, hx⟩ : ∃ x, W[j]? = some x := ⟨_, List.getElem?_eq_getElem (by rw [← HN.out]; exact hlt)⟩
      have hxl := HS.out x (List.mem_of_getElem? hx)
      obtain ⟨b1, off, e1, hcell⟩ := (HR.out.keep HP.out.below) (by rw [← HN.out]; omega)
      subst e1
      have c0 : wr.cell? ⟨b1, off + j, none⟩ = some (.string (st x)) := hcell j x hx
      have hLj : L[j]? = some (shW x) := by rw [HL.out, List.getElem?_map, hx]; rfl
      have HC := Lib.hid (scut_any x wr hxl (HV.out.keep HP.out.below))
      obtain ⟨l1, l2⟩ := cut_len x
      obtain ⟨p, hp⟩ : ∃ p, p = (Go.Lib.cut x [58]).1 := ⟨_, rfl⟩
      obtain ⟨q, hq⟩ : ∃ q, q = (Go.Lib.cut x [58]).2.1 := ⟨_, rfl⟩
      have hsh : shW x = (p, numW q) := by unfold shW; rw [hp, hq]
      rw [hsh] at hLj
      rw [← hp, ← hq] at HC
      rw [← hp] at l1
      rw [← hq] at l2
      have HCL : Hid (∀ W', Calls Tryz.prog 38 #[.string (st p)] W' fun e w' => e = .returned (.string (st p)) ∧ Below W'.heap.size W' w') := fun W' => sclone_any (st p) W' (by rw [st_size]; omega)
      have HNU : Hid (∀ W', Vars W' → Calls Tryz.prog 65 #[.string (st q)] W' fun e w' => e = .returned (.int .i64 (numW q)) ∧ Below W'.heap.size W' w') := fun W' hv => number_any q W' (by omega) hv
      obtain ⟨z, hz⟩ : ∃ z, z = numW q := ⟨_, rfl⟩
      rw [← hz] at HNU hLj
      have HST : Hid (∀ W', MadeAt 2 cSh 39 L n g w W' j → MadeAt 2 cSh 39 L n g w ((W'.setCell ⟨g, j * 2, none⟩ (.string (st p))).setCell ⟨g, j * 2 + 1, none⟩ (.int .i64 z)) (j + 1)) := fun W' hW => MadeAt.step2 (x := (p, z)) hW hlt hLj
      have hkz : (0 : Int) ≤ (j : Int) := by omega
      have hkn : (j : Int) < (n : Int) := by omega
      clear hx hxl hcell hLj l1 l2 hp hq hsh hz
      go_wp2_with fail
      refine HC.out.mono ?_
      rintro e w1 ⟨⟨bb, rfl⟩, hb⟩
      have HP1 := Lib.hid (HP.out.keep hb)
      clear hb HC c0
      go_wp2_with fail
      refine (HCL.out _).mono ?_
      rintro e w2 ⟨rfl, hb⟩
      have HP2 := Lib.hid (HP1.out.keep hb)
      clear hb HCL
      go_wp2_with fail
      refine (HNU.out _ (HV.out.keep HP2.out.below)).mono ?_
      rintro e w3 ⟨rfl, hb⟩
      have HP3 := Lib.hid (HP2.out.keep hb)
      obtain ⟨v0, v1, r0, r1, z0, z1⟩ := HP3.out.room2 hlt
      have HNX := Lib.hid (HST.out w3 HP3.out)
      clear hb HNU HST
      go_wp2
      go_roundg (n - (j + 1))
      case measure => omega
      case rel => exact ⟨j + 1, by omega, by go_num, by omega, HNX.out⟩
    · have hkn : ¬ ((j : Int) < (n : Int)) := by omega
      have e : j = n := by omega
      have HROW : Hid (RowG 2 cSh wr (some ⟨g, 0, none⟩) L) := by subst e; exact HP.out.row HLN.out
      clear e
      go_wp2
      go_ret
      exact ⟨g, rfl, HROW.out, HP.out.new, HP.out.below⟩
end Go.Proofs.YtkflakeocdlinaaGreatDoor
