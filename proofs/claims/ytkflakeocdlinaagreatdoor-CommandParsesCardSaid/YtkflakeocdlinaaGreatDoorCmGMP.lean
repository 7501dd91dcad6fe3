/-
  Contract of command.Print; a command's text.
-/
import Derived.Test.YtkflakeocdlinaaGreatDoorCmEMP
import Derived.Test.YtkflakeocdlinaaGreatDoorCmFMP
import Derived.Test.YtkflakeocdlinaaGreatDoorMP03
namespace Go.Proofs.YtkflakeocdlinaaGreatDoor
open Go.RowKit Go.Deep

/-- a command's words, and its text -/
def wordsC (c : Cm) (f : List Nat) : List (List UInt8) := c.kind :: f.flatMap (wordsF c)
def textF (c : Cm) (f : List Nat) : List UInt8 := Go.Lib.join (wordsC c f) [32]
def textC (c : Cm) : List UInt8 := match formC c.kind with | some f => textF c f | none => []

theorem orD_len {t : List UInt8} (h : t.length ≤ 20) : (orD t).length ≤ 20 := by unfold orD; split <;> simp_all
theorem wordsF_small {c : Cm} (h : GoodC c) (x : Nat) : (wordsF c x).length ≤ 8 ∧ ∀ s ∈ wordsF c x, s.length ≤ 60 := by
  obtain ⟨h1, h2, h3, h4, h5, h6, h7, h8, h9, _⟩ := good_small h
  have hd := digL_len (n := c.amt.toNat) (by omega)
  have ho := orD_len h5
  match x with
  | 0 => exact ⟨by simp [wordsF], fun s hs => by simp [wordsF] at hs; rw [hs]; omega⟩
  | 1 => exact ⟨by simp [wordsF], fun s hs => by simp [wordsF] at hs; rw [hs]; omega⟩
  | 2 => exact ⟨by simp [wordsF], fun s hs => by simp [wordsF] at hs; rw [hs]; omega⟩
  | 3 => exact ⟨by simp [wordsF], fun s hs => by simp [wordsF] at hs; rw [hs]; omega⟩
  | 4 => exact ⟨by simp [wordsF], fun s hs => by simp [wordsF] at hs; rw [hs]; omega⟩
  | 5 => exact ⟨by simp [wordsF], fun s hs => by simp [wordsF] at hs; rw [hs]; omega⟩
  | 6 => exact ⟨by simp [wordsF], fun s hs => by simp [wordsF] at hs; rw [hs]; omega⟩
  | 7 => exact ⟨by simp [wordsF], fun s hs => by simp [wordsF] at hs; rw [hs]; omega⟩
  | n + 8 =>
    have e : wordsF c (n + 8) = c.sh.map fun s => s.1 ++ [58] ++ digL s.2.toNat := rfl
    rw [e]
    refine ⟨by rw [List.length_map]; exact h8, fun s hs => ?_⟩
    obtain ⟨y, hy, rfl⟩ := List.mem_map.1 hs
    have hb := badS_not (h9 y hy)
    have := digL_len (n := y.2.toNat) (by omega)
    simp
    omega
theorem words_len {c : Cm} (h : GoodC c) : ∀ (f : List Nat), (f.flatMap (wordsF c)).length ≤ 8 * f.length
  | [] => by simp
  | x :: r => by
    have h1 := (wordsF_small h x).1
    have h2 := words_len h r
    rw [List.flatMap_cons, List.length_append, List.length_cons]
    omega
theorem words_each {c : Cm} (h : GoodC c) (f : List Nat) : ∀ s ∈ wordsC c f, s.length ≤ 60 := by
  intro s hs
  unfold wordsC at hs
  rcases List.mem_cons.1 hs with rfl | hs
  · have := (good_small h).1; omega
  · obtain ⟨x, _, hx⟩ := List.mem_flatMap.1 hs
    exact (wordsF_small h x).2 s hx
theorem lens_le : ∀ (l : List (List UInt8)) (m : Nat), (∀ s ∈ l, s.length ≤ m) → Go.Lib.lens l ≤ m * l.length
  | [], m, _ => by simp [Go.Lib.lens]
  | x :: r, m, h => by
    have h1 := h x (by simp)
    have h2 := lens_le r m (fun s hs => h s (by simp [hs]))
    have e : Go.Lib.lens (x :: r) = x.length + Go.Lib.lens r := by simp [Go.Lib.lens]
    rw [e, List.length_cons, Nat.mul_succ]
    omega
theorem textF_len {c : Cm} (h : GoodC c) {f : List Nat} (hf : f.length ≤ 5) : (textF c f).length ≤ 3000 := by
  unfold textF wordsC
  rw [Go.Lib.join_length]
  have h1 := words_len h f
  have h2 := lens_le (c.kind :: f.flatMap (wordsF c)) 60 (words_each h f)
  simp only [List.length_cons, List.length_nil] at h2 ⊢
  omega
theorem words_takeF {c : Cm} {f : List Nat} {j x : Nat} (hx : f[j]? = some x) : c.kind :: (f.take (j + 1)).flatMap (wordsF c) = (c.kind :: (f.take j).flatMap (wordsF c)) ++ wordsF c x := by
  obtain ⟨h1, h2⟩ := List.getElem?_eq_some_iff.1 hx
  rw [List.take_succ_eq_append_getElem h1, h2, List.flatMap_append]
  simp

theorem RowG.rowS {w : World} {a : Option Addr} {ls : List (List UInt8)} (h : RowG 1 cTx w a ls) : RowS w a ls := by
  intro h0
  obtain ⟨b, off, e, hc⟩ := h h0
  refine ⟨b, off, e, fun i x hx => ?_⟩
  have := hc i x hx 0 _ rfl
  rwa [Nat.mul_one, Nat.add_zero] at this
theorem join_anyC (g cp : Nat) (W : List (List UInt8)) (w : World) (hr : RowS w (some ⟨g, 0, none⟩) W) (h0 : 0 < W.length) (hl : W.length ≤ 1000) (hc : W.length ≤ cp) (ht : (Go.Lib.join W [32]).length ≤ 100000) :
    Calls Tryz.prog 28 #[.slice (some ⟨g, 0, none⟩) W.length cp, .string ⟨#[32]⟩] w fun e w' => e = .returned (.string (st (Go.Lib.join W [32]))) ∧ Below w.heap.size w w' := by
  obtain ⟨b, off, e, hcell⟩ := hr h0
  simp only [Option.some.injEq, Addr.mk.injEq, and_true] at e
  obtain ⟨rfl, rfl⟩ := e
  have e1 : (W.map st).map (fun x : ByteArray => x.data.toList) = W := by
    rw [List.map_map]
    conv => rhs; rw [← List.map_id W]
    refine List.map_congr_left fun x _ => ?_
    exact st_toList x
  have hlt : g < w.heap.size := by
    obtain ⟨x, hx⟩ : ∃ x, W[0]? = some x := ⟨_, List.getElem?_eq_getElem h0⟩
    exact World.block_lt_of_cell? _ _ (hcell 0 x hx)
  have h := Tryz.strings_Join g 0 cp (W.map st) ⟨#[32]⟩ w (fun j x hx => by
    rw [List.getElem?_map] at hx
    obtain ⟨y, hy, rfl⟩ := Option.map_eq_some_iff.1 hx
    exact hcell j y hy) hlt (by rw [List.length_map]; omega) (by rw [List.length_map]; exact hc) (by rw [e1]; show (Go.Lib.join W [32]).length ≤ _; omega)
  rw [e1, List.length_map] at h
  exact h

set_option maxHeartbeats 1600000 in
theorem print_bad (k i b u t : List UInt8) (m : Int) (a : Option Addr) (cp : Nat) (xs : List Sh) (w : World) (hk : k.length ≤ maxLen) (hr : RowG 2 cSh w a xs) (hc : xs.length ≤ cp) (hl : xs.length ≤ 4611686018427387904) (hE : rightC ⟨k, i, b, u, t, m, xs⟩ ≠ 0) :
    Calls Tryz.prog 10 #[.agg #[.string (st k), .string (st i), .string (st b), .string (st u), .string (st t), .int .i64 m, .slice a xs.length cp]] w fun e w' => e = .returned (.tuple #[.string (st []), .int .i64 (rightC ⟨k, i, b, u, t, m, xs⟩)]) ∧ Below w.heap.size w w' := by
  have hb0 : Below w.heap.size w (w.alloc (.cells #[.string (st k), .string (st i), .string (st b), .string (st u), .string (st t), .int .i64 m, .slice a xs.length cp] 24)) := (Below.refl _ w).alloc (Nat.le_refl _) _
  have HB0 := Lib.hid hb0
  have HC := Lib.hid (right18_any k i b u t m a cp xs (w.alloc (.cells #[.string (st k), .string (st i), .string (st b), .string (st u), .string (st t), .int .i64 m, .slice a xs.length cp] 24)) hk (hr.keep hb0) hc hl)
  obtain ⟨E, hEE⟩ : ∃ E, E = rightC ⟨k, i, b, u, t, m, xs⟩ := ⟨_, rfl⟩
  rw [← hEE] at HC hE ⊢
  have t1 : (E != 0) = true := by rw [bne_iff_ne]; exact hE
  clear hEE hE hr hb0
  go_enter Tryz.func10, Tryz.ntmps10
  go_wp2_with fail
  refine HC.out.mono ?_
  rintro e w1 ⟨rfl, hb⟩
  have HB1 := Lib.hid (bel_onG HB0.out HB0.out.size hb)
  clear hb
  go_wp2
  go_ret2
  exact ⟨rfl, HB1.out⟩

set_option maxHeartbeats 6400000 in
set_option maxRecDepth 100000 in
theorem print_good (k i b u t : List UInt8) (m : Int) (a : Option Addr) (cp : Nat) (xs : List Sh) (f : List Nat) (w : World) (hk : k.length ≤ maxLen) (hf : formC k = some f) (ht : Tab w)
    (hr : RowG 2 cSh w a xs) (hc : xs.length ≤ cp) (hE : rightC ⟨k, i, b, u, t, m, xs⟩ = 0) :
    Calls Tryz.prog 10 #[.agg #[.string (st k), .string (st i), .string (st b), .string (st u), .string (st t), .int .i64 m, .slice a xs.length cp]] w fun e w' => e = .returned (.tuple #[.string (st (textF ⟨k, i, b, u, t, m, xs⟩ f)), .int .i64 0]) ∧ Below w.heap.size w w' := by
  have hg := good_of hE
  obtain ⟨_, _, _, _, _, hm0, hm1, hx8, hxb, _⟩ := good_small hg
  simp only at hm0 hm1 hx8 hxb
  have hfl5 := formC_le hf
  have HTL := Lib.hid (textF_len hg hfl5.1)
  have HWE := Lib.hid (words_len hg)
  have HGD := Lib.hid hg
  have HBX : Hid (Blk (w.alloc (.cells #[.string (st k), .string (st i), .string (st b), .string (st u), .string (st t), .int .i64 m, .slice a xs.length cp] 24)) w.heap.size 24 #[.string (st k), .string (st i), .string (st b), .string (st u), .string (st t), .int .i64 m, .slice a xs.length cp]) := Blk.new w _ _
  have hb0 : Below w.heap.size w (w.alloc (.cells #[.string (st k), .string (st i), .string (st b), .string (st u), .string (st t), .int .i64 m, .slice a xs.length cp] 24)) := (Below.refl _ w).alloc (Nat.le_refl _) _
  have HB0 := Lib.hid hb0
  have HR := Lib.hid (hr.keep hb0)
  have HT := Lib.hid (ht.keep hb0)
  have HC := Lib.hid (right18_any k i b u t m a cp xs (w.alloc (.cells #[.string (st k), .string (st i), .string (st b), .string (st u), .string (st t), .int .i64 m, .slice a xs.length cp] 24)) hk (hr.keep hb0) hc (by omega))
  rw [hE] at HC
  have HWR : Hid (∀ (x : Nat) (W : World), x ≤ 8 → Tab W → RowG 2 cSh W a xs → Calls Tryz.prog 27 #[.agg #[.string (st k), .string (st i), .string (st b), .string (st u), .string (st t), .int .i64 m, .slice a xs.length cp], .int .i64 (x : Int)] W (WrPost (wordsF ⟨k, i, b, u, t, m, xs⟩ x) W)) := fun x W hx hT hR => written_any ⟨k, i, b, u, t, m, xs⟩ x a cp W hx hT hR hx8 hxb ⟨hm0, hm1⟩
  have HWL : Hid (∀ x, (wordsF ⟨k, i, b, u, t, m, xs⟩ x).length ≤ 8) := fun x => (wordsF_small hg x).1
  have HFX := Lib.hid hfl5.2
  have HKL := Lib.hid hk
  have HFF := Lib.hid hf
  obtain ⟨n, hn⟩ : ∃ n, n = xs.length := ⟨_, rfl⟩
  obtain ⟨fl, hfl⟩ : ∃ fl, fl = f.length := ⟨_, rfl⟩
  have HFN := Lib.hid hfl
  have hf5 : fl ≤ 5 := by rw [hfl]; exact hfl5.1
  obtain ⟨C, hCC⟩ : ∃ C : Cm, C = ⟨k, i, b, u, t, m, xs⟩ := ⟨_, rfl⟩
  have HCK : Hid (C.kind = k) := by show _ = _; rw [hCC]
  rw [← hCC] at HTL HWE HGD HWR HWL ⊢
  rw [← hn] at HBX HB0 HR HT HC HWR ⊢
  clear hn hr hc ht hk hf hE hg hm0 hm1 hx8 hxb hfl5 hb0 hCC
  go_enter Tryz.func10, Tryz.ntmps10
  go_upto_region 1 with fail
  obtain ⟨bx, hbx⟩ : ∃ bx, bx = w.heap.size := ⟨_, rfl⟩
  have HE := Lib.hid hbx
  rw [← hbx] at HBX HB0 ⊢
  generalize w.alloc (.cells #[.string (st k), .string (st i), .string (st b), .string (st u), .string (st t), .int .i64 m, .slice a n cp] 24) = w0 at HBX HB0 HR HT HC ⊢
  have hsz0 : bx < w0.heap.size := HBX.out.lt
  clear hbx
  obtain ⟨d0, d1, d2, d3, d4, d5, d6⟩ := cell_seven HBX.out
  go_wp2_with fail
  refine HC.out.mono ?_
  rintro e w1 ⟨rfl, hb⟩
  have HBX1 := Lib.hid (HBX.out.since hb)
  have HB1 : Hid (Below w0.heap.size w0 w1) := hb
  clear hb d0 d1 d2 d3 d4 d5 d6 HC
  obtain ⟨d0, d1, d2, d3, d4, d5, d6⟩ := cell_seven HBX1.out
  go_upto_region 5 with fail
  obtain ⟨g5, hg5⟩ : ∃ g5, g5 = w1.heap.size := ⟨_, rfl⟩
  have HOW : Hid ((w1.alloc (.cells #[.string (st k)] 9)).ownsRow w0.heap.size 9 1 (.slice (some ⟨g5, 0, none⟩) 1 1) 1 (sv [k])) := by
    rw [hg5]
    exact ⟨by simp [sv], .inr ⟨w1.heap.size, 1, #[.string (st k)], rfl, HB1.out.size, heap_alloc_new w1 _, Nat.le_refl _, by unfold maxLen; omega, by simp, by simp [sv]⟩⟩
  have hb2 : Below w1.heap.size w1 (w1.alloc (.cells #[.string (st k)] 9)) := (Below.refl _ w1).alloc (Nat.le_refl _) _
  have HBX2 := Lib.hid (HBX1.out.since hb2)
  have HB2 := Lib.hid (bel_onG HB1.out HB1.out.size hb2)
  rw [← hg5]
  generalize w1.alloc (.cells #[.string (st k)] 9) = w2 at HOW HBX2 HB2 ⊢
  clear hb2 hg5 d0 d1 d2 d3 d4 d5 d6 HBX1 HB1
  have HF : ∀ W, Hid (Below w2.heap.size w2 W → Calls Tryz.prog 18 #[] W fun e w' => ∃ mm g, e = .returned (.map (some mm)) ∧ (Instr.lookup 42 (.map (some mm)) (.string (st k)) false).run Tryz.prog w' = .ok (.slice (some ⟨g, 0, none⟩) fl fl) w' ∧ RowF w' g f ∧ Below w2.heap.size w2 w') := fun W hW => by
    refine (cforms_some HFF.out HKL.out false W).mono ?_
    rintro e w' ⟨mm, g, rfl, hl, hrw, hb⟩
    rw [← hfl] at hl
    exact ⟨mm, g, rfl, hl, hrw, bel_onG hW hW.size hb⟩
  obtain ⟨d0, d1, d2, d3, d4, d5, d6⟩ := cell_seven HBX2.out
  clear hfl
  go_cut [19, 20, 21] from 16 to 21 (fun v19 v20 v21 wx => ∃ g, v19 = .slice (some ⟨g, 0, none⟩) fl fl ∧ v20 = .int .i64 (fl : Int) ∧ v21 = .int .i64 0 ∧ Hid (RowF wx g f) ∧ Hid (Below w2.heap.size w2 wx))
  case first =>
    go_region_with (first | (go_at_call 18; refine ((HF _).out (by exact (Below.refl _ w2).drew)).mono ?_; rintro e w3 ⟨mm, g, rfl, hrun, hrow, hb⟩; have HRW := Lib.hid hrow; have HB3 := Lib.hid hb; have c0 := (cell_seven (HBX2.out.since hb)).1; clear hb hrow) | fail)
    all_goals (go_wp2; go_meet; exact ⟨g, rfl, rfl, rfl, HRW.out, HB3.out⟩)
  case rest =>
    obtain ⟨g, rfl, rfl, rfl, HRW, HB3⟩ := hcut
    clear HF d0 d1 d2 d3 d4 d5 d6
    have HOW3 := Lib.hid (own_since HOW.out HB3.out)
    have HBX3 := Lib.hid (HBX2.out.since HB3.out)
    have HB33 := Lib.hid (bel_onG HB2.out HB2.out.size HB3.out)
    clear HOW HBX2 HB2 HB3
    obtain ⟨w3, hw3⟩ : ∃ w3, w3 = wc := ⟨_, rfl⟩
    subst hw3
    have HNE := Lib.hid (HRW.out.ne HOW3.out (by decide))
    go_wp2
    go_loopg [5, 7, 21] fl (fun gk v5 _ ix wr => ∃ (j : Nat) (W : List (List UInt8)) (nw : Nat), j ≤ fl ∧ ix = .int .i64 j ∧ fl - j ≤ gk ∧ Hid (W = k :: (f.take j).flatMap (wordsF C)) ∧ nw ≤ 1 + 8 * j ∧ Hid (nw = W.length) ∧ Hid (wr.ownsRow w0.heap.size 9 1 v5 nw (sv W)) ∧ Hid (Below w0.heap.size w0 wr) ∧ Hid (RowF wr g f))
    case atStart => exact ⟨0, [k], 1, Nat.zero_le _, rfl, by omega, rfl, by omega, rfl, HOW3.out, HB33.out, HRW.out⟩
    case round =>
      obtain ⟨j, W, nw, hj, rfl, hgk, HW, hnw, HNW, HOW, HBr, HRF⟩ := hrel
      have HBXr := Lib.hid (HBX.out.since HBr.out)
      obtain ⟨d0, d1, d2, d3, d4, d5, d6⟩ := cell_seven HBXr.out
      by_cases hlt : j < fl
      · obtain ⟨x, hx⟩ : ∃ x, f[j]? = some x := ⟨_, List.getElem?_eq_getElem (by rw [← HFN.out]; exact hlt)⟩
        have hx8 : x ≤ 8 := HFX.out x (List.mem_of_getElem? hx)
        have c0 : wr.cell? ⟨g, j, none⟩ = some (.int .i64 (x : Int)) := HRF.out.get hx
        have HWX := Lib.hid (HWR.out x wr hx8 (HT.out.keep HBr.out) (HR.out.keep HBr.out))
        have hwl := HWL.out x
        have HW2 : Hid (W ++ wordsF C x = k :: (f.take (j + 1)).flatMap (wordsF C)) := by
          show _ = _
          rw [HW.out, ← HCK.out, words_takeF hx]
        obtain ⟨X, hX⟩ : ∃ X, X = wordsF C x := ⟨_, rfl⟩
        rw [← hX] at HWX HW2 hwl
        unfold WrPost at HWX
        obtain ⟨nx, hnx⟩ : ∃ nx, nx = X.length := ⟨_, rfl⟩
        have HNX := Lib.hid hnx
        rw [← hnx] at HWX hwl
        have hkz : (0 : Int) ≤ (j : Int) := by omega
        have hkn : (j : Int) < (fl : Int) := by omega
        clear hx hx8 hX hnx
        go_wp2_with fail
        refine HWX.out.mono ?_
        rintro e w4 ⟨gx, rfl, hrx, hgx, hb⟩
        have HOW4 := Lib.hid (own_since HOW.out hb)
        have HB4 := Lib.hid (bel_onG HBr.out HBr.out.size hb)
        have HRF4 := Lib.hid (HRF.out.keep hb)
        have HNE4 := Lib.hid (HRF4.out.ne HOW4.out (by decide))
        have HCL : Hid (∀ (jj : Nat) (uu : Value), (sv X)[jj]? = some uu → w4.cell? ⟨gx, jj, none⟩ = some uu) := fun jj uu hu => by
          unfold sv at hu
          rw [List.getElem?_map] at hu
          obtain ⟨y, hy, rfl⟩ := Option.map_eq_some_iff.1 hu
          have := hrx.at hy 0 _ rfl
          rwa [Nat.zero_add, Nat.mul_one, Nat.add_zero] at this
        have hsb : w0.heap.size ≤ w4.heap.size := HB4.out.size
        clear hb hrx hgx HWX HOW c0 d0 d1 d2 d3 d4 d5 d6 HBXr HRF
        go_wp2_with (first | (at_builtin; refine wpList_append_rowG rfl (.tmp 25) (.tmp 28) 56 rfl w0.heap.size 9 (.string ⟨#[]⟩) 16 Tryz.underlying56 infoStr rfl w4 _ nw (sv W) gx nx nx (sv X) (by rw [sv_length, HNX.out]) rfl rfl HOW4.out HCL.out (sv_one _) hsb (by unfold maxLen; omega) (by omega) ?_; intro v9 w9 hown hgr; have HOW9 : Hid (w9.ownsRow w0.heap.size 9 1 v9 (nw + nx) (sv (W ++ X))) := (by show World.ownsRow _ _ _ _ _ _ _; unfold sv; rw [List.map_append]; exact hown); have HRF9 := Lib.hid (HRF4.out.grown hgr HNE4.out); have HB9 : Hid (Below w0.heap.size w0 w9) := HB4.out.grown hgr hsb (fun kk hk => (HOW4.out.lt kk hk).1); clear hown hgr) | fail)
        have HN9 : Hid (nw + nx = (W ++ X).length) := by show _ = _; rw [List.length_append, ← HNW.out, ← HNX.out]
        go_roundg (fl - (j + 1))
        case measure => omega
        case rel => exact ⟨j + 1, W ++ X, nw + nx, by omega, by go_num, by omega, HW2.out, by omega, HN9.out, HOW9.out, HB9.out, HRF9.out⟩
      · have hkn : ¬ ((j : Int) < (fl : Int)) := by omega
        have HWF : Hid (W = wordsC C f) := by
          show _ = _
          rw [HW.out, List.take_of_length_le (by rw [← HFN.out]; omega)]
          unfold wordsC
          rw [HCK.out]
        obtain ⟨gw, cw, cur, hv, hgb, hgw, hcw, hmx, hcs, htk⟩ : ∃ gw cw cur, u5 = Value.slice (some ⟨gw, 0, none⟩) nw cw ∧ w0.heap.size ≤ gw ∧ wr.heap[gw]? = some (.cells cur 9 (0, 0)) ∧ nw ≤ cw ∧ cw ≤ maxLen ∧ cur.size = cw * 1 ∧ cur.toList.take (nw * 1) = sv W := by
          rcases HOW.out.2 with ⟨_, h0⟩ | h
          · exact absurd h0 (by rw [HNW.out, HW.out]; simp)
          · exact h
        have HJ : Hid (Calls Tryz.prog 28 #[.slice (some ⟨gw, 0, none⟩) nw cw, .string ⟨#[32]⟩] wr fun e w' => e = .returned (.string (st (textF C f))) ∧ Below wr.heap.size wr w') := by
          have how := HOW.out
          rw [hv] at how
          have h := join_anyC gw cw W wr (RowS.of_own how) (by rw [HW.out]; simp) (by rw [← HNW.out]; omega) (by rw [← HNW.out]; exact hcw) (by rw [HWF.out]; exact Nat.le_trans HTL.out (by omega))
          rw [← HNW.out, HWF.out] at h
          exact h
        subst hv
        clear hgb hgw hcw hmx hcs htk HOW HWF
        go_wp2_with fail
        refine HJ.out.mono ?_
        rintro e w4 ⟨rfl, hb⟩
        have HBF : Hid (Below bx w w4) := HB0.out.trans (bel_lessG (bel_onG HBr.out HBr.out.size hb) (Nat.le_of_lt hsz0))
        clear hb
        go_wp2
        go_ret2
        exact ⟨rfl, by rw [← HE.out]; exact HBF.out⟩
end Go.Proofs.YtkflakeocdlinaaGreatDoor
