/-
  Contract of soukref07.Set.
-/
import Derived.Test.YteclhcjfnmkkjaaBkS
import Derived.Test.YteclhcjfnmkkjaaBkC
import Derived.Test.YteclhcjfnmkkjaaOwnS
namespace Go.Proofs.Yteclhcjfnmkkjaa
open Go.RowKit Go.Lib

theorem infoRLine : (Try.prog.info? 37).map (fun i => (i.zero, i.size, i.bytes)) = some (some (.agg #[.string ⟨#[]⟩, .string ⟨#[]⟩, .string ⟨#[]⟩, .int .i64 0]), 4, 56) := by kernel_rfl

theorem setL_drop {x y : Ln} {m : List Ln} {k : Nat} {d : Bool} (hy : m[k]? = some y) : setL x d (m.drop k) = (if 0 < cmpA y.1 x.1 ∧ d = false then [x] else []) ++ ((if cmpA y.1 x.1 ≠ 0 then [y] else []) ++ setL x (d || decide (0 < cmpA y.1 x.1)) (m.drop (k + 1))) := by
  obtain ⟨h1, h2⟩ := List.getElem?_eq_some_iff.1 hy
  rw [List.drop_eq_getElem_cons h1, h2, setL]

theorem flat_get : ∀ (ss : List Ln) (i j : Nat) (x : Ln) (u : Value), ss[i]? = some x → (cL x)[j]? = some u → (ss.flatMap cL)[i * 4 + j]? = some u
  | [], i, j, x, u, h, _ => by simp at h
  | y :: r, 0, j, x, u, h, hu => by
    simp only [List.getElem?_cons_zero, Option.some.injEq] at h
    subst h
    have hj : j < (cL y).length := (List.getElem?_eq_some_iff.1 hu).1
    rw [List.flatMap_cons, Nat.zero_mul, Nat.zero_add, List.getElem?_append_left hj]
    exact hu
  | y :: r, i + 1, j, x, u, h, hu => by
    simp only [List.getElem?_cons_succ] at h
    have e : (i + 1) * 4 + j = (cL y).length + (i * 4 + j) := by rw [cL_len]; omega
    rw [List.flatMap_cons, e, List.getElem?_append_right (by omega), Nat.add_sub_cancel_left]
    exact flat_get r i j x u h hu

/-- an own row of lines: where it lies, that it can be read -/
theorem own_row {w : World} {B : Nat} {e : TypeId} {v : Value} {n : Nat} {ls : List Ln} (h : w.ownsRow B e 4 v n (ls.flatMap cL)) (hn : n = ls.length) : ∃ a c, v = .slice a ls.length c ∧ RowL w a ls ∧ ∀ p, a = some p → B ≤ p.block := by
  rcases h.2 with ⟨hv, h0⟩ | ⟨g, cap, cur, hv, hB, hg, h1, h2, h3, h4⟩
  · refine ⟨none, 0, by rw [hv, ← hn, h0], fun hp => by omega, fun p hp => by cases hp⟩
  · refine ⟨some ⟨g, 0, none⟩, cap, by rw [hv, hn], fun _ => ⟨g, 0, rfl, fun i x hx j u hu => ?_⟩, fun p hp => by injection hp with hp; rw [← hp]; exact hB⟩
    have hb : Blk w g e cur := hg
    have hf := flat_get ls i j x u hx hu
    have hi : i < ls.length := (List.getElem?_eq_some_iff.1 hx).1
    have hj : j < 4 := by have := (List.getElem?_eq_some_iff.1 hu).1; rwa [cL_len] at this
    rw [← h4, List.getElem?_take_of_lt (by omega)] at hf
    rw [Nat.zero_add, hb.cell, ← Array.getElem?_toList]
    exact hf

theorem flat_snoc {ss : List Ln} {x : Ln} : (ss ++ [x]).flatMap cL = ss.flatMap cL ++ cL x := by simp

/-- a new row of these lines -/
def RowTo (w : World) (ls : List Ln) (e : Ending) (w' : World) : Prop := ∃ a c, e = .returned (.slice a ls.length c) ∧ RowL w' a ls ∧ (∀ p, a = some p → w.heap.size ≤ p.block) ∧ Below w.heap.size w w'

/-- the cells that a round reads -/
structure Rd8 (p b o : Nat) (x y : Ln) (w : World) : Prop where
  x0 : w.cell? ⟨p, 0, none⟩ = some (.string (st x.1.1))
  x1 : w.cell? ⟨p, 1, none⟩ = some (.string (st x.1.2.1))
  x2 : w.cell? ⟨p, 2, none⟩ = some (.string (st x.1.2.2))
  x3 : w.cell? ⟨p, 3, none⟩ = some (.int .i64 x.2)
  y0 : w.cell? ⟨b, o, none⟩ = some (.string (st y.1.1))
  y1 : w.cell? ⟨b, o + 1, none⟩ = some (.string (st y.1.2.1))
  y2 : w.cell? ⟨b, o + 2, none⟩ = some (.string (st y.1.2.2))
  y3 : w.cell? ⟨b, o + 3, none⟩ = some (.int .i64 y.2)
theorem Rd8.of {p b off k : Nat} {x y : Ln} {w : World} (h1 : Blk w p 37 (cL x).toArray) (h2 : ∀ j u, (cL y)[j]? = some u → w.cell? ⟨b, off + k * 4 + j, none⟩ = some u) : Rd8 p b (off + k * 4) x y w :=
  ⟨h1.cell 0, h1.cell 1, h1.cell 2, h1.cell 3, by simpa using h2 0 _ rfl, h2 1 _ rfl, h2 2 _ rfl, h2 3 _ rfl⟩

set_option maxHeartbeats 8000000 in
set_option maxRecDepth 100000 in
theorem rSet_any (ad : Option Addr) (c : Nat) (m : List Ln) (x : Ln) (w : World) (hr : RowL w ad m) (hl : m.length ≤ 4194304) :
    Calls Try.prog 27 #[.slice ad m.length c, .agg (cL x).toArray] w (RowTo w (rSet m x)) := by
  obtain ⟨n, hn⟩ : ∃ n, n = m.length := ⟨_, rfl⟩
  have HN := Lib.hid hn
  rw [← hn] at hl ⊢
  obtain ⟨w1, hw1⟩ : ∃ w1, w1 = w.alloc (.cells (cL x).toArray 37) := ⟨_, rfl⟩
  have HW1 : Hid (w1 = w.alloc (.cells #[.string (st x.1.1), .string (st x.1.2.1), .string (st x.1.2.2), .int .i64 x.2] 37)) := hw1
  have HB0 : Hid (Below w.heap.size w w1) := by rw [hw1]; exact (Below.refl _ w).alloc (Nat.le_refl _) _
  have HR : Hid (RowL w1 ad m) := hr.keep HB0.out
  have HBX : Hid (Blk w1 w.heap.size 37 (cL x).toArray) := by rw [hw1]; exact Blk.new w _ _
  have hbx0 : w1.cell? ⟨w.heap.size, 3, none⟩ = some (.int .i64 x.2) := HBX.out.cell 3
  have HO0 := Lib.hid (World.ownsRow_nil w1 w1.heap.size 37 4)
  obtain ⟨dz, hdz⟩ : ∃ dz, dz = decide (x.2 = 0) := ⟨_, rfl⟩
  have HDZ := Lib.hid hdz
  clear hn hr hw1
  unfold cL
  cases dz with
  | true =>
    have hz : (x.2 == 0) = true := by have := HDZ.out; simpa using this.symm
    clear hdz
    go_enter Try.func27, Try.ntmps27
    go_wp2_with fail
    rw [← HW1.out]
    go_wp2_with fail
    clear hbx0 hz HW1
    go_loopg [5, 6, 7, 8] n (fun gk v dv i _ wr => ∃ (k : Nat) (out : List Ln) (d : Bool) (v0 : Value), k ≤ n ∧ i = .int .i64 k ∧ dv = .bool d ∧ v0 = v ∧ n - k ≤ gk ∧ out.length ≤ 2 * k ∧ Hid (out ++ setL x d (m.drop k) = rSet m x) ∧ Hid (wr.ownsRow w1.heap.size 37 4 v0 out.length (out.flatMap cL)) ∧ Hid (Below w1.heap.size w1 wr))
    case atStart => exact ⟨0, [], _, _, Nat.zero_le _, rfl, rfl, rfl, by omega, by simp, by show _ = _; rw [rSet, ← HDZ.out]; rfl, HO0.out, Below.refl _ _⟩
    case round =>
      clear HO0
      obtain ⟨k, out, d, v, hk, rfl, rfl, rfl, hgk, hol, HE, HOW, HB⟩ := hrel
      obtain ⟨ln, hln⟩ : ∃ ln, ln = out.length := ⟨_, rfl⟩
      have HLN := Lib.hid hln
      rw [← hln] at hol HOW
      clear hln
      by_cases hlt : k < n
      · obtain ⟨y, hy⟩ : ∃ y, m[k]? = some y := ⟨_, List.getElem?_eq_getElem (by rw [← HN.out]; exact hlt)⟩
        obtain ⟨b, off, rfl, hc⟩ := HR.out (by rw [← HN.out]; omega)
        have HRD : Hid (∀ W, Below w1.heap.size w1 W → Rd8 w.heap.size b (off + k * 4) x y W) := fun W hb => by
          obtain ⟨b', off', e, hc'⟩ := (HR.out.keep hb) (by rw [← HN.out]; omega)
          simp only [Option.some.injEq, Addr.mk.injEq, and_true] at e
          obtain ⟨rfl, rfl⟩ := e
          exact Rd8.of (HBX.out.since hb) (fun j u hu => hc' k y hy j u hu)
        have hkz : (0 : Int) ≤ (k : Int) := by omega
        have hkn : (k : Int) < (n : Int) := by omega
        have hst := setL_drop (x := x) (d := d) hy
        have hor := order_any y x
        unfold cL at hor
        generalize cmpA y.1 x.1 = oo at hst hor
        have HST := Lib.hid hst
        have HOR := Lib.hid hor
        clear hc hy hst hor
        go_wp2_with fail
        refine wp_region_E (Rd8 w.heap.size b (off + k * 4) x y) [] (by kernel_rfl) ?_
        have HBd : Hid (Below w1.heap.size w1 wr.drew) := HB.out.drew
        have HOd : Hid (wr.drew.ownsRow w1.heap.size 37 4 v ln (out.flatMap cL)) := HOW.out
        have HSd := Lib.hid (HRD.out _ HBd.out)
        generalize wr.drew = wd at HBd HOd HSd ⊢
        refine wpAnyE_take 0 (some 18) ?_ rfl rfl (by kernel_rfl) (by kernel_rfl) (by kernel_rfl) (by kernel_rfl) (fun _ _ _ h => h) (Or.inl ⟨by rfl, ?_⟩) HSd.out ?_
        rotate_left
        focus (intro wS hSw; have hS0 := hSw.x0; have hS1 := hSw.x1; have hS2 := hSw.x2; have hS3 := hSw.x3; have hS4 := hSw.y0; have hS5 := hSw.y1; have hS6 := hSw.y2; have hS7 := hSw.y3; clear hSw; go_simp; try (with_reducible rfl))
        simp only [Act.put, List.setIfInBounds_toArray, List.set_cons_zero, List.set_cons_succ]
        refine wpAnyE_take 1 (some 19) ?_ rfl rfl (by kernel_rfl) (by kernel_rfl) (by kernel_rfl) (by kernel_rfl) (fun _ _ _ h => h) (Or.inl ⟨by rfl, ?_⟩) HSd.out ?_
        rotate_left
        focus (intro wS hSw; have hS0 := hSw.x0; have hS1 := hSw.x1; have hS2 := hSw.x2; have hS3 := hSw.x3; have hS4 := hSw.y0; have hS5 := hSw.y1; have hS6 := hSw.y2; have hS7 := hSw.y3; clear hSw; go_simp; try (with_reducible rfl))
        simp only [Act.put, List.setIfInBounds_toArray, List.set_cons_zero, List.set_cons_succ]
        refine wpAnyE_take 2 (some 20) ?_ rfl rfl (by kernel_rfl) (by kernel_rfl) (by kernel_rfl) (by kernel_rfl) (fun _ _ _ h => h) (Or.inl ⟨by rfl, ?_⟩) HSd.out ?_
        rotate_left
        focus (intro wS hSw; have hS0 := hSw.x0; have hS1 := hSw.x1; have hS2 := hSw.x2; have hS3 := hSw.x3; have hS4 := hSw.y0; have hS5 := hSw.y1; have hS6 := hSw.y2; have hS7 := hSw.y3; clear hSw; go_simp; try (with_reducible rfl))
        simp only [Act.put, List.setIfInBounds_toArray, List.set_cons_zero, List.set_cons_succ]
        refine wpAnyE_take 3 (some 21) ?_ rfl rfl (by kernel_rfl) (by kernel_rfl) (by kernel_rfl) (by kernel_rfl) (fun _ _ _ h => h) (Or.inl ⟨by rfl, ?_⟩) HSd.out ?_
        rotate_left
        focus (intro wS hSw; have hS0 := hSw.x0; have hS1 := hSw.x1; have hS2 := hSw.x2; have hS3 := hSw.x3; have hS4 := hSw.y0; have hS5 := hSw.y1; have hS6 := hSw.y2; have hS7 := hSw.y3; clear hSw; go_simp; try (with_reducible rfl))
        simp only [Act.put, List.setIfInBounds_toArray, List.set_cons_zero, List.set_cons_succ]
        refine wpAnyE_take 4 (some 22) ?_ rfl rfl (by kernel_rfl) (by kernel_rfl) (by kernel_rfl) (by kernel_rfl) (fun _ _ _ h => h) (Or.inl ⟨by rfl, ?_⟩) HSd.out ?_
        rotate_left
        focus (intro wS hSw; have hS0 := hSw.x0; have hS1 := hSw.x1; have hS2 := hSw.x2; have hS3 := hSw.x3; have hS4 := hSw.y0; have hS5 := hSw.y1; have hS6 := hSw.y2; have hS7 := hSw.y3; clear hSw; go_simp; try (with_reducible rfl))
        simp only [Act.put, List.setIfInBounds_toArray, List.set_cons_zero, List.set_cons_succ]
        refine wpAnyE_oneG 5 (by kernel_rfl) rfl (by rfl) (fun K hK => ?_)
        go_simp
        with_reducible refine (HOR.out _).mono ?_
        rintro e w3 ⟨rfl, hb3⟩
        have HB3 : Hid (Below w1.heap.size w1 w3) := below_on HBd.out HBd.out.size hb3
        have HO3 : Hid (w3.ownsRow w1.heap.size 37 4 v ln (out.flatMap cL)) := own_stp HOd.out (Stp.of_below (fp := []) hb3) (fun _ _ h => by cases h)
        have HS3 := Lib.hid (HRD.out _ HB3.out)
        clear hb3
        try go_wp2_with fail
        refine hK.out _ _ HS3.out ?_
        clear hK K
        try simp only [Act.put, List.setIfInBounds_toArray, List.set_cons_zero, List.set_cons_succ]
        clear HOR HSd HBd HOd HOW HB
        refine wpAnyE_take 6 (some 8) (.int .i64 oo) rfl rfl (by kernel_rfl) (by kernel_rfl) (by kernel_rfl) (by kernel_rfl) (fun _ _ _ h => h) (Or.inl ⟨by rfl, ?_⟩) HS3.out ?_
        focus (intro wS hSw; clear hSw; go_simp; try (with_reducible rfl))
        simp only [Act.put, List.setIfInBounds_toArray, List.set_cons_zero, List.set_cons_succ]
        refine wpAnyE_done (by kernel_rfl) ?_ _
        have d0 := HS3.out.x0; have d1 := HS3.out.x1; have d2 := HS3.out.x2; have d3 := HS3.out.x3; have d4 := HS3.out.y0; have d5 := HS3.out.y1; have d6 := HS3.out.y2; have d7 := HS3.out.y3
        rcases Int.lt_trichotomy oo 0 with ho | ho | ho
        · have hob : (oo == 0) = false := by rw [beq_eq_false_iff_ne]; omega
          cases d with
          | true =>
            go_wp2_with (first | (at_builtin; refine wpList_append_struct rfl (.tmp 36) (.tmp 41) 28 rfl w1.heap.size 37 _ 4 56 Try.underlying28 infoRLine rfl (by decide) _ _ rfl (by simp [Value.oneCell']) v ln _ rfl rfl HO3.out HB3.out.size (by unfold maxLen; omega) (by omega) ?_; intro v5 w5 h1 h2; have HO5 := Lib.hid h1; have HB5 : Hid (Below w1.heap.size w1 w5) := HB3.out.trans h2; clear h1 h2) | fail)
            go_roundg (n - (k + 1))
            case measure => omega
            case rel =>
              refine ⟨k + 1, out ++ [y], true, _, by omega, by go_num, rfl, rfl, by omega, by rw [List.length_append, ← HLN.out]; simp; omega, ?_, by rw [List.length_append, ← HLN.out, flat_snoc]; exact HO5.out, HB5.out⟩
              show _ = _
              rw [← HE.out, HST.out]
              have h1 : oo ≠ 0 := by omega
              have h2 : ¬ 0 < oo := by omega
              simp [h1, h2]
          | false =>
            go_wp2_with (first | (at_builtin; refine wpList_append_struct rfl (.tmp 36) (.tmp 41) 28 rfl w1.heap.size 37 _ 4 56 Try.underlying28 infoRLine rfl (by decide) _ _ rfl (by simp [Value.oneCell']) v ln _ rfl rfl HO3.out HB3.out.size (by unfold maxLen; omega) (by omega) ?_; intro v5 w5 h1 h2; have HO5 := Lib.hid h1; have HB5 : Hid (Below w1.heap.size w1 w5) := HB3.out.trans h2; clear h1 h2) | fail)
            go_roundg (n - (k + 1))
            case measure => omega
            case rel =>
              refine ⟨k + 1, out ++ [y], false, _, by omega, by go_num, rfl, rfl, by omega, by rw [List.length_append, ← HLN.out]; simp; omega, ?_, by rw [List.length_append, ← HLN.out, flat_snoc]; exact HO5.out, HB5.out⟩
              show _ = _
              rw [← HE.out, HST.out]
              have h1 : oo ≠ 0 := by omega
              have h2 : ¬ 0 < oo := by omega
              simp [h1, h2]
        · subst ho
          cases d with
          | true =>
            go_wp2
            go_roundg (n - (k + 1))
            case measure => omega
            case rel =>
              refine ⟨k + 1, out, true, _, by omega, by go_num, rfl, rfl, by omega, by rw [← HLN.out]; omega, ?_, by rw [← HLN.out]; exact HO3.out, HB3.out⟩
              show _ = _
              rw [← HE.out, HST.out]
              simp
          | false =>
            go_wp2
            go_roundg (n - (k + 1))
            case measure => omega
            case rel =>
              refine ⟨k + 1, out, false, _, by omega, by go_num, rfl, rfl, by omega, by rw [← HLN.out]; omega, ?_, by rw [← HLN.out]; exact HO3.out, HB3.out⟩
              show _ = _
              rw [← HE.out, HST.out]
              simp
        · have hob : (oo == 0) = false := by rw [beq_eq_false_iff_ne]; omega
          cases d with
          | true =>
            go_wp2_with (first | (at_builtin; refine wpList_append_struct rfl (.tmp 36) (.tmp 41) 28 rfl w1.heap.size 37 _ 4 56 Try.underlying28 infoRLine rfl (by decide) _ _ rfl (by simp [Value.oneCell']) v ln _ rfl rfl HO3.out HB3.out.size (by unfold maxLen; omega) (by omega) ?_; intro v5 w5 h1 h2; have HO5 := Lib.hid h1; have HB5 : Hid (Below w1.heap.size w1 w5) := HB3.out.trans h2; clear h1 h2) | fail)
            go_roundg (n - (k + 1))
            case measure => omega
            case rel =>
              refine ⟨k + 1, out ++ [y], true, _, by omega, by go_num, rfl, rfl, by omega, by rw [List.length_append, ← HLN.out]; simp; omega, ?_, by rw [List.length_append, ← HLN.out, flat_snoc]; exact HO5.out, HB5.out⟩
              show _ = _
              rw [← HE.out, HST.out]
              have h1 : oo ≠ 0 := by omega
              have h2 : 0 < oo := ho
              simp [h1, h2]
          | false =>
            go_wp2_with (first | (at_builtin; refine wpList_append_struct rfl (.tmp 30) (.tmp 32) 28 rfl w1.heap.size 37 _ 4 56 Try.underlying28 infoRLine rfl (by decide) _ _ rfl (by simp [Value.oneCell']) v ln _ rfl rfl HO3.out HB3.out.size (by unfold maxLen; omega) (by omega) ?_; intro v5 w5 h1 h2; have HO5 := Lib.hid h1; have HB5 : Hid (Below w1.heap.size w1 w5) := HB3.out.trans h2; clear h1 h2; have HS5 := Lib.hid (HRD.out _ HB5.out); have g0 := HS5.out.x0; have g1 := HS5.out.x1; have g2 := HS5.out.x2; have g3 := HS5.out.x3; have g4 := HS5.out.y0; have g5 := HS5.out.y1; have g6 := HS5.out.y2; have g7 := HS5.out.y3) | (at_builtin; refine wpList_append_struct rfl (.tmp 36) (.tmp 41) 28 rfl w1.heap.size 37 _ 4 56 Try.underlying28 infoRLine rfl (by decide) _ _ rfl (by simp [Value.oneCell']) v5 (ln + 1) _ rfl rfl HO5.out HB5.out.size (by unfold maxLen; omega) (by omega) ?_; intro v6 w6 h1 h2; have HO6 := Lib.hid h1; have HB6 : Hid (Below w1.heap.size w1 w6) := HB5.out.trans h2; clear h1 h2) | fail)
            go_roundg (n - (k + 1))
            case measure => omega
            case rel =>
              refine ⟨k + 1, out ++ [x] ++ [y], true, _, by omega, by go_num, rfl, rfl, by omega, by rw [List.length_append, List.length_append, ← HLN.out]; simp; omega, ?_, by rw [List.length_append, List.length_append, ← HLN.out, flat_snoc, flat_snoc]; exact HO6.out, HB6.out⟩
              show _ = _
              rw [← HE.out, HST.out]
              have h1 : oo ≠ 0 := by omega
              have h2 : 0 < oo := ho
              simp [h1, h2]
      · have e : k = n := by omega
        subst e
        have HDR : Hid (m.drop k = []) := List.drop_of_length_le (by rw [← HN.out]; exact Nat.le_refl _)
        have HE2 := HE.out
        rw [HDR.out] at HE2
        have HBW : Hid (∀ W, Below w1.heap.size w1 W → Below w.heap.size w W) := fun W hb => HB0.out.trans (below_less hb HB0.out.size)
        cases d with
        | true =>
          have he3 : out = rSet m x := by rw [← HE2]; simp [setL]
          have HE3 := Lib.hid he3
          clear HE2 he3
          go_wp2
          go_ret
          rw [← HE3.out]
          obtain ⟨a, c, e1, e2, e3⟩ := own_row HOW.out HLN.out
          exact ⟨a, c, by rw [← e1]; rfl, e2, fun p hp => Nat.le_trans HB0.out.size (e3 p hp), HBW.out _ HB.out⟩
        | false =>
          have he3 : out ++ [x] = rSet m x := by rw [← HE2]; simp [setL]
          have HE3 := Lib.hid he3
          have HXr := Lib.hid (HBX.out.since HB.out)
          have d0 : wr.cell? ⟨w.heap.size, 0, none⟩ = some (.string (st x.1.1)) := HXr.out.cell 0
          have d1 : wr.cell? ⟨w.heap.size, 1, none⟩ = some (.string (st x.1.2.1)) := HXr.out.cell 1
          have d2 : wr.cell? ⟨w.heap.size, 2, none⟩ = some (.string (st x.1.2.2)) := HXr.out.cell 2
          have d3 : wr.cell? ⟨w.heap.size, 3, none⟩ = some (.int .i64 x.2) := HXr.out.cell 3
          clear HE2 he3
          go_wp2_with (first | (at_builtin; refine wpList_append_struct rfl (.tmp 45) (.tmp 47) 28 rfl w1.heap.size 37 _ 4 56 Try.underlying28 infoRLine rfl (by decide) _ _ rfl (by simp [Value.oneCell']) v ln _ rfl rfl HOW.out HB.out.size (by unfold maxLen; omega) (by omega) ?_; intro v5 w5 h1 h2; have HO5 := Lib.hid h1; have HB5 : Hid (Below w1.heap.size w1 w5) := HB.out.trans h2; clear h1 h2) | fail)
          go_ret
          rw [← HE3.out]
          have h5 : w5.ownsRow w1.heap.size 37 4 v5 (ln + 1) ((out ++ [x]).flatMap cL) := by rw [flat_snoc]; exact HO5.out
          obtain ⟨a, c, e1, e2, e3⟩ := own_row h5 (by rw [List.length_append, ← HLN.out]; rfl)
          exact ⟨a, c, by rw [← e1]; rfl, e2, fun p hp => Nat.le_trans HB0.out.size (e3 p hp), HBW.out _ HB5.out⟩
  | false =>
    have hz : (x.2 == 0) = false := by have := HDZ.out; simpa using this.symm
    clear hdz
    go_enter Try.func27, Try.ntmps27
    go_wp2_with fail
    rw [← HW1.out]
    go_wp2_with fail
    clear hbx0 hz HW1
    go_loopg [5, 6, 7, 8] n (fun gk v dv i _ wr => ∃ (k : Nat) (out : List Ln) (d : Bool) (v0 : Value), k ≤ n ∧ i = .int .i64 k ∧ dv = .bool d ∧ v0 = v ∧ n - k ≤ gk ∧ out.length ≤ 2 * k ∧ Hid (out ++ setL x d (m.drop k) = rSet m x) ∧ Hid (wr.ownsRow w1.heap.size 37 4 v0 out.length (out.flatMap cL)) ∧ Hid (Below w1.heap.size w1 wr))
    case atStart => exact ⟨0, [], _, _, Nat.zero_le _, rfl, rfl, rfl, by omega, by simp, by show _ = _; rw [rSet, ← HDZ.out]; rfl, HO0.out, Below.refl _ _⟩
    case round =>
      clear HO0
      obtain ⟨k, out, d, v, hk, rfl, rfl, rfl, hgk, hol, HE, HOW, HB⟩ := hrel
      obtain ⟨ln, hln⟩ : ∃ ln, ln = out.length := ⟨_, rfl⟩
      have HLN := Lib.hid hln
      rw [← hln] at hol HOW
      clear hln
      by_cases hlt : k < n
      · obtain ⟨y, hy⟩ : ∃ y, m[k]? = some y := ⟨_, List.getElem?_eq_getElem (by rw [← HN.out]; exact hlt)⟩
        obtain ⟨b, off, rfl, hc⟩ := HR.out (by rw [← HN.out]; omega)
        have HRD : Hid (∀ W, Below w1.heap.size w1 W → Rd8 w.heap.size b (off + k * 4) x y W) := fun W hb => by
          obtain ⟨b', off', e, hc'⟩ := (HR.out.keep hb) (by rw [← HN.out]; omega)
          simp only [Option.some.injEq, Addr.mk.injEq, and_true] at e
          obtain ⟨rfl, rfl⟩ := e
          exact Rd8.of (HBX.out.since hb) (fun j u hu => hc' k y hy j u hu)
        have hkz : (0 : Int) ≤ (k : Int) := by omega
        have hkn : (k : Int) < (n : Int) := by omega
        have hst := setL_drop (x := x) (d := d) hy
        have hor := order_any y x
        unfold cL at hor
        generalize cmpA y.1 x.1 = oo at hst hor
        have HST := Lib.hid hst
        have HOR := Lib.hid hor
        clear hc hy hst hor
        go_wp2_with fail
        refine wp_region_E (Rd8 w.heap.size b (off + k * 4) x y) [] (by kernel_rfl) ?_
        have HBd : Hid (Below w1.heap.size w1 wr.drew) := HB.out.drew
        have HOd : Hid (wr.drew.ownsRow w1.heap.size 37 4 v ln (out.flatMap cL)) := HOW.out
        have HSd := Lib.hid (HRD.out _ HBd.out)
        generalize wr.drew = wd at HBd HOd HSd ⊢
        refine wpAnyE_take 0 (some 18) ?_ rfl rfl (by kernel_rfl) (by kernel_rfl) (by kernel_rfl) (by kernel_rfl) (fun _ _ _ h => h) (Or.inl ⟨by rfl, ?_⟩) HSd.out ?_
        rotate_left
        focus (intro wS hSw; have hS0 := hSw.x0; have hS1 := hSw.x1; have hS2 := hSw.x2; have hS3 := hSw.x3; have hS4 := hSw.y0; have hS5 := hSw.y1; have hS6 := hSw.y2; have hS7 := hSw.y3; clear hSw; go_simp; try (with_reducible rfl))
        simp only [Act.put, List.setIfInBounds_toArray, List.set_cons_zero, List.set_cons_succ]
        refine wpAnyE_take 1 (some 19) ?_ rfl rfl (by kernel_rfl) (by kernel_rfl) (by kernel_rfl) (by kernel_rfl) (fun _ _ _ h => h) (Or.inl ⟨by rfl, ?_⟩) HSd.out ?_
        rotate_left
        focus (intro wS hSw; have hS0 := hSw.x0; have hS1 := hSw.x1; have hS2 := hSw.x2; have hS3 := hSw.x3; have hS4 := hSw.y0; have hS5 := hSw.y1; have hS6 := hSw.y2; have hS7 := hSw.y3; clear hSw; go_simp; try (with_reducible rfl))
        simp only [Act.put, List.setIfInBounds_toArray, List.set_cons_zero, List.set_cons_succ]
        refine wpAnyE_take 2 (some 20) ?_ rfl rfl (by kernel_rfl) (by kernel_rfl) (by kernel_rfl) (by kernel_rfl) (fun _ _ _ h => h) (Or.inl ⟨by rfl, ?_⟩) HSd.out ?_
        rotate_left
        focus (intro wS hSw; have hS0 := hSw.x0; have hS1 := hSw.x1; have hS2 := hSw.x2; have hS3 := hSw.x3; have hS4 := hSw.y0; have hS5 := hSw.y1; have hS6 := hSw.y2; have hS7 := hSw.y3; clear hSw; go_simp; try (with_reducible rfl))
        simp only [Act.put, List.setIfInBounds_toArray, List.set_cons_zero, List.set_cons_succ]
        refine wpAnyE_take 3 (some 21) ?_ rfl rfl (by kernel_rfl) (by kernel_rfl) (by kernel_rfl) (by kernel_rfl) (fun _ _ _ h => h) (Or.inl ⟨by rfl, ?_⟩) HSd.out ?_
        rotate_left
        focus (intro wS hSw; have hS0 := hSw.x0; have hS1 := hSw.x1; have hS2 := hSw.x2; have hS3 := hSw.x3; have hS4 := hSw.y0; have hS5 := hSw.y1; have hS6 := hSw.y2; have hS7 := hSw.y3; clear hSw; go_simp; try (with_reducible rfl))
        simp only [Act.put, List.setIfInBounds_toArray, List.set_cons_zero, List.set_cons_succ]
        refine wpAnyE_take 4 (some 22) ?_ rfl rfl (by kernel_rfl) (by kernel_rfl) (by kernel_rfl) (by kernel_rfl) (fun _ _ _ h => h) (Or.inl ⟨by rfl, ?_⟩) HSd.out ?_
        rotate_left
        focus (intro wS hSw; have hS0 := hSw.x0; have hS1 := hSw.x1; have hS2 := hSw.x2; have hS3 := hSw.x3; have hS4 := hSw.y0; have hS5 := hSw.y1; have hS6 := hSw.y2; have hS7 := hSw.y3; clear hSw; go_simp; try (with_reducible rfl))
        simp only [Act.put, List.setIfInBounds_toArray, List.set_cons_zero, List.set_cons_succ]
        refine wpAnyE_oneG 5 (by kernel_rfl) rfl (by rfl) (fun K hK => ?_)
        go_simp
        with_reducible refine (HOR.out _).mono ?_
        rintro e w3 ⟨rfl, hb3⟩
        have HB3 : Hid (Below w1.heap.size w1 w3) := below_on HBd.out HBd.out.size hb3
        have HO3 : Hid (w3.ownsRow w1.heap.size 37 4 v ln (out.flatMap cL)) := own_stp HOd.out (Stp.of_below (fp := []) hb3) (fun _ _ h => by cases h)
        have HS3 := Lib.hid (HRD.out _ HB3.out)
        clear hb3
        try go_wp2_with fail
        refine hK.out _ _ HS3.out ?_
        clear hK K
        try simp only [Act.put, List.setIfInBounds_toArray, List.set_cons_zero, List.set_cons_succ]
        clear HOR HSd HBd HOd HOW HB
        refine wpAnyE_take 6 (some 8) (.int .i64 oo) rfl rfl (by kernel_rfl) (by kernel_rfl) (by kernel_rfl) (by kernel_rfl) (fun _ _ _ h => h) (Or.inl ⟨by rfl, ?_⟩) HS3.out ?_
        focus (intro wS hSw; clear hSw; go_simp; try (with_reducible rfl))
        simp only [Act.put, List.setIfInBounds_toArray, List.set_cons_zero, List.set_cons_succ]
        refine wpAnyE_done (by kernel_rfl) ?_ _
        have d0 := HS3.out.x0; have d1 := HS3.out.x1; have d2 := HS3.out.x2; have d3 := HS3.out.x3; have d4 := HS3.out.y0; have d5 := HS3.out.y1; have d6 := HS3.out.y2; have d7 := HS3.out.y3
        rcases Int.lt_trichotomy oo 0 with ho | ho | ho
        · have hob : (oo == 0) = false := by rw [beq_eq_false_iff_ne]; omega
          cases d with
          | true =>
            go_wp2_with (first | (at_builtin; refine wpList_append_struct rfl (.tmp 36) (.tmp 41) 28 rfl w1.heap.size 37 _ 4 56 Try.underlying28 infoRLine rfl (by decide) _ _ rfl (by simp [Value.oneCell']) v ln _ rfl rfl HO3.out HB3.out.size (by unfold maxLen; omega) (by omega) ?_; intro v5 w5 h1 h2; have HO5 := Lib.hid h1; have HB5 : Hid (Below w1.heap.size w1 w5) := HB3.out.trans h2; clear h1 h2) | fail)
            go_roundg (n - (k + 1))
            case measure => omega
            case rel =>
              refine ⟨k + 1, out ++ [y], true, _, by omega, by go_num, rfl, rfl, by omega, by rw [List.length_append, ← HLN.out]; simp; omega, ?_, by rw [List.length_append, ← HLN.out, flat_snoc]; exact HO5.out, HB5.out⟩
              show _ = _
              rw [← HE.out, HST.out]
              have h1 : oo ≠ 0 := by omega
              have h2 : ¬ 0 < oo := by omega
              simp [h1, h2]
          | false =>
            go_wp2_with (first | (at_builtin; refine wpList_append_struct rfl (.tmp 36) (.tmp 41) 28 rfl w1.heap.size 37 _ 4 56 Try.underlying28 infoRLine rfl (by decide) _ _ rfl (by simp [Value.oneCell']) v ln _ rfl rfl HO3.out HB3.out.size (by unfold maxLen; omega) (by omega) ?_; intro v5 w5 h1 h2; have HO5 := Lib.hid h1; have HB5 : Hid (Below w1.heap.size w1 w5) := HB3.out.trans h2; clear h1 h2) | fail)
            go_roundg (n - (k + 1))
            case measure => omega
            case rel =>
              refine ⟨k + 1, out ++ [y], false, _, by omega, by go_num, rfl, rfl, by omega, by rw [List.length_append, ← HLN.out]; simp; omega, ?_, by rw [List.length_append, ← HLN.out, flat_snoc]; exact HO5.out, HB5.out⟩
              show _ = _
              rw [← HE.out, HST.out]
              have h1 : oo ≠ 0 := by omega
              have h2 : ¬ 0 < oo := by omega
              simp [h1, h2]
        · subst ho
          cases d with
          | true =>
            go_wp2
            go_roundg (n - (k + 1))
            case measure => omega
            case rel =>
              refine ⟨k + 1, out, true, _, by omega, by go_num, rfl, rfl, by omega, by rw [← HLN.out]; omega, ?_, by rw [← HLN.out]; exact HO3.out, HB3.out⟩
              show _ = _
              rw [← HE.out, HST.out]
              simp
          | false =>
            go_wp2
            go_roundg (n - (k + 1))
            case measure => omega
            case rel =>
              refine ⟨k + 1, out, false, _, by omega, by go_num, rfl, rfl, by omega, by rw [← HLN.out]; omega, ?_, by rw [← HLN.out]; exact HO3.out, HB3.out⟩
              show _ = _
              rw [← HE.out, HST.out]
              simp
        · have hob : (oo == 0) = false := by rw [beq_eq_false_iff_ne]; omega
          cases d with
          | true =>
            go_wp2_with (first | (at_builtin; refine wpList_append_struct rfl (.tmp 36) (.tmp 41) 28 rfl w1.heap.size 37 _ 4 56 Try.underlying28 infoRLine rfl (by decide) _ _ rfl (by simp [Value.oneCell']) v ln _ rfl rfl HO3.out HB3.out.size (by unfold maxLen; omega) (by omega) ?_; intro v5 w5 h1 h2; have HO5 := Lib.hid h1; have HB5 : Hid (Below w1.heap.size w1 w5) := HB3.out.trans h2; clear h1 h2) | fail)
            go_roundg (n - (k + 1))
            case measure => omega
            case rel =>
              refine ⟨k + 1, out ++ [y], true, _, by omega, by go_num, rfl, rfl, by omega, by rw [List.length_append, ← HLN.out]; simp; omega, ?_, by rw [List.length_append, ← HLN.out, flat_snoc]; exact HO5.out, HB5.out⟩
              show _ = _
              rw [← HE.out, HST.out]
              have h1 : oo ≠ 0 := by omega
              have h2 : 0 < oo := ho
              simp [h1, h2]
          | false =>
            go_wp2_with (first | (at_builtin; refine wpList_append_struct rfl (.tmp 30) (.tmp 32) 28 rfl w1.heap.size 37 _ 4 56 Try.underlying28 infoRLine rfl (by decide) _ _ rfl (by simp [Value.oneCell']) v ln _ rfl rfl HO3.out HB3.out.size (by unfold maxLen; omega) (by omega) ?_; intro v5 w5 h1 h2; have HO5 := Lib.hid h1; have HB5 : Hid (Below w1.heap.size w1 w5) := HB3.out.trans h2; clear h1 h2; have HS5 := Lib.hid (HRD.out _ HB5.out); have g0 := HS5.out.x0; have g1 := HS5.out.x1; have g2 := HS5.out.x2; have g3 := HS5.out.x3; have g4 := HS5.out.y0; have g5 := HS5.out.y1; have g6 := HS5.out.y2; have g7 := HS5.out.y3) | (at_builtin; refine wpList_append_struct rfl (.tmp 36) (.tmp 41) 28 rfl w1.heap.size 37 _ 4 56 Try.underlying28 infoRLine rfl (by decide) _ _ rfl (by simp [Value.oneCell']) v5 (ln + 1) _ rfl rfl HO5.out HB5.out.size (by unfold maxLen; omega) (by omega) ?_; intro v6 w6 h1 h2; have HO6 := Lib.hid h1; have HB6 : Hid (Below w1.heap.size w1 w6) := HB5.out.trans h2; clear h1 h2) | fail)
            go_roundg (n - (k + 1))
            case measure => omega
            case rel =>
              refine ⟨k + 1, out ++ [x] ++ [y], true, _, by omega, by go_num, rfl, rfl, by omega, by rw [List.length_append, List.length_append, ← HLN.out]; simp; omega, ?_, by rw [List.length_append, List.length_append, ← HLN.out, flat_snoc, flat_snoc]; exact HO6.out, HB6.out⟩
              show _ = _
              rw [← HE.out, HST.out]
              have h1 : oo ≠ 0 := by omega
              have h2 : 0 < oo := ho
              simp [h1, h2]
      · have e : k = n := by omega
        subst e
        have HDR : Hid (m.drop k = []) := List.drop_of_length_le (by rw [← HN.out]; exact Nat.le_refl _)
        have HE2 := HE.out
        rw [HDR.out] at HE2
        have HBW : Hid (∀ W, Below w1.heap.size w1 W → Below w.heap.size w W) := fun W hb => HB0.out.trans (below_less hb HB0.out.size)
        cases d with
        | true =>
          have he3 : out = rSet m x := by rw [← HE2]; simp [setL]
          have HE3 := Lib.hid he3
          clear HE2 he3
          go_wp2
          go_ret
          rw [← HE3.out]
          obtain ⟨a, c, e1, e2, e3⟩ := own_row HOW.out HLN.out
          exact ⟨a, c, by rw [← e1]; rfl, e2, fun p hp => Nat.le_trans HB0.out.size (e3 p hp), HBW.out _ HB.out⟩
        | false =>
          have he3 : out ++ [x] = rSet m x := by rw [← HE2]; simp [setL]
          have HE3 := Lib.hid he3
          have HXr := Lib.hid (HBX.out.since HB.out)
          have d0 : wr.cell? ⟨w.heap.size, 0, none⟩ = some (.string (st x.1.1)) := HXr.out.cell 0
          have d1 : wr.cell? ⟨w.heap.size, 1, none⟩ = some (.string (st x.1.2.1)) := HXr.out.cell 1
          have d2 : wr.cell? ⟨w.heap.size, 2, none⟩ = some (.string (st x.1.2.2)) := HXr.out.cell 2
          have d3 : wr.cell? ⟨w.heap.size, 3, none⟩ = some (.int .i64 x.2) := HXr.out.cell 3
          clear HE2 he3
          go_wp2_with (first | (at_builtin; refine wpList_append_struct rfl (.tmp 45) (.tmp 47) 28 rfl w1.heap.size 37 _ 4 56 Try.underlying28 infoRLine rfl (by decide) _ _ rfl (by simp [Value.oneCell']) v ln _ rfl rfl HOW.out HB.out.size (by unfold maxLen; omega) (by omega) ?_; intro v5 w5 h1 h2; have HO5 := Lib.hid h1; have HB5 : Hid (Below w1.heap.size w1 w5) := HB.out.trans h2; clear h1 h2) | fail)
          go_ret
          rw [← HE3.out]
          have h5 : w5.ownsRow w1.heap.size 37 4 v5 (ln + 1) ((out ++ [x]).flatMap cL) := by rw [flat_snoc]; exact HO5.out
          obtain ⟨a, c, e1, e2, e3⟩ := own_row h5 (by rw [List.length_append, ← HLN.out]; rfl)
          exact ⟨a, c, by rw [← e1]; rfl, e2, fun p hp => Nat.le_trans HB0.out.size (e3 p hp), HBW.out _ HB5.out⟩
end Go.Proofs.Yteclhcjfnmkkjaa
