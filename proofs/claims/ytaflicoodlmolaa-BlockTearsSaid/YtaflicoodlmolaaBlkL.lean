/-
  Contracts of slices.Grow and slices.Concat, of texts; append of a whole row.
-/
import Derived.Test.YtaflicoodlmolaaBlkK
import Derived.Lib.AppendZeros
namespace Go.Proofs.Ytaflicoodlmolaa
open Go.RowKit

section
variable {P : Program} {ops : Array Oper} {rest : List Oper} {o : Oper} {a : Act} {Q : Exit → Act → World → Prop}
/-- append(v, A...): the row v, then ys. -/
theorem wpList_append_row (hgd : o.guard = none) (s x : Operand) (t : TypeId)
    (ho : o.op = .call { callee := .builtin .append, args := #[s, x], argTypes := #[t, t] })
    (base : Nat) (e : TypeId) (z : Value) (bytes : Nat) (ht : P.underlying t = some (.slice e)) (hinfo : (P.info? e).map (fun i => (i.zero, i.size, i.bytes)) = some (some z, 1, bytes)) (hz1 : z.cells.size = 1)
    (W : World) (v : Value) (n : Nat) (xs : List Value) (A : Option Addr) (c m : Nat) (ys : List Value) (hyn : ys.length = m) (hs : a.eval s = v) (hx : a.eval x = .slice A m c) (hA : A = none → m = 0 ∧ c = 0)
    (hown : W.ownsRow base e 1 v n xs) (hr : Cells W A ys) (h1 : ∀ u ∈ ys, u.oneCell' = true) (hb : base ≤ W.heap.size) (h63 : n + m ≤ maxLen) (hbytes : (n + m) * bytes ≤ 140737488355328)
    (h : ∀ v' w', w'.ownsRow base e 1 v' (n + m) (xs ++ ys) → Below base W w' → wpList P ops Q rest (a.put o.dst v') w') : wpList P ops Q (o :: rest) a W := by
  subst hyn
  obtain ⟨i, hi, hzz⟩ := Option.map_eq_some_iff.1 hinfo
  simp only [Prod.mk.injEq] at hzz
  obtain ⟨hz, hs1, hb1⟩ := hzz
  cases hAA : A with
  | none =>
    obtain ⟨h0, hc0⟩ := hA hAA
    have hxs : ys = [] := List.eq_nil_of_length_eq_zero h0
    subst hxs
    subst hAA
    subst hc0
    refine wpList_append_own_none hgd s x t ho base e i 1 ht hi _ n xs hs hown hx ?_
    exact h _ _ (by simpa using hown) (Below.refl base W)
  | some ad =>
    subst hAA
    have hcells : ∀ j u', ys[j]? = some u' → W.cell? (ad.add j) = some u' := by
      intro j u' hu'
      have hlt : j < ys.length := (List.getElem?_eq_some_iff.1 hu').1
      obtain ⟨b, off, he, hc⟩ := hr (by omega)
      injection he with he
      subst he
      have h2 := hc j u' hu'
      have e2 : (⟨b, off, none⟩ : Addr).add j = ⟨b, off + j, none⟩ := by
        unfold Addr.add
        by_cases e0 : j = 0
        · subst e0; rfl
        · simp [e0]
      rw [e2]
      exact h2
    refine wpList_append_own _ hgd s x t ho base e i z 1 bytes ht hi hz hs1 hb1 hz1 (by decide) _ n xs hs hown ad ys.length c ys hx (by simp) hcells h1 h63 hbytes hb ?_
    intro v' w' h2 h3 _
    exact h v' w' h2 ((Below.refl base W).grown h3 hb (fun k hk => (hown.lt k hk).1))
end

theorem RowS.cells {w : World} {a : Option Addr} {ls : List (List UInt8)} (h : RowS w a ls) : Cells w a (sv ls) := by
  intro h0
  obtain ⟨b, off, e, hc⟩ := h (by rw [sv_length] at h0; exact h0)
  refine ⟨b, off, e, fun i u hu => ?_⟩
  unfold sv at hu
  rw [List.getElem?_map] at hu
  obtain ⟨x, hx, rfl⟩ := Option.map_eq_some_iff.1 hu
  exact hc i x hx

theorem sv_one (ls : List (List UInt8)) : ∀ u ∈ sv ls, u.oneCell' = true := by
  intro u hu
  obtain ⟨x, _, rfl⟩ := List.mem_map.1 hu
  rfl

set_option maxHeartbeats 1000000 in
theorem grow_any (n : Nat) (w : World) (h0 : 1 ≤ n) (hn : n ≤ 1000000) :
    Calls Try.prog 23 #[.slice none 0 0, .int .i64 n] w fun e w' => ∃ v, e = .returned v ∧ Below w.heap.size w w' ∧ w'.ownsRow w.heap.size 9 1 v 0 [] := by
  obtain ⟨i0, hi, hz0, hz1, hz2⟩ := info_parts infoStr
  have hrun := Lib.run_append_nil_zeros (P := Try.prog) w 22 3 22 9 i0 (.string ⟨#[]⟩) .i64 .i64 Try.underlying22 Try.underlying3 hi hz0 n h0 (by omega) (by omega) (by rw [hz2]; omega)
  go_enter Try.func23, Try.ntmps23
  go_wp2_with (at_builtin; refine Lib.wpList_append_run _ rfl _ _ _ _ rfl _ _ rfl rfl _ _ hrun ?_)
  go_ret
  have hge := grownCap_ge w n 0 9
  have hle := grownCap_le_maxLen w n 0 9 (by unfold maxLen; omega)
  have hcs : (Value.string ⟨#[]⟩).cells.size = 1 := rfl
  refine ⟨_, rfl, ((Below.refl _ _).alloc (Nat.le_refl _) _).drew, rfl, .inr ⟨w.heap.size, grownCap w n 0 9, _, rfl, Nat.le_refl _, heap_alloc_new w _, Nat.zero_le _, hle, ?_, by simp⟩⟩
  rw [Array.size_append, size_zeroCells, size_zeroCells]
  show n * 1 + (grownCap w n 0 9 - n) * 1 = _
  omega

set_option maxHeartbeats 2000000 in
theorem concat_any (g : Nat) (a1 a2 : Option Addr) (n1 c1 n2 c2 : Nat) (xs ys : List (List UInt8)) (w : World) (hg0 : w.cell? ⟨g, 0, none⟩ = some (.slice a1 n1 c1)) (hg1 : w.cell? ⟨g, 1, none⟩ = some (.slice a2 n2 c2))
    (h1 : RowS w a1 xs) (h2 : RowS w a2 ys) (hx : xs.length = n1) (hy : ys.length = n2) (hn1 : 1 ≤ n1) (hb1 : n1 ≤ 1000) (hb2 : n2 ≤ 1000) (hA1 : a1 = none → n1 = 0 ∧ c1 = 0) (hA2 : a2 = none → n2 = 0 ∧ c2 = 0) :
    Calls Try.prog 10 #[.slice (some ⟨g, 0, none⟩) 2 2] w fun e w' => ∃ v, e = .returned v ∧ Below w.heap.size w w' ∧ w'.ownsRow w.heap.size 9 1 v (n1 + n2) (sv (xs ++ ys)) := by
  have hg := World.block_lt_of_cell? w _ hg0
  have H1 := grow_any (n1 + n2) w (by omega) (by omega)
  rw [show ((n1 + n2 : Nat) : Int) = (n1 : Int) + (n2 : Int) by omega] at H1
  have H1 := Lib.hid H1
  have HR1 := Lib.hid h1
  have HR2 := Lib.hid h2
  have HX := Lib.hid hx
  have HY := Lib.hid hy
  have HA1 := Lib.hid hA1
  have HA2 := Lib.hid hA2
  clear h1 h2 hx hy hA1 hA2
  go_enter Try.func10, Try.ntmps10
  go_wp2
  refine wp_loop_rounds 3 ?_
  rw [rounds_succ]
  go_wp2
  rw [rounds_succ]
  go_wp2
  rw [rounds_succ]
  go_wp2_with fail
  refine H1.out.mono ?_
  rintro e w1 ⟨v0, rfl, hb1, hown⟩
  have d0 : w1.cell? ⟨g, 0, none⟩ = some (.slice a1 n1 c1) := by rw [hb1.cell (p := ⟨g, 0, none⟩) hg]; exact hg0
  have d1 : w1.cell? ⟨g, 1, none⟩ = some (.slice a2 n2 c2) := by rw [hb1.cell (p := ⟨g, 1, none⟩) hg]; exact hg1
  have hg' : g < w1.heap.size := Nat.lt_of_lt_of_le hg hb1.size
  have HB1 := Lib.hid hb1
  have HO := Lib.hid hown
  have HBs : w.heap.size ≤ w1.heap.size := hb1.size
  have HS1 := Lib.hid (HR1.out.keep hb1).cells
  obtain ⟨B, hB⟩ : ∃ B, B = w.heap.size := ⟨_, rfl⟩
  have HBE := Lib.hid hB
  rw [← hB] at HO HBs
  have HB1 : Hid (Below B w w1) := by rw [hB]; exact HB1.out
  have hgB : g < B := by rw [hB]; exact hg
  clear hb1 hown H1 hB
  go_wp2
  refine wp_loop_rounds 3 ?_
  rw [rounds_succ]
  go_wp2_with (at_builtin; refine wpList_append_row rfl (.tmp 31) (.tmp 32) 22 rfl B 9 (.string ⟨#[]⟩) 16 Try.underlying22 infoStr rfl w1 v0 0 [] a1 c1 n1 (sv xs) (by rw [sv_length, HX.out]) rfl rfl HA1.out HO.out HS1.out (sv_one _) HBs (by unfold maxLen; omega) (by omega) ?_)
  intro v1 w2 hown1 hbel1
  have e0 : w2.cell? ⟨g, 0, none⟩ = some (.slice a1 n1 c1) := by rw [hbel1.cell (p := ⟨g, 0, none⟩) hgB]; exact d0
  have e1 : w2.cell? ⟨g, 1, none⟩ = some (.slice a2 n2 c2) := by rw [hbel1.cell (p := ⟨g, 1, none⟩) hgB]; exact d1
  have HB2 := Lib.hid (HB1.out.trans hbel1)
  have HO1 := Lib.hid hown1
  have HBs2 : B ≤ w2.heap.size := Nat.le_trans HBs hbel1.size
  have HS2 := Lib.hid (RowS.cells (HR2.out.keep (by rw [← HBE.out]; exact HB2.out)))
  clear hown1 hbel1
  go_wp2
  rw [rounds_succ]
  go_wp2_with (at_builtin; refine wpList_append_row rfl (.tmp 31) (.tmp 32) 22 rfl B 9 (.string ⟨#[]⟩) 16 Try.underlying22 infoStr rfl w2 v1 n1 (sv xs) a2 c2 n2 (sv ys) (by rw [sv_length, HY.out]) rfl rfl HA2.out HO1.out HS2.out (sv_one _) HBs2 (by unfold maxLen; omega) (by omega) ?_)
  intro v2 w3 hown2 hbel2
  have f0 : w3.cell? ⟨g, 0, none⟩ = some (.slice a1 n1 c1) := by rw [hbel2.cell (p := ⟨g, 0, none⟩) hgB]; exact e0
  have f1 : w3.cell? ⟨g, 1, none⟩ = some (.slice a2 n2 c2) := by rw [hbel2.cell (p := ⟨g, 1, none⟩) hgB]; exact e1
  have HB3 := Lib.hid (HB2.out.trans hbel2)
  have hsv : sv xs ++ sv ys = sv (xs ++ ys) := by simp [sv]
  rw [hsv] at hown2
  have HO2 := Lib.hid hown2
  clear hown2 hbel2 hsv
  go_wp2
  rw [rounds_succ]
  go_wp2
  go_ret
  exact ⟨v2, rfl, by rw [← HBE.out]; exact HB3.out, by rw [← HBE.out]; exact HO2.out⟩
end Go.Proofs.Ytaflicoodlmolaa
