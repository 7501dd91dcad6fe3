/-
  Contracts of cmp.Or (three numbers), book.byAccounts, and of slices.SortFunc of lines by it.
-/
import Derived.Test.YteclhcjfnmkkjaaBkM
import Derived.Test.YteclhcjfnmkkjaaOrdG
import Derived.Test.YteclhcjfnmkkjaaShelf
namespace Go.Proofs.Yteclhcjfnmkkjaa
open Go.RowKit Go.Lib Go.Sort

/-- the first that isn't 0 -/
def orI (x y z : Int) : Int := if x ≠ 0 then x else if y ≠ 0 then y else z

set_option maxHeartbeats 1000000 in
theorem or_any (b : Nat) (x y z : Int) (w : World) (c0 : w.cell? ⟨b, 0, none⟩ = some (.int .i64 x)) (c1 : w.cell? ⟨b, 1, none⟩ = some (.int .i64 y)) (c2 : w.cell? ⟨b, 2, none⟩ = some (.int .i64 z)) :
    Calls Try.prog 35 #[.slice (some ⟨b, 0, none⟩) 3 3] w fun e w' => e = .returned (.int .i64 (orI x y z)) ∧ w = w' := by
  by_cases hx : x = 0
  · subst hx
    by_cases hy : y = 0
    · subst hy
      by_cases hz : z = 0
      · subst hz
        go_enter Try.func35, Try.ntmps35
        go_wp2
        refine wp_loop_rounds 4 ?_
        rw [rounds_succ]; go_wp2
        rw [rounds_succ]; go_wp2
        rw [rounds_succ]; go_wp2
        rw [rounds_succ]; go_wp2
        go_ret
        exact ⟨rfl, rfl⟩
      · have e : orI 0 0 z = z := by simp [orI]
        have t : (z == 0) = false := by simpa using hz
        rw [e]; clear e
        go_enter Try.func35, Try.ntmps35
        go_wp2
        refine wp_loop_rounds 4 ?_
        rw [rounds_succ]; go_wp2
        rw [rounds_succ]; go_wp2
        rw [rounds_succ]; go_wp2
        go_ret
        exact ⟨rfl, rfl⟩
    · have e : orI 0 y z = y := by simp [orI, hy]
      have t : (y == 0) = false := by simpa using hy
      rw [e]; clear e
      go_enter Try.func35, Try.ntmps35
      go_wp2
      refine wp_loop_rounds 4 ?_
      rw [rounds_succ]; go_wp2
      rw [rounds_succ]; go_wp2
      go_ret
      exact ⟨rfl, rfl⟩
  · have e : orI x y z = x := by simp [orI, hx]
    have t : (x == 0) = false := by simpa using hx
    rw [e]; clear e
    go_enter Try.func35, Try.ntmps35
    go_wp2
    refine wp_loop_rounds 4 ?_
    rw [rounds_succ]; go_wp2
    go_ret
    exact ⟨rfl, rfl⟩

theorem scmp_any (a b : List UInt8) (w : World) : Calls Try.prog 36 #[.string (st a), .string (st b)] w fun e w' => e = .returned (.int .i64 (compareBytes a b)) ∧ w = w' := by
  have h := Try.strings_Compare (st a) (st b) w
  rw [st_toList, st_toList] at h
  exact h.mono fun e w' ⟨h1, h2⟩ => ⟨h1, h2.symm⟩

/-- the cells of two boxed lines -/
structure Two2 (b1 b2 : Nat) (x y : Ln) (w : World) : Prop where
  a0 : w.cell? ⟨b1, 0, none⟩ = some (.string (st x.1.1))
  a1 : w.cell? ⟨b1, 1, none⟩ = some (.string (st x.1.2.1))
  a2 : w.cell? ⟨b1, 2, none⟩ = some (.string (st x.1.2.2))
  c0 : w.cell? ⟨b2, 0, none⟩ = some (.string (st y.1.1))
  c1 : w.cell? ⟨b2, 1, none⟩ = some (.string (st y.1.2.1))
  c2 : w.cell? ⟨b2, 2, none⟩ = some (.string (st y.1.2.2))

theorem grow3 (w : World) (o1 o2 o3 : Obj) : ((w.alloc o1).alloc o2).drew.alloc o3 = grow (w.drewN 1) #[o1, o2, o3] := by
  have e : (w.alloc o1).alloc o2 = grow w #[o1, o2] := by rw [alloc_eq_grow, alloc_eq_grow, grow_grow]; rfl
  rw [e]
  show (grow (w.drewN 1) #[o1, o2]).alloc o3 = _
  rw [alloc_eq_grow, grow_grow]; rfl

theorem two2_new (w : World) (x y : Ln) (t : TypeId) : Two2 w.heap.size (w.heap.size + 1) x y ((w.alloc (.cells (cL x).toArray t)).alloc (.cells (cL y).toArray t)).drew := by
  have h1 : Blk ((w.alloc (.cells (cL x).toArray t)).alloc (.cells (cL y).toArray t)) w.heap.size t (cL x).toArray := (Blk.new w t _).alloc _
  have h2 : Blk ((w.alloc (.cells (cL x).toArray t)).alloc (.cells (cL y).toArray t)) (w.heap.size + 1) t (cL y).toArray := by
    have := Blk.new (w.alloc (.cells (cL x).toArray t)) t (cL y).toArray
    simpa using this
  exact ⟨h1.cell 0, h1.cell 1, h1.cell 2, h2.cell 0, h2.cell 1, h2.cell 2⟩

set_option maxHeartbeats 2000000 in
set_option maxRecDepth 100000 in
theorem bkcmp_any (x y : Ln) (w : World) :
    Calls Try.prog 29 #[.agg (cL x).toArray, .agg (cL y).toArray] w fun e w' => e = .returned (.int .i64 (cmpA x.1 y.1)) ∧ ∃ q os', w' = grow (w.drewN q) os' := by
  obtain ⟨xa, xn⟩ := x
  obtain ⟨xk, xp, xc⟩ := xa
  obtain ⟨ya, yn⟩ := y
  obtain ⟨yk, yp, yc⟩ := ya
  have H1 : Hid (∀ W, Calls Try.prog 36 #[.string (st xk), .string (st yk)] W fun e w' => e = .returned (.int .i64 (compareBytes xk yk)) ∧ W = w') := scmp_any xk yk
  have H2 : Hid (∀ W, Calls Try.prog 36 #[.string (st xp), .string (st yp)] W fun e w' => e = .returned (.int .i64 (compareBytes xp yp)) ∧ W = w') := scmp_any xp yp
  have H3 : Hid (∀ W, Calls Try.prog 36 #[.string (st xc), .string (st yc)] W fun e w' => e = .returned (.int .i64 (compareBytes xc yc)) ∧ W = w') := scmp_any xc yc
  have HN := Lib.hid (two2_new w ((xk, xp, xc), xn) ((yk, yp, yc), yn) 42)
  have ec : cmpA (xk, xp, xc) (yk, yp, yc) = orI (compareBytes xk yk) (compareBytes xp yp) (compareBytes xc yc) := rfl
  simp only [ec]
  generalize compareBytes xk yk = r1 at H1 ⊢
  generalize compareBytes xp yp = r2 at H2 ⊢
  generalize compareBytes xc yc = r3 at H3 ⊢
  clear ec
  unfold cL at HN ⊢
  go_enter Try.func29, Try.ntmps29
  go_wp2_with fail
  generalize hw1 : ((w.alloc (Obj.cells _ 42)).alloc (Obj.cells _ 42)) = w1 at HN ⊢
  refine wp_region_E (fun w' => Two2 w.heap.size (w.heap.size + 1) ((xk, xp, xc), xn) ((yk, yp, yc), yn) w') [] (by kernel_rfl) ?_
  generalize hw2 : w1.drew = w2 at HN ⊢
  have HW : Hid (∃ o1 o2, w2 = ((w.alloc o1).alloc o2).drew) := ⟨_, _, by rw [← hw2, ← hw1]⟩
  clear hw1 hw2
  refine wpAnyE_take 0 (some 5) ?_ rfl rfl (by kernel_rfl) (by kernel_rfl) (by kernel_rfl) (by kernel_rfl) (fun _ _ _ h => h) (Or.inl ⟨by rfl, ?_⟩) HN.out ?_
  rotate_left
  focus (intro wS hSw; have hS0 := hSw.a0; have hS1 := hSw.a1; have hS2 := hSw.a2; have hS3 := hSw.c0; have hS4 := hSw.c1; have hS5 := hSw.c2; clear hSw; go_simp; try (with_reducible rfl))
  simp only [Act.put, List.setIfInBounds_toArray, List.set_cons_zero, List.set_cons_succ]
  refine wpAnyE_take 1 (some 6) ?_ rfl rfl (by kernel_rfl) (by kernel_rfl) (by kernel_rfl) (by kernel_rfl) (fun _ _ _ h => h) (Or.inl ⟨by rfl, ?_⟩) HN.out ?_
  rotate_left
  focus (intro wS hSw; have hS0 := hSw.a0; have hS1 := hSw.a1; have hS2 := hSw.a2; have hS3 := hSw.c0; have hS4 := hSw.c1; have hS5 := hSw.c2; clear hSw; go_simp; try (with_reducible rfl))
  simp only [Act.put, List.setIfInBounds_toArray, List.set_cons_zero, List.set_cons_succ]
  refine wpAnyE_take 2 (some 7) ?_ rfl rfl (by kernel_rfl) (by kernel_rfl) (by kernel_rfl) (by kernel_rfl) (fun _ _ _ h => h) (Or.inl ⟨by rfl, ?_⟩) HN.out ?_
  rotate_left
  focus (intro wS hSw; have hS0 := hSw.a0; have hS1 := hSw.a1; have hS2 := hSw.a2; have hS3 := hSw.c0; have hS4 := hSw.c1; have hS5 := hSw.c2; clear hSw; go_simp; try (with_reducible rfl))
  simp only [Act.put, List.setIfInBounds_toArray, List.set_cons_zero, List.set_cons_succ]
  refine wpAnyE_take 3 (some 8) ?_ rfl rfl (by kernel_rfl) (by kernel_rfl) (by kernel_rfl) (by kernel_rfl) (fun _ _ _ h => h) (Or.inl ⟨by rfl, ?_⟩) HN.out ?_
  rotate_left
  focus (intro wS hSw; have hS0 := hSw.a0; have hS1 := hSw.a1; have hS2 := hSw.a2; have hS3 := hSw.c0; have hS4 := hSw.c1; have hS5 := hSw.c2; clear hSw; go_simp; try (with_reducible rfl))
  simp only [Act.put, List.setIfInBounds_toArray, List.set_cons_zero, List.set_cons_succ]
  refine wpAnyE_take 4 (some 9) ?_ rfl rfl (by kernel_rfl) (by kernel_rfl) (by kernel_rfl) (by kernel_rfl) (fun _ _ _ h => h) (Or.inl ⟨by rfl, ?_⟩) HN.out ?_
  rotate_left
  focus (intro wS hSw; have hS0 := hSw.a0; have hS1 := hSw.a1; have hS2 := hSw.a2; have hS3 := hSw.c0; have hS4 := hSw.c1; have hS5 := hSw.c2; clear hSw; go_simp; try (with_reducible rfl))
  simp only [Act.put, List.setIfInBounds_toArray, List.set_cons_zero, List.set_cons_succ]
  refine wpAnyE_take 5 (some 10) ?_ rfl rfl (by kernel_rfl) (by kernel_rfl) (by kernel_rfl) (by kernel_rfl) (fun _ _ _ h => h) (Or.inl ⟨by rfl, ?_⟩) HN.out ?_
  rotate_left
  focus (intro wS hSw; have hS0 := hSw.a0; have hS1 := hSw.a1; have hS2 := hSw.a2; have hS3 := hSw.c0; have hS4 := hSw.c1; have hS5 := hSw.c2; clear hSw; go_simp; try (with_reducible rfl))
  simp only [Act.put, List.setIfInBounds_toArray, List.set_cons_zero, List.set_cons_succ]
  refine wpAnyE_take 7 (some 12) ?_ rfl rfl (by kernel_rfl) (by kernel_rfl) (by kernel_rfl) (by kernel_rfl) (fun _ _ _ h => h) (Or.inl ⟨by rfl, ?_⟩) HN.out ?_
  rotate_left
  focus (intro wS hSw; have hS0 := hSw.a0; have hS1 := hSw.a1; have hS2 := hSw.a2; have hS3 := hSw.c0; have hS4 := hSw.c1; have hS5 := hSw.c2; clear hSw; go_simp; try (with_reducible rfl))
  simp only [Act.put, List.setIfInBounds_toArray, List.set_cons_zero, List.set_cons_succ]
  refine wpAnyE_take 8 (some 13) ?_ rfl rfl (by kernel_rfl) (by kernel_rfl) (by kernel_rfl) (by kernel_rfl) (fun _ _ _ h => h) (Or.inl ⟨by rfl, ?_⟩) HN.out ?_
  rotate_left
  focus (intro wS hSw; have hS0 := hSw.a0; have hS1 := hSw.a1; have hS2 := hSw.a2; have hS3 := hSw.c0; have hS4 := hSw.c1; have hS5 := hSw.c2; clear hSw; go_simp; try (with_reducible rfl))
  simp only [Act.put, List.setIfInBounds_toArray, List.set_cons_zero, List.set_cons_succ]
  refine wpAnyE_take 9 (some 14) ?_ rfl rfl (by kernel_rfl) (by kernel_rfl) (by kernel_rfl) (by kernel_rfl) (fun _ _ _ h => h) (Or.inl ⟨by rfl, ?_⟩) HN.out ?_
  rotate_left
  focus (intro wS hSw; have hS0 := hSw.a0; have hS1 := hSw.a1; have hS2 := hSw.a2; have hS3 := hSw.c0; have hS4 := hSw.c1; have hS5 := hSw.c2; clear hSw; go_simp; try (with_reducible rfl))
  simp only [Act.put, List.setIfInBounds_toArray, List.set_cons_zero, List.set_cons_succ]
  refine wpAnyE_take 10 (some 15) ?_ rfl rfl (by kernel_rfl) (by kernel_rfl) (by kernel_rfl) (by kernel_rfl) (fun _ _ _ h => h) (Or.inl ⟨by rfl, ?_⟩) HN.out ?_
  rotate_left
  focus (intro wS hSw; have hS0 := hSw.a0; have hS1 := hSw.a1; have hS2 := hSw.a2; have hS3 := hSw.c0; have hS4 := hSw.c1; have hS5 := hSw.c2; clear hSw; go_simp; try (with_reducible rfl))
  simp only [Act.put, List.setIfInBounds_toArray, List.set_cons_zero, List.set_cons_succ]
  refine wpAnyE_take 11 (some 16) ?_ rfl rfl (by kernel_rfl) (by kernel_rfl) (by kernel_rfl) (by kernel_rfl) (fun _ _ _ h => h) (Or.inl ⟨by rfl, ?_⟩) HN.out ?_
  rotate_left
  focus (intro wS hSw; have hS0 := hSw.a0; have hS1 := hSw.a1; have hS2 := hSw.a2; have hS3 := hSw.c0; have hS4 := hSw.c1; have hS5 := hSw.c2; clear hSw; go_simp; try (with_reducible rfl))
  simp only [Act.put, List.setIfInBounds_toArray, List.set_cons_zero, List.set_cons_succ]
  refine wpAnyE_take 12 (some 17) ?_ rfl rfl (by kernel_rfl) (by kernel_rfl) (by kernel_rfl) (by kernel_rfl) (fun _ _ _ h => h) (Or.inl ⟨by rfl, ?_⟩) HN.out ?_
  rotate_left
  focus (intro wS hSw; have hS0 := hSw.a0; have hS1 := hSw.a1; have hS2 := hSw.a2; have hS3 := hSw.c0; have hS4 := hSw.c1; have hS5 := hSw.c2; clear hSw; go_simp; try (with_reducible rfl))
  simp only [Act.put, List.setIfInBounds_toArray, List.set_cons_zero, List.set_cons_succ]
  refine wpAnyE_take 14 (some 19) ?_ rfl rfl (by kernel_rfl) (by kernel_rfl) (by kernel_rfl) (by kernel_rfl) (fun _ _ _ h => h) (Or.inl ⟨by rfl, ?_⟩) HN.out ?_
  rotate_left
  focus (intro wS hSw; have hS0 := hSw.a0; have hS1 := hSw.a1; have hS2 := hSw.a2; have hS3 := hSw.c0; have hS4 := hSw.c1; have hS5 := hSw.c2; clear hSw; go_simp; try (with_reducible rfl))
  simp only [Act.put, List.setIfInBounds_toArray, List.set_cons_zero, List.set_cons_succ]
  refine wpAnyE_take 15 (some 20) ?_ rfl rfl (by kernel_rfl) (by kernel_rfl) (by kernel_rfl) (by kernel_rfl) (fun _ _ _ h => h) (Or.inl ⟨by rfl, ?_⟩) HN.out ?_
  rotate_left
  focus (intro wS hSw; have hS0 := hSw.a0; have hS1 := hSw.a1; have hS2 := hSw.a2; have hS3 := hSw.c0; have hS4 := hSw.c1; have hS5 := hSw.c2; clear hSw; go_simp; try (with_reducible rfl))
  simp only [Act.put, List.setIfInBounds_toArray, List.set_cons_zero, List.set_cons_succ]
  refine wpAnyE_take 16 (some 21) ?_ rfl rfl (by kernel_rfl) (by kernel_rfl) (by kernel_rfl) (by kernel_rfl) (fun _ _ _ h => h) (Or.inl ⟨by rfl, ?_⟩) HN.out ?_
  rotate_left
  focus (intro wS hSw; have hS0 := hSw.a0; have hS1 := hSw.a1; have hS2 := hSw.a2; have hS3 := hSw.c0; have hS4 := hSw.c1; have hS5 := hSw.c2; clear hSw; go_simp; try (with_reducible rfl))
  simp only [Act.put, List.setIfInBounds_toArray, List.set_cons_zero, List.set_cons_succ]
  refine wpAnyE_take 17 (some 22) ?_ rfl rfl (by kernel_rfl) (by kernel_rfl) (by kernel_rfl) (by kernel_rfl) (fun _ _ _ h => h) (Or.inl ⟨by rfl, ?_⟩) HN.out ?_
  rotate_left
  focus (intro wS hSw; have hS0 := hSw.a0; have hS1 := hSw.a1; have hS2 := hSw.a2; have hS3 := hSw.c0; have hS4 := hSw.c1; have hS5 := hSw.c2; clear hSw; go_simp; try (with_reducible rfl))
  simp only [Act.put, List.setIfInBounds_toArray, List.set_cons_zero, List.set_cons_succ]
  refine wpAnyE_take 18 (some 23) ?_ rfl rfl (by kernel_rfl) (by kernel_rfl) (by kernel_rfl) (by kernel_rfl) (fun _ _ _ h => h) (Or.inl ⟨by rfl, ?_⟩) HN.out ?_
  rotate_left
  focus (intro wS hSw; have hS0 := hSw.a0; have hS1 := hSw.a1; have hS2 := hSw.a2; have hS3 := hSw.c0; have hS4 := hSw.c1; have hS5 := hSw.c2; clear hSw; go_simp; try (with_reducible rfl))
  simp only [Act.put, List.setIfInBounds_toArray, List.set_cons_zero, List.set_cons_succ]
  refine wpAnyE_take 19 (some 24) ?_ rfl rfl (by kernel_rfl) (by kernel_rfl) (by kernel_rfl) (by kernel_rfl) (fun _ _ _ h => h) (Or.inl ⟨by rfl, ?_⟩) HN.out ?_
  rotate_left
  focus (intro wS hSw; have hS0 := hSw.a0; have hS1 := hSw.a1; have hS2 := hSw.a2; have hS3 := hSw.c0; have hS4 := hSw.c1; have hS5 := hSw.c2; clear hSw; go_simp; try (with_reducible rfl))
  simp only [Act.put, List.setIfInBounds_toArray, List.set_cons_zero, List.set_cons_succ]
  refine wpAnyE_oneG 6 (by kernel_rfl) rfl (by rfl) (fun K hK => ?_)
  go_simp
  with_reducible refine (H1.out _).mono ?_
  rintro e w3 ⟨rfl, rfl⟩
  try go_wp2_with fail
  refine hK.out _ _ HN.out ?_
  clear hK K
  try simp only [Act.put, List.setIfInBounds_toArray, List.set_cons_zero, List.set_cons_succ]
  clear H1
  refine wpAnyE_oneG 13 (by kernel_rfl) rfl (by rfl) (fun K hK => ?_)
  go_simp
  with_reducible refine (H2.out _).mono ?_
  rintro e w3 ⟨rfl, rfl⟩
  try go_wp2_with fail
  refine hK.out _ _ HN.out ?_
  clear hK K
  try simp only [Act.put, List.setIfInBounds_toArray, List.set_cons_zero, List.set_cons_succ]
  clear H2
  refine wpAnyE_oneG 20 (by kernel_rfl) rfl (by rfl) (fun K hK => ?_)
  go_simp
  with_reducible refine (H3.out _).mono ?_
  rintro e w3 ⟨rfl, rfl⟩
  try go_wp2_with fail
  refine hK.out _ _ HN.out ?_
  clear hK K
  try simp only [Act.put, List.setIfInBounds_toArray, List.set_cons_zero, List.set_cons_succ]
  clear H3
  have HR : Hid (∀ i v, #[Value.int .i64 r1, .int .i64 r2, .int .i64 r3][i]? = some v → (w2.alloc (.cells #[Value.int .i64 r1, .int .i64 r2, .int .i64 r3] 3)).cell? ⟨w2.heap.size, i, none⟩ = some v) := fun i v hv => by
    rw [(Blk.new w2 3 _).cell i]; exact hv
  have HS : Hid (Two2 w.heap.size (w.heap.size + 1) ((xk, xp, xc), xn) ((yk, yp, yc), yn) (w2.alloc (.cells #[Value.int .i64 r1, .int .i64 r2, .int .i64 r3] 3))) := by
    have k : ∀ {p : Addr} {v : Value}, w2.cell? p = some v → (w2.alloc (.cells #[Value.int .i64 r1, .int .i64 r2, .int .i64 r3] 3)).cell? p = some v := fun {p v} h => by
      rw [World.cell?_alloc_lt _ _ _ (World.block_lt_of_cell? w2 p h)]; exact h
    have h := HN.out
    exact ⟨k h.a0, k h.a1, k h.a2, k h.c0, k h.c1, k h.c2⟩
  refine wpAnyE_oneG 21 (by kernel_rfl) rfl (by rfl) (fun K hK => ?_)
  go_simp
  refine hK.out _ _ HS.out ?_
  clear hK K HN
  try simp only [Act.put, List.setIfInBounds_toArray, List.set_cons_zero, List.set_cons_succ]
  have HO := Lib.hid (or_any w2.heap.size r1 r2 r3 (w2.alloc (.cells #[Value.int .i64 r1, .int .i64 r2, .int .i64 r3] 3)) (HR.out 0 _ rfl) (HR.out 1 _ rfl) (HR.out 2 _ rfl))
  clear HR
  refine wpAnyE_oneG 22 (by kernel_rfl) rfl (by rfl) (fun K hK => ?_)
  go_simp
  with_reducible refine HO.out.mono ?_
  rintro e w3 ⟨rfl, rfl⟩
  try go_wp2_with fail
  refine hK.out _ _ HS.out ?_
  clear hK K HO
  try simp only [Act.put, List.setIfInBounds_toArray, List.set_cons_zero, List.set_cons_succ]
  refine wpAnyE_take 23 (some 4) (.int .i64 (orI r1 r2 r3)) rfl rfl (by kernel_rfl) (by kernel_rfl) (by kernel_rfl) (by kernel_rfl) (fun _ _ _ h => h) (Or.inl ⟨by rfl, ?_⟩) HS.out ?_
  focus (intro wS hSw; (try dsimp only at hSw); go_simp; try (with_reducible rfl))
  simp only [Act.put, List.setIfInBounds_toArray, List.set_cons_zero, List.set_cons_succ]
  refine wpAnyE_done (by kernel_rfl) ?_ _
  clear HS
  obtain ⟨o1, o2, e⟩ := HW.out
  have HG : Hid (w2.alloc (.cells #[Value.int .i64 r1, .int .i64 r2, .int .i64 r3] 3) = grow (w.drewN 1) #[o1, o2, .cells #[Value.int .i64 r1, .int .i64 r2, .int .i64 r3] 3]) := by rw [e]; exact grow3 w o1 o2 _
  clear e HW
  go_wp2
  go_ret
  exact ⟨rfl, 1, _, HG.out⟩

theorem isAggLine (w : World) : (isAgg 42).run Try.prog w = .ok true w := by kernel_rfl
theorem sizeLine (w : World) : (Go.sizeOf 42).run Try.prog w = .ok 4 w := by kernel_rfl

/-- lines in the order of accounts -/
def cmpL2 (x y : Ln) : Int := cmpA x.1 y.1
theorem cmpL2_lt (x y : Ln) : ltOf cmpL2 x y = decide (cmpA x.1 y.1 < 0) := rfl
theorem cmpA_cases (a b : Ac) : cmpA a b < 0 ∨ a = b ∨ cmpA b a < 0 := by
  have := cmpA_swap a b
  by_cases h : cmpA a b = 0
  · exact .inr (.inl (cmpA_eq h))
  · omega
theorem swoL : SWO (ltOf cmpL2) where
  irrefl x := by rw [cmpL2_lt, cmpA_self]; rfl
  trans x y z h1 h2 := by
    rw [cmpL2_lt] at *
    simp only [decide_eq_true_eq] at *
    exact cmpA_trans h1 h2
  ntrans x y z h1 h2 := by
    rw [cmpL2_lt] at *
    simp only [decide_eq_false_iff_not] at *
    intro h3
    rcases cmpA_cases x.1 y.1 with h | h | h
    · exact h1 h
    · rw [← h] at h2; exact h2 h3
    · exact h2 (cmpA_trans h h3)

theorem cL_len (x : Ln) : (cL x).length = 4 := rfl
theorem cL_one (x : Ln) : ∀ v ∈ cL x, v.oneCell' = true := by
  intro v hv
  simp only [cL, List.mem_cons, List.not_mem_nil, or_false] at hv
  rcases hv with rfl | rfl | rfl | rfl <;> rfl

theorem cmpLays (blk off size : Nat) (w : World) : CmpLays Try.prog 29 #[] cL 4 cmpL2 blk off size w := fun _ _ _ _ x y => by
  have e : #[Value.agg (cL x).toArray, .agg (cL y).toArray] ++ (#[] : Array Value) = #[Value.agg (cL x).toArray, .agg (cL y).toArray] := by simp
  rw [e]
  exact bkcmp_any x y _

/-- slices.SortFunc(l, byAccounts) -/
theorem sort_lines (blk off cap : Nat) (d : Array Ln) (w : World) (hH : HoldsK cL 4 w blk off d) (hblk : blk < w.heap.size) (hsz : d.size < 4611686018427387904) :
    Calls Try.prog 28 #[.slice (some ⟨blk, off, none⟩) d.size cap, .func (.func 29) #[] #[]] w fun e w' => e = .returned (.tuple #[]) ∧ ∃ d' n os, PermIn 0 d.size d d' ∧ SortedIn (ltOf cmpL2) 0 d.size d' ∧ w' = sortWorldK cL 4 w blk off n d' os :=
  Try.slices_SortFunc 4 isAggLine sizeLine cL cL_len cL_one cmpL2 swoL 29 #[] blk off cap d w (enters_of Try.func29 (by kernel_rfl) rfl) (cmpLays blk off d.size w) hH hblk hsz
end Go.Proofs.Yteclhcjfnmkkjaa
