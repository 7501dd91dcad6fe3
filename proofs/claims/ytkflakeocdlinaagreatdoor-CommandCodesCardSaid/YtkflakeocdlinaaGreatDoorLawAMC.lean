/-
  Laws on operations whose values have many cells: a variable's zero value, a box, a new one-element slice.
-/
import Derived.Test.YtkflakeocdlinaaGreatDoorMC01
import Derived.WalkKit
import Derived.Deep.MidRow
import Derived.Deep.WholeRow
import Derived.RegionTactic
import Derived.Deep.DeepAppendWide
import Derived.Lib.BufferWrite
import Derived.StillTailTactics
import Derived.Laws.CopyOwn
namespace Go.Proofs.YtkflakeocdlinaaGreatDoor
open Go.RowKit

section
variable {P : Program} {ops : Array Oper} {rest : List Oper} {o : Oper} {a : Act} {w : World} {Q : Exit → Act → World → Prop}

theorem info_zero {t : TypeId} {z : Value} {size bytes : Nat} (h : (P.info? t).map (fun i => (i.zero, i.size, i.bytes)) = some (some z, size, bytes)) : (∀ w, (zeroValue t).run P w = .ok z w) ∧ (P.info? t).map (·.size) = some size ∧ (∀ w, (sizeOf t).run P w = .ok size w) := by
  cases hq : P.info? t with
  | none => simp [hq] at h
  | some i =>
    simp [hq] at h
    obtain ⟨h1, h2, h3⟩ := h
    exact ⟨fun w => by simp [zeroValue, typeInfo, hq, h1], by simp [h2], fun w => by simp [sizeOf, typeInfo, hq, h2]⟩

theorem wpList_alloc_z (hgd : o.guard = none) (t : TypeId) (ho : o.op = .alloc t) (z : Array Value) (size bytes : Nat) (hi : (P.info? t).map (fun i => (i.zero, i.size, i.bytes)) = some (some (.agg z), size, bytes))
    (h : wpList P ops Q rest (a.put o.dst (.pointer (some ⟨w.heap.size, 0, none⟩))) (w.alloc (.cells z t))) : wpList P ops Q (o :: rest) a w :=
  wpList_plain hgd fun _ hK => by
    have hz := (info_zero hi).1
    unfold Oper.wp execOp
    simp [ho, Instr.alloc, hz, newVar, newRow, Value.cells, Sem.run_bind, Result.andThen]
    exact hK _ _ h

theorem wpList_box_agg (hgd : o.guard = none) (t : TypeId) (x : Operand) (ho : o.op = .box t x) (cs : Array Value) (hx : a.eval x = .agg cs)
    (h : wpList P ops Q rest (a.put o.dst (.pointer (some ⟨w.heap.size, 0, none⟩))) (w.alloc (.cells cs t))) : wpList P ops Q (o :: rest) a w :=
  wpList_plain hgd fun _ hK => by
    unfold Oper.wp execOp
    simp [ho, hx, Instr.box, newVar, newRow, Value.cells, Result.andThen]
    exact hK _ _ h

theorem wpList_store_new (hgd : o.guard = none) (ty : TypeId) (x y : Operand) (ho : o.op = .store ty x y) (hx : a.eval x = .pointer (some ⟨w.heap.size, 0, none⟩)) (cs : Array Value) (hy : a.eval y = .agg cs) (t : TypeId) (old : Array Value)
    (hi : (P.info? ty).map (·.size) = some cs.size) (hold : old.size = cs.size) (h1 : ∀ v ∈ cs.toList, v.oneCell' = true) (h : wpList P ops Q rest (a.put o.dst undef) (w.alloc (.cells cs t))) : wpList P ops Q (o :: rest) a (w.alloc (.cells old t)) := by
  refine wpList_store_row hgd ty x y ho w.heap.size cs hx hy t old (heap_alloc_new w _) hi hold (Array.all_eq_true_iff_forall_mem.2 (fun v hv => h1 v (by simpa using hv))) ?_
  rw [World.setRow_alloc_new]
  exact h

theorem wpList_build_is (hgd : o.guard = none) (t : TypeId) (i : Nat) (x : Operand) (ho : o.op = .build t #[(i, x)]) (v : Value) (hx : a.eval x = v) (cs : Array Value)
    (hb : P.built t [(i, v)] = some cs) (h : wpList P ops Q rest (a.put o.dst (.agg cs)) w) : wpList P ops Q (o :: rest) a w := by
  subst hx
  refine wpList_build hgd t _ ho ?_ ?_
  · simp [hb]
  · simpa [hb] using h

/-- copy of a string into a block that is known whole -/
theorem wpList_copy_str (hgd : o.guard = none) (d s : Operand) (dT sT elem : TypeId) (ho : o.op = .call { callee := .builtin .copy, args := #[d, s], argTypes := #[dT, sT] }) (hu : P.underlying dT = some (.slice elem)) (hsz : (P.info? elem).map (·.size) = some 1)
    (g off n c : Nat) (hd : a.eval d = .slice (some ⟨g, off, none⟩) n c) (data : ByteArray) (hs : a.eval s = .string data) (cur : Array Value) (t : TypeId) (hg : w.heap[g]? = some (.cells cur t (0, 0))) (hle : data.size ≤ n) (hfit : off + data.size ≤ cur.size)
    (h : wpList P ops Q rest (a.put o.dst (goInt data.size)) (w.setRow g (cur.toList.take off ++ Lib.byteCells data.data.toList ++ cur.toList.drop (off + data.size)).toArray)) : wpList P ops Q (o :: rest) a w :=
  wpList_plain hgd fun _ hK => by
    have hr := Go.Lib.run_copy_row_string (P := P) w dT sT o.type elem g off n c data cur t hu hsz hg hle hfit
    unfold Oper.wp execOp
    simp [ho, resolve, invoke, builtin, hd, hs, hr, Result.andThen]
    exact hK _ _ (by simpa using h)

theorem wpList_copy_str_new (hgd : o.guard = none) (d s : Operand) (dT sT elem : TypeId) (ho : o.op = .call { callee := .builtin .copy, args := #[d, s], argTypes := #[dT, sT] }) (hu : P.underlying dT = some (.slice elem)) (hsz : (P.info? elem).map (·.size) = some 1)
    (off n c : Nat) (hd : a.eval d = .slice (some ⟨w.heap.size, off, none⟩) n c) (data : ByteArray) (hs : a.eval s = .string data) (cur : Array Value) (t : TypeId) (hle : data.size ≤ n) (hfit : off + data.size ≤ cur.size) (news : Array Value)
    (hn : (cur.toList.take off ++ Lib.byteCells data.data.toList ++ cur.toList.drop (off + data.size)).toArray = news)
    (h : wpList P ops Q rest (a.put o.dst (goInt data.size)) (w.alloc (.cells news t))) : wpList P ops Q (o :: rest) a (w.alloc (.cells cur t)) := by
  refine wpList_copy_str hgd d s dT sT elem ho hu hsz w.heap.size off n c hd data hs cur t (heap_alloc_new w _) hle hfit ?_
  rw [hn, World.setRow_alloc_new]
  exact h

/-- append of one element, of whatever size, onto an own row, up to growslice's own bound; where the new row lies -/
theorem run_append_wide (w : World) (base : Nat) (t ty e : TypeId) (z : Value) (size bytes : Nat) (ht : P.underlying t = some (.slice e)) (hinfo : (P.info? e).map (fun i => (i.zero, i.size, i.bytes)) = some (some z, size, bytes)) (hzs : z.cells.size = size) (hsz : 0 < size)
    (v : Value) (n : Nat) (xs : List Value) (hown : w.ownsRow base e size v n xs) (A c : Nat) (cs : Array Value) (hA : Blk w A e cs) (hcs : cs.size = size) (h1 : ∀ u ∈ cs.toList, u.oneCell' = true)
    (h63 : n + 1 ≤ maxLen) (hbytes : ((n + 1) + (n + 1) / 4 + 192) * bytes ≤ 281474976710656) (hbase : base ≤ w.heap.size) :
    ∃ v' w', (Builtin.append_ #[t, t] ty #[v, .slice (some ⟨A, 0, none⟩) 1 c]).run P w = .ok v' w' ∧ w'.ownsRow base e size v' (n + 1) (xs ++ cs.toList) ∧ w.grownBy w' v.ownBlock ∧ (v'.ownBlock = v.ownBlock ∨ v'.ownBlock = some w.heap.size) := by
  obtain ⟨i, hi, hzz⟩ := Option.map_eq_some_iff.1 hinfo
  simp only [Prod.mk.injEq] at hzz
  obtain ⟨hz, hs1, hb1⟩ := hzz
  have hl : cs.toList.length = 1 * size := by simp [hcs]
  have hnews : ∀ j u, cs.toList[j]? = some u → w.cell? ((⟨A, 0, none⟩ : Addr).add j) = some u := fun j u hj => by
    rw [Addr.add_mid, Nat.zero_add, hA.cell j, ← Array.getElem?_toList]
    exact hj
  obtain ⟨v', w', hr, h2, h3, _⟩ := run_append_own_wide (P := P) w base t ty e i z size bytes ht hi hz hs1 hb1 hzs hsz v n xs hown ⟨A, 0, none⟩ 1 c cs.toList hl hnews h1 h63 hbytes hbase
  refine ⟨v', w', hr, h2, h3, ?_⟩
  have h63i : ((n + 1 : Nat) : Int) ≤ 9223372036854775807 := by simp only [maxLen] at h63; omega
  rcases hown.2 with ⟨rfl, rfl⟩ | ⟨g, cap, cur, rfl, hbg, hg, hnc, hcm, hcs', htake⟩
  · have hr2 := run_append_nil (P := P) w t ty e i z ht hi hz ⟨A, 0, none⟩ 1 c cs.toList (by rw [hs1]; exact hl) hnews (by omega) (by omega) (by rw [hb1]; simp at hbytes; omega)
    rw [hr] at hr2
    injection hr2 with e1 _
    right; rw [e1]; rfl
  · by_cases hroom : n + 1 ≤ cap
    · have hfit : n * i.size + cs.toList.length ≤ cur.size := by rw [hl, hcs', hs1, ← Nat.add_mul]; exact Nat.mul_le_mul_right _ hroom
      have hr2 := run_append_room (P := P) w t ty e i ht hi g n cap cur hg ⟨A, 0, none⟩ 1 c cs.toList (by rw [hs1]; exact hl) hnews h1 hroom hfit
      rw [hr] at hr2
      injection hr2 with e1 _
      left; rw [e1]; rfl
    · have holds : ∀ j u, xs[j]? = some u → w.cell? ((⟨g, 0, none⟩ : Addr).add j) = some u := hown.cells (g := g) rfl
      have hr2 := run_append_grow (P := P) w t ty e i z ht hi hz ⟨g, 0, none⟩ n cap xs (by rw [hs1]; exact hown.1) holds ⟨A, 0, none⟩ 1 c cs.toList (by rw [hs1]; exact hl) hnews (by omega) h63i (growslice_fits_wide (by omega) (by rw [hb1]; exact hbytes))
      rw [hr] at hr2
      injection hr2 with e1 _
      right; rw [e1]; rfl

theorem fold_zip (cs z : Array Value) (h : cs.size = z.size) : cs.zipIdx.foldl (fun (cs : Array Value) (x : Value × Nat) => cs.setIfInBounds (0 + x.2) x.1) z = cs := by
  have key : ∀ (l : List Value) (k : Nat) (z : List Value), k + l.length = z.length → (l.zipIdx k).foldl (fun (cs : Array Value) (x : Value × Nat) => cs.setIfInBounds (0 + x.2) x.1) z.toArray = (z.take k ++ l).toArray := by
    intro l
    induction l with
    | nil => intro k z h; simp at h; simp [h]
    | cons v r ih =>
      intro k z h
      simp only [List.zipIdx_cons, List.foldl_cons, Nat.zero_add]
      have e : z.toArray.setIfInBounds k v = (z.set k v).toArray := by simp
      simp only [Nat.zero_add] at ih
      rw [e, ih (k + 1) (z.set k v) (by simp at h ⊢; omega)]
      simp at h
      rw [List.take_succ_eq_append_getElem (by simp; omega), List.take_set_of_le (Nat.le_refl _)]
      simp
  have := key cs.toList 0 z.toList (by simpa using h)
  simp only [List.take_zero, List.nil_append, Array.toArray_toList] at this
  rw [← Array.foldl_toList, Array.toList_zipIdx]
  exact this

theorem run_buildSlice_one (w : World) (t e : TypeId) (z : Value) (size bytes : Nat) (ht : P.underlying t = some (.slice e)) (hi : (P.info? e).map (fun i => (i.zero, i.size, i.bytes)) = some (some z, size, bytes)) (h0 : 0 < size) (hmax : size ≤ 16777216)
    (v : Value) (hv : v.cells.size = size) : (Instr.buildSlice t 1 #[(0, v)]).run P w = .ok (.slice (some ⟨w.heap.size, 0, none⟩) 1 1) (w.alloc (.cells v.cells e)) := by
  obtain ⟨h1, _, h3⟩ := info_zero hi
  have hne : ¬ (size = 0) := by omega
  have hb : ¬ (16777216 < size) := by omega
  have hm : ((Array.range size).map fun i => z.cells[i % z.cells.size]!).size = size := by simp
  have hf := fold_zip v.cells ((Array.range size).map fun i => z.cells[i % z.cells.size]!) (by rw [hm, hv])
  unfold Instr.buildSlice
  simp [run_underlying ht, h3, h1, Sem.run_bind, Result.andThen, hne, hb, Instr.fill, hv, newRow]
  simp [hv] at hf
  rw [hf]

/-- copy of cells into a block that is known whole, none of them included -/
theorem wpList_copy_cells (hgd : o.guard = none) (d s : Operand) (dT sT elem : TypeId) (ho : o.op = .call { callee := .builtin .copy, args := #[d, s], argTypes := #[dT, sT] }) (hu : P.underlying dT = some (.slice elem)) (hsz : (P.info? elem).map (·.size) = some 1)
    (g off n c : Nat) (hd : a.eval d = .slice (some ⟨g, off, none⟩) n c) (ad : Addr) (m c' : Nat) (hs : a.eval s = .slice (some ad) m c') (cur : List Value) (t : TypeId) (hg : Blk w g t cur.toArray) (cs : List Value) (hm : m = cs.length) (hle : m ≤ n)
    (hsrc : ∀ j u, cs[j]? = some u → w.cell? (ad.add j) = some u) (hfit : off + cs.length ≤ cur.length) (h1 : ∀ u ∈ cs, u.oneCell' = true)
    (h : wpList P ops Q rest (a.put o.dst (goInt cs.length)) (w.setRow g (splice cur off cs).toArray)) : wpList P ops Q (o :: rest) a w := by
  refine wpList_copy_own hgd d s dT sT ho elem hu hsz g off n c ad m c' hd hs cur.toArray t hg cs (by rw [hm]; exact (Nat.min_eq_left (by omega)).symm) hsrc (by simpa using hfit) h1 ?_
  simpa [splice] using h

variable {K : Act → World → Prop}

theorem wp_buildSlice_one (dst : Option Tmp) (hdst : o.dst = dst) (t e : TypeId) (x : Operand) (ho : o.op = .buildSlice t 1 #[(0, x)]) (z : Value) (size bytes : Nat) (ht : P.underlying t = some (.slice e)) (hi : (P.info? e).map (fun i => (i.zero, i.size, i.bytes)) = some (some z, size, bytes)) (h0 : 0 < size) (hmax : size ≤ 16777216)
    (cs : Array Value) (hx : a.eval x = .agg cs) (hcs : cs.size = size)
    (h : K (a.put dst (.slice (some ⟨w.heap.size, 0, none⟩) 1 1)) (w.alloc (.cells cs e))) : o.wp P a w K Q := by
  subst hdst
  have hr := run_buildSlice_one (P := P) w t e z size bytes ht hi h0 hmax (.agg cs) hcs
  unfold Oper.wp execOp
  simp [ho, hx, hr, Result.andThen]
  exact h

theorem wp_append_wide (dst : Option Tmp) (hdst : o.dst = dst) (s x : Operand) (t e : TypeId) (ho : o.op = .call { callee := .builtin .append, args := #[s, x], argTypes := #[t, t] })
    (base : Nat) (z : Value) (size bytes : Nat) (ht : P.underlying t = some (.slice e)) (hinfo : (P.info? e).map (fun i => (i.zero, i.size, i.bytes)) = some (some z, size, bytes)) (hzs : z.cells.size = size) (hsz : 0 < size)
    (v : Value) (n : Nat) (xs : List Value) (hs : a.eval s = v) (A c : Nat) (hx : a.eval x = .slice (some ⟨A, 0, none⟩) 1 c) (hown : w.ownsRow base e size v n xs) (cs : Array Value) (hA : Blk w A e cs) (hcs : cs.size = size) (h1 : ∀ u ∈ cs.toList, u.oneCell' = true)
    (h63 : n + 1 ≤ maxLen) (hbytes : ((n + 1) + (n + 1) / 4 + 192) * bytes ≤ 281474976710656) (hbase : base ≤ w.heap.size)
    (h : ∀ v' w', w'.ownsRow base e size v' (n + 1) (xs ++ cs.toList) → w.grownBy w' v.ownBlock → (v'.ownBlock = v.ownBlock ∨ v'.ownBlock = some w.heap.size) → K (a.put dst v') w') : o.wp P a w K Q := by
  subst hdst
  obtain ⟨v', w', hr, h2, h3, h4⟩ := run_append_wide (P := P) w base t o.type e z size bytes ht hinfo hzs hsz v n xs hown A c cs hA hcs h1 h63 hbytes hbase
  unfold Oper.wp execOp
  simp only [ho, resolve, invoke, builtin, Sem.run_bind, Sem.run_pure, Result.andThen_ok, List.map_toArray, List.map_cons, List.map_nil, hs, hx, hr]
  exact h v' w' h2 h3 h4

theorem wpList_buildSlice_one (hgd : o.guard = none) (t e : TypeId) (x : Operand) (ho : o.op = .buildSlice t 1 #[(0, x)]) (z : Value) (size bytes : Nat) (ht : P.underlying t = some (.slice e)) (hi : (P.info? e).map (fun i => (i.zero, i.size, i.bytes)) = some (some z, size, bytes)) (h0 : 0 < size) (hmax : size ≤ 16777216)
    (cs : Array Value) (hx : a.eval x = .agg cs) (hcs : cs.size = size)
    (h : wpList P ops Q rest (a.put o.dst (.slice (some ⟨w.heap.size, 0, none⟩) 1 1)) (w.alloc (.cells cs e))) : wpList P ops Q (o :: rest) a w :=
  wpList_plain hgd fun _ hK => wp_buildSlice_one _ rfl t e x ho z size bytes ht hi h0 hmax cs hx hcs (hK _ _ h)

theorem wpList_append_wide (hgd : o.guard = none) (s x : Operand) (t e : TypeId) (ho : o.op = .call { callee := .builtin .append, args := #[s, x], argTypes := #[t, t] })
    (base : Nat) (z : Value) (size bytes : Nat) (ht : P.underlying t = some (.slice e)) (hinfo : (P.info? e).map (fun i => (i.zero, i.size, i.bytes)) = some (some z, size, bytes)) (hzs : z.cells.size = size) (hsz : 0 < size)
    (v : Value) (n : Nat) (xs : List Value) (hs : a.eval s = v) (A c : Nat) (hx : a.eval x = .slice (some ⟨A, 0, none⟩) 1 c) (hown : w.ownsRow base e size v n xs) (cs : Array Value) (hA : Blk w A e cs) (hcs : cs.size = size) (h1 : ∀ u ∈ cs.toList, u.oneCell' = true)
    (h63 : n + 1 ≤ maxLen) (hbytes : ((n + 1) + (n + 1) / 4 + 192) * bytes ≤ 281474976710656) (hbase : base ≤ w.heap.size)
    (h : ∀ v' w', w'.ownsRow base e size v' (n + 1) (xs ++ cs.toList) → w.grownBy w' v.ownBlock → (v'.ownBlock = v.ownBlock ∨ v'.ownBlock = some w.heap.size) → wpList P ops Q rest (a.put o.dst v') w') : wpList P ops Q (o :: rest) a w :=
  wpList_plain hgd fun _ hK => wp_append_wide _ rfl s x t e ho base z size bytes ht hinfo hzs hsz v n xs hs A c hx hown cs hA hcs h1 h63 hbytes hbase fun v' w' h2 h3 h4 => hK _ _ (h v' w' h2 h3 h4)

/-- a store of one cell -/
theorem wp_store_one (dst : Option Tmp) (hdst : o.dst = dst) (ty : TypeId) (x y : Operand) (ho : o.op = .store ty x y) (hi : (P.info? ty).map (·.size) = some 1) (A : Addr) (hx : a.eval x = .pointer (some A)) (v u : Value) (hy : a.eval y = v) (hv : v.oneCell' = true) (hc : w.cell? A = some u) (hf : w.frozen? A = false)
    (h : K (a.put dst undef) (w.setCell A v)) : o.wp P a w K Q := by
  subst hdst
  have hr : (Instr.storeAt ty (.pointer (some A)) v).run P w = .ok () (w.setCell A v) := by
    have hsz : (sizeOf ty).run P w = .ok 1 w := by
      cases hq : P.info? ty with
      | none => simp [hq] at hi
      | some i => simp [hq] at hi; simp [sizeOf, typeInfo, hq, hi]
    have hcs : v.cells = #[v] := by cases v <;> first | rfl | (simp [Value.oneCell'] at hv)
    have hst := run_store P w A v .plain hv
    rw [hc] at hst
    simp only [hf, Bool.false_eq_true, if_false] at hst
    simp [Instr.storeAt, Instr.sureAddr, storeVar, hsz, hcs, storeCells, Addr.add, hst, Result.andThen]
  unfold Oper.wp execOp
  simp only [ho, hx, hy, Sem.run_bind, hr, Result.andThen_ok, Sem.run_pure]
  exact h

theorem wpStill_load_mid {R : Act → Prop} (hgd : o.guard = none) (ty : TypeId) (x : Operand) (ho : o.op = .load ty x) (b off : Nat) (hx : a.eval x = .pointer (some ⟨b, off, none⟩)) (cs : List Value) (d : TypeDesc) (hc : w.rangeAt b off cs)
    (hu : P.underlying ty = some d) (hd : d.isRow = true) (hi : (P.info? ty).map (·.size) = some cs.length) (h : wpStill P ops w R rest (a.put o.dst (.agg cs.toArray))) : wpStill P ops w R (o :: rest) a := by
  refine wpStill_step (fun K hK => ?_)
  rw [if_pos (by simp [Region.wanted, hgd])]
  unfold Oper.still execOp
  simp only [ho, hx, Instr.loadAt, Instr.sureAddr, Sem.run_bind, Sem.run_pure, Result.andThen_ok, run_loadVar_mid w b off ty cs d hc hu hd hi]
  exact ⟨rfl, hK _ h⟩
end
end Go.Proofs.YtkflakeocdlinaaGreatDoor
