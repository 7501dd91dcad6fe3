/-
  The map of forms: contract of plan.forms; what is found in it.
-/
import Derived.Test.YtjegfoeempojiaaDoorPlnP
import Derived.Test.YtjegfoeempojiaaDoorStrs
import Derived.Test.YtjegfoeempojiaaDoorHeap
import Derived.Maps.OwnSet
import Derived.Maps.RangeWalk
import Derived.Lib.Hide
namespace Go.Proofs.YtjegfoeempojiaaDoor
open Go.RowKit Go.Maps

/-- a value, as a datum: itself -/
def Held (v : Value) : Option (DataW Value × List MemPlace) := some (.held v, [])

theorem keyS : Keyed Tryd.prog 9 := string_keyed Tryd.underlying9
theorem keyS_of {l : List UInt8} (h : l.length ≤ maxLen) : keyOf Tryd.prog 9 (.string (st l)) = some (.string l) := by
  have := Go.WideMaps.keyOf_string_mk (P := Tryd.prog) Tryd.underlying9 (s := st l) (by rw [st_size]; exact h)
  rw [this, st_toList]
theorem zeroKinds (w : World) : (zeroValue 36).run Tryd.prog w = .ok (.slice none 0 0) w := by kernel_rfl

/-- kinds of parts, in a row -/
def RowN2 (w : World) (g : Nat) (f : List Nat) : Prop := ∀ (i x : Nat), f[i]? = some x → w.cell? ⟨g, i, none⟩ = some (.int .i64 (x : Int))
theorem RowN2.stp {w w' : World} {g : Nat} {f : List Nat} {fp : List Nat} (h : RowN2 w g f) (hs : Stp fp w w') (hn : g ∉ fp) : RowN2 w' g f := fun i x hx => by
  have c := h i x hx
  have hlt := World.block_lt_of_cell? w (⟨g, i, none⟩ : Addr) c
  rw [← c]
  simp only [World.cell?, hs.block g hlt hn]
theorem RowN2.keep {w w' : World} {g : Nat} {f : List Nat} (h : RowN2 w g f) (hb : Below w.heap.size w w') : RowN2 w' g f := h.stp (Stp.of_below (fp := []) hb) (by simp)
theorem RowN2.new (w : World) (t : TypeId) (f : List Nat) (cs : Array Value) (h : cs.toList = f.map fun x : Nat => Value.int .i64 (x : Int)) : RowN2 (w.alloc (.cells cs t)) w.heap.size f := fun i x hx => by
  rw [(Blk.new w t cs).cell i, ← Array.getElem?_toList, h, List.getElem?_map, hx]; rfl

theorem RowN2.at (w : World) (t : TypeId) (f : List Nat) (cs : Array Value) (g : Nat) (hg : g = w.heap.size) (h : cs.toList = f.map fun x : Nat => Value.int .i64 (x : Int)) : RowN2 (w.alloc (.cells cs t)) g f := by
  subst hg; exact RowN2.new w t f cs h

/-- what is found of a key -/
def Ent (D : DataW Value) (w : World) (m : Nat) (k : List UInt8) (o : Option (List Nat)) : Prop :=
  match o with
  | none => Maps.has D (.string k) = false
  | some f => Maps.has D (.string k) = true ∧ ∃ g, g ≠ m ∧ D.atKey (.string k) (.held (.slice none 0 0)) = .held (.slice (some ⟨g, 0, none⟩) f.length f.length) ∧ RowN2 w g f

/-- block m is a map; these are its entries, each with its row: the last one stored ahead -/
def FMs (w : World) (m n : Nat) (es : List (List UInt8 × List Nat)) : Prop :=
  ∃ D : DataW Value, w.ownsMap Tryd.prog 9 Held m n D ∧ ∀ k, Ent D w m k (es.lookup k)

theorem FMs.made (w : World) : FMs (w.alloc (.map #[] 0)) w.heap.size 0 [] :=
  ⟨.map [], World.ownsMap_made w _ _ _, fun _ => rfl⟩
theorem FMs.lt {w : World} {m n : Nat} {es : List (List UInt8 × List Nat)} (h : FMs w m n es) : m < w.heap.size := by obtain ⟨D, h, _⟩ := h; exact h.lt
theorem FMs.keep {w w' : World} {m n : Nat} {es : List (List UInt8 × List Nat)} (h : FMs w m n es) (hb : Below w.heap.size w w') : FMs w' m n es := by
  obtain ⟨D, ⟨es', clock, h1, h2⟩, hk⟩ := h
  have hlt : m < w.heap.size := (Array.getElem?_eq_some_iff.1 h1).1
  refine ⟨D, ⟨es', clock, (hb.block m hlt).trans h1, h2⟩, fun k => ?_⟩
  have := hk k
  generalize es.lookup k = o at this ⊢
  cases o with
  | none => exact this
  | some f =>
    obtain ⟨a1, g, a2, a3, a4⟩ := this
    exact ⟨a1, g, a2, a3, a4.keep hb⟩
theorem FMs.alloc {w : World} {m n : Nat} {es : List (List UInt8 × List Nat)} (h : FMs w m n es) (o : Obj) : FMs (w.alloc o) m n es := h.keep ((Below.refl _ w).alloc (Nat.le_refl _) o)

theorem FMs.store {w : World} {m n : Nat} {es : List (List UInt8 × List Nat)} (h : FMs w m n es) (hn : n < maxLen) {k : List UInt8} (hk : k.length ≤ maxLen) {f : List Nat} {g : Nat} (hg : g ≠ m) (hr : RowN2 w g f) :
    ∃ w', (Instr.mapUpdate 38 (.map (some m)) (.string (st k)) (.slice (some ⟨g, 0, none⟩) f.length f.length)).run Tryd.prog w = .ok () w' ∧ FMs w' m (n + 1) ((k, f) :: es) ∧ Stp [m] w w' := by
  obtain ⟨D, h, hs⟩ := h
  obtain ⟨w', hrun, hown, ht⟩ := h.store keyS Tryd.underlying38 hn (keyS_of hk) (d := .held (.slice (some ⟨g, 0, none⟩) f.length f.length)) (ps := []) rfl
  have hstp : Stp [m] w w' := Stp.of_grown ht.grown (by simp)
  refine ⟨w', hrun, ⟨_, hown, fun c => ?_⟩, hstp⟩
  rw [List.lookup_cons]
  by_cases e : c = k
  · subst e
    simp only [beq_self_eq_true]
    refine ⟨has_put_same h.isMap (keyS.key (keyS_of hk)) _, g, hg, atKey_put_same h.isMap (keyS.key (keyS_of hk)) _ _, hr.stp hstp (by simpa using hg)⟩
  · have e1 : (c == k) = false := by rw [beq_eq_false_iff_ne]; exact e
    have e2 : Lit.string c ≠ Lit.string k := fun he => e (by injection he)
    rw [e1]
    have := hs c
    simp only
    generalize es.lookup c = o at this ⊢
    cases o with
    | none => exact (has_put_other e2 _).trans this
    | some f2 =>
      obtain ⟨a1, g2, a2, a3, a4⟩ := this
      exact ⟨(has_put_other e2 _).trans a1, g2, a2, (atKey_put_other e2 _ _).trans a3, a4.stp hstp (by simpa using a2)⟩

/-- an entry of a map's own text -/
theorem wpList_insertF {ops : Array Oper} {rest : List Oper} {o : Oper} {a : Act} {Q : Exit → Act → World → Prop} (w : World) (hg : o.guard = none) (mo x v : Operand) (hop : o.op = Op.insert 38 mo x v) (m n : Nat) (es : List (List UInt8 × List Nat)) (hm : a.eval mo = .map (some m)) (h : FMs w m n es) (hn : n < maxLen)
    (k : List UInt8) (hx : a.eval x = .string (st k)) (hk : k.length ≤ maxLen) (g c : Nat) (f : List Nat) (hv : a.eval v = .slice (some ⟨g, 0, none⟩) c c) (hc : c = f.length) (hgm : g ≠ m) (hr : RowN2 w g f)
    (hK : ∀ w', FMs w' m (n + 1) ((k, f) :: es) → Stp [m] w w' → wpList Tryd.prog ops Q rest (a.put o.dst undef) w') : wpList Tryd.prog ops Q (o :: rest) a w := by
  subst hc
  refine wpList_plain hg fun K' hK' => ?_
  obtain ⟨w', hrun, r1, r2⟩ := h.store hn hk hgm hr
  unfold Oper.wp
  simp [execOp, hop, hm, hx, hv, hrun, Result.andThen]
  exact hK' _ _ (hK w' r1 r2)

/-- the forms, as they are stored -/
def formsL : List (List UInt8 × List Nat) := [(kRes, [2, 1]), (kTax, [2]), (kMin, [1]), (kCap, [1]), (kCat, [0, 2]), (kTier, [1, 2])]
theorem formsL_look (k : List UInt8) : formsL.lookup k = formL k := by
  rcases formL_six k with ⟨e, h2⟩ | ⟨e, h2⟩ | ⟨e, h2⟩ | ⟨e, h2⟩ | ⟨e, h2⟩ | ⟨e, h2⟩ | ⟨h2, n1, n2, n3, n4, n5, n6⟩
  iterate 6 (rw [h2]; subst e; rfl)
  rw [h2]
  unfold formsL
  simp only [List.lookup_cons, beq_eq_false_iff_ne.2 n1, beq_eq_false_iff_ne.2 n2, beq_eq_false_iff_ne.2 n3, beq_eq_false_iff_ne.2 n4, beq_eq_false_iff_ne.2 n5, beq_eq_false_iff_ne.2 n6, List.lookup_nil]

/-- block m is the map of forms -/
def FM (w : World) (m : Nat) : Prop := FMs w m 6 formsL

theorem FM.keep {w w' : World} {m : Nat} (h : FM w m) (hb : Below w.heap.size w w') : FM w' m := FMs.keep h hb

theorem FM.look {w : World} {m : Nat} (h : FM w m) {k : List UInt8} (hk : k.length ≤ maxLen) :
    (formL k = none ∧ (Instr.lookup 38 (.map (some m)) (.string (st k)) true).run Tryd.prog w = .ok (.tuple #[.slice none 0 0, .bool false]) w) ∨
    ∃ f g, formL k = some f ∧ (Instr.lookup 38 (.map (some m)) (.string (st k)) true).run Tryd.prog w = .ok (.tuple #[.slice (some ⟨g, 0, none⟩) f.length f.length, .bool true]) w ∧ RowN2 w g f := by
  obtain ⟨D, h, hs⟩ := h
  obtain ⟨v, ps, hrun, hv⟩ := h.look_ok keyS Tryd.underlying38 (zeroKinds w) (zd := .held (.slice none 0 0)) (zp := []) rfl (keyS_of hk)
  have := hs k
  rw [formsL_look] at this
  unfold Held at hv
  simp only [Option.some.injEq, Prod.mk.injEq] at hv
  obtain ⟨hv, _⟩ := hv
  generalize hl : formL k = o at this ⊢
  cases o with
  | none =>
    refine .inl ⟨rfl, ?_⟩
    rw [this] at hrun
    rw [atKey_of_not_has this] at hv
    rw [DataW.held.injEq] at hv
    rw [hv] at hrun
    exact hrun
  | some f =>
    obtain ⟨a1, g, a2, a3, a4⟩ := this
    refine .inr ⟨f, g, rfl, ?_, a4⟩
    rw [a1] at hrun
    rw [a3] at hv
    rw [DataW.held.injEq] at hv
    rw [hv] at hrun
    exact hrun

/-- without the second answer -/
theorem FM.look1 {w : World} {m : Nat} (h : FM w m) {k : List UInt8} (hk : k.length ≤ maxLen) :
    (formL k = none ∧ (Instr.lookup 38 (.map (some m)) (.string (st k)) false).run Tryd.prog w = .ok (.slice none 0 0) w) ∨
    ∃ f g, formL k = some f ∧ (Instr.lookup 38 (.map (some m)) (.string (st k)) false).run Tryd.prog w = .ok (.slice (some ⟨g, 0, none⟩) f.length f.length) w ∧ RowN2 w g f := by
  obtain ⟨D, h, hs⟩ := h
  obtain ⟨v, ps, hrun, hv⟩ := h.lookup keyS Tryd.underlying38 (zeroKinds w) (zd := .held (.slice none 0 0)) (zp := []) rfl (keyS_of hk)
  have := hs k
  rw [formsL_look] at this
  unfold Held at hv
  simp only [Option.some.injEq, Prod.mk.injEq] at hv
  obtain ⟨hv, _⟩ := hv
  generalize hl : formL k = o at this ⊢
  cases o with
  | none =>
    refine .inl ⟨rfl, ?_⟩
    rw [atKey_of_not_has this] at hv
    rw [DataW.held.injEq] at hv
    rw [hv] at hrun
    exact hrun
  | some f =>
    obtain ⟨a1, g, a2, a3, a4⟩ := this
    refine .inr ⟨f, g, rfl, ?_, a4⟩
    rw [a3] at hv
    rw [DataW.held.injEq] at hv
    rw [hv] at hrun
    exact hrun

set_option maxHeartbeats 1000000 in
set_option maxRecDepth 100000 in
theorem forms_any (w : World) : Calls Tryd.prog 11 #[] w fun e w' => ∃ m, e = .returned (.map (some m)) ∧ FM w' m ∧ Below w.heap.size w w' := by
  have hmm := @run_makeMap Tryd.prog
  go_enter Tryd.func11, Tryd.ntmps11
  go_wp2_with (first
    | (refine wpList_insertF _ rfl (.tmp 1) (.const _) (.tmp 2) rfl w.heap.size 0 [] rfl ((FMs.made w).alloc _) (by unfold maxLen; omega) kTier rfl (by decide) _ 2 [1, 2] rfl rfl (by simp) (RowN2.at _ _ [1, 2] _ _ (by simp) rfl) ?_; intro w1 hm1 hs1; have HM1 := Lib.hid hm1; have HS1 : Hid (Stp [] w w1) := (((Stp.refl [] w).alloc _).alloc _).trans hs1 (fun k hk => by rw [List.mem_singleton] at hk; exact .inr (by omega)); clear hm1 hs1; go_frame)
    | (refine wpList_insertF _ rfl (.tmp 1) (.const _) (.tmp 3) rfl w.heap.size 1 [(kTier, [1, 2])] rfl (HM1.out.alloc _) (by unfold maxLen; omega) kCat rfl (by decide) _ 2 [0, 2] rfl rfl (by have := HM1.out.lt; omega) (RowN2.at _ _ [0, 2] _ _ (by simp) rfl) ?_; intro w2 hm2 hs2; have HM2 := Lib.hid hm2; have HS2 : Hid (Stp [] w w2) := (HS1.out.alloc _).trans hs2 (fun k hk => by rw [List.mem_singleton] at hk; exact .inr (by omega)); clear hm2 hs2; go_frame)
    | (refine wpList_insertF _ rfl (.tmp 1) (.const _) (.tmp 4) rfl w.heap.size 2 [(kCat, [0, 2]), (kTier, [1, 2])] rfl (HM2.out.alloc _) (by unfold maxLen; omega) kCap rfl (by decide) _ 1 [1] rfl rfl (by have := HM2.out.lt; omega) (RowN2.at _ _ [1] _ _ (by simp) rfl) ?_; intro w3 hm3 hs3; have HM3 := Lib.hid hm3; have HS3 : Hid (Stp [] w w3) := (HS2.out.alloc _).trans hs3 (fun k hk => by rw [List.mem_singleton] at hk; exact .inr (by omega)); clear hm3 hs3; go_frame)
    | (refine wpList_insertF _ rfl (.tmp 1) (.const _) (.tmp 5) rfl w.heap.size 3 [(kCap, [1]), (kCat, [0, 2]), (kTier, [1, 2])] rfl (HM3.out.alloc _) (by unfold maxLen; omega) kMin rfl (by decide) _ 1 [1] rfl rfl (by have := HM3.out.lt; omega) (RowN2.at _ _ [1] _ _ (by simp) rfl) ?_; intro w4 hm4 hs4; have HM4 := Lib.hid hm4; have HS4 : Hid (Stp [] w w4) := (HS3.out.alloc _).trans hs4 (fun k hk => by rw [List.mem_singleton] at hk; exact .inr (by omega)); clear hm4 hs4; go_frame)
    | (refine wpList_insertF _ rfl (.tmp 1) (.const _) (.tmp 6) rfl w.heap.size 4 [(kMin, [1]), (kCap, [1]), (kCat, [0, 2]), (kTier, [1, 2])] rfl (HM4.out.alloc _) (by unfold maxLen; omega) kTax rfl (by decide) _ 1 [2] rfl rfl (by have := HM4.out.lt; omega) (RowN2.at _ _ [2] _ _ (by simp) rfl) ?_; intro w5 hm5 hs5; have HM5 := Lib.hid hm5; have HS5 : Hid (Stp [] w w5) := (HS4.out.alloc _).trans hs5 (fun k hk => by rw [List.mem_singleton] at hk; exact .inr (by omega)); clear hm5 hs5; go_frame)
    | (refine wpList_insertF _ rfl (.tmp 1) (.const _) (.tmp 7) rfl w.heap.size 5 [(kTax, [2]), (kMin, [1]), (kCap, [1]), (kCat, [0, 2]), (kTier, [1, 2])] rfl (HM5.out.alloc _) (by unfold maxLen; omega) kRes rfl (by decide) _ 2 [2, 1] rfl rfl (by have := HM5.out.lt; omega) (RowN2.at _ _ [2, 1] _ _ (by simp) rfl) ?_; intro w6 hm6 hs6; have HM6 := Lib.hid hm6; have HS6 : Hid (Stp [] w w6) := (HS5.out.alloc _).trans hs6 (fun k hk => by rw [List.mem_singleton] at hk; exact .inr (by omega)); clear hm6 hs6; go_frame)
    | fail)
  go_ret
  exact ⟨_, rfl, HM6.out, HS6.out.below (fun _ h => by cases h) (Nat.le_refl _)⟩
end Go.Proofs.YtjegfoeempojiaaDoor
