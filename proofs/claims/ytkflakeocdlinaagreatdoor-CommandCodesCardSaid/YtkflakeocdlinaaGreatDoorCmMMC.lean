/-
  The map of fields: contract of command.forms; what is found in it.
-/
import Derived.Test.YtkflakeocdlinaaGreatDoorMC01
import Derived.Test.YtkflakeocdlinaaGreatDoorMC03
import Derived.Maps.OwnSet
import Derived.Maps.RangeWalk
import Derived.Lib.Hide
namespace Go.Proofs.YtkflakeocdlinaaGreatDoor
open Go.RowKit Go.Maps

/-- a value, as a datum: itself -/
def HeldC (v : Value) : Option (DataW Value × List MemPlace) := some (.held v, [])

theorem keyC : Keyed Tryz.prog 9 := string_keyed Tryz.underlying9
theorem keyC_of {l : List UInt8} (h : l.length ≤ maxLen) : keyOf Tryz.prog 9 (.string (st l)) = some (.string l) := by
  have := Go.WideMaps.keyOf_string_mk (P := Tryz.prog) Tryz.underlying9 (s := st l) (by rw [st_size]; exact h)
  rw [this, st_toList]
theorem zeroFields (w : World) : (zeroValue 40).run Tryz.prog w = .ok (.slice none 0 0) w := by kernel_rfl

/-- kinds of fields, in a row -/
def RowF (w : World) (g : Nat) (f : List Nat) : Prop := ∃ cs, Blk w g 44 cs ∧ cs.toList = f.map fun x : Nat => Value.int .i64 (x : Int)
theorem RowF.get {w : World} {g : Nat} {f : List Nat} (h : RowF w g f) {i x : Nat} (hx : f[i]? = some x) : w.cell? ⟨g, i, none⟩ = some (.int .i64 (x : Int)) := by
  obtain ⟨cs, h1, h2⟩ := h
  rw [h1.cell i, ← Array.getElem?_toList, h2, List.getElem?_map, hx]; rfl
theorem RowF.lt {w : World} {g : Nat} {f : List Nat} (h : RowF w g f) : g < w.heap.size := by
  obtain ⟨cs, h1, h2⟩ := h
  exact h1.lt
theorem RowF.stp {w w' : World} {g : Nat} {f : List Nat} {fp : List Nat} (h : RowF w g f) (hs : Stp fp w w') (hn : g ∉ fp) : RowF w' g f := by
  obtain ⟨cs, h1, h2⟩ := h
  exact ⟨cs, h1.stp hs hn, h2⟩
theorem RowF.keep {w w' : World} {g : Nat} {f : List Nat} (h : RowF w g f) (hb : Below w.heap.size w w') : RowF w' g f := h.stp (Stp.of_below (fp := []) hb) (by simp)
theorem RowF.new (w : World) (f : List Nat) (cs : Array Value) (h : cs.toList = f.map fun x : Nat => Value.int .i64 (x : Int)) : RowF (w.alloc (.cells cs 44)) w.heap.size f := ⟨cs, Blk.new w 44 cs, h⟩
theorem RowF.at (w : World) (f : List Nat) (cs : Array Value) (g : Nat) (hg : g = w.heap.size) (h : cs.toList = f.map fun x : Nat => Value.int .i64 (x : Int)) : RowF (w.alloc (.cells cs 44)) g f := by
  subst hg; exact RowF.new w f cs h
/-- a row of others' is another block -/
theorem RowF.ne {w : World} {g base e size n : Nat} {f : List Nat} {v : Value} {xs : List Value} (h : RowF w g f) (ho : w.ownsRow base e size v n xs) (he : e ≠ 44) : v.ownBlock ≠ some g := by
  intro hv
  obtain ⟨cs, h1, h2⟩ := h
  rcases ho.2 with ⟨rfl, _⟩ | ⟨k, cap, cur, rfl, _, hg, _⟩
  · simp [Value.ownBlock] at hv
  · simp [Value.ownBlock] at hv
    subst hv
    exact absurd rfl (Blk.ne (show Blk w k e cur from hg) h1 he)
theorem RowF.grown {w w' : World} {g : Nat} {f : List Nat} {row : Option Nat} (h : RowF w g f) (hg : w.grownBy w' row) (hn : row ≠ some g) : RowF w' g f := by
  obtain ⟨cs, h1, h2⟩ := h
  exact ⟨cs, h1.kept hg (fun e => hn e.symm), h2⟩

/-- what is found of a key -/
def EntC (D : DataW Value) (w : World) (m : Nat) (k : List UInt8) (o : Option (List Nat)) : Prop :=
  match o with
  | none => Maps.has D (.string k) = false
  | some f => Maps.has D (.string k) = true ∧ ∃ g, g ≠ m ∧ D.atKey (.string k) (.held (.slice none 0 0)) = .held (.slice (some ⟨g, 0, none⟩) f.length f.length) ∧ RowF w g f

/-- block m is a map; these are its entries, each with its row: the last one stored ahead -/
def CMs (w : World) (m n : Nat) (es : List (List UInt8 × List Nat)) : Prop :=
  ∃ D : DataW Value, w.ownsMap Tryz.prog 9 HeldC m n D ∧ ∀ k, EntC D w m k (es.lookup k)

theorem CMs.made (w : World) : CMs (w.alloc (.map #[] 0)) w.heap.size 0 [] :=
  ⟨.map [], World.ownsMap_made w _ _ _, fun _ => rfl⟩
theorem CMs.lt {w : World} {m n : Nat} {es : List (List UInt8 × List Nat)} (h : CMs w m n es) : m < w.heap.size := by obtain ⟨D, h, _⟩ := h; exact h.lt
theorem CMs.keep {w w' : World} {m n : Nat} {es : List (List UInt8 × List Nat)} (h : CMs w m n es) (hb : Below w.heap.size w w') : CMs w' m n es := by
  obtain ⟨D, ⟨es', clock, h1, h2⟩, hk⟩ := h
  have hlt : m < w.heap.size := (Array.getElem?_eq_some_iff.1 h1).1
  refine ⟨D, ⟨es', clock, (hb.block m hlt).trans h1, h2⟩, fun k => ?_⟩
  have := hk k
  generalize es.lookup k = o at this ⊢
  cases o with
  | none => exact this
  | some f =>
    obtain ⟨a1, g, a2, a3, a4⟩ := this
    exact ⟨a1, g, a2, a3, a4.keep hb⟩
theorem CMs.alloc {w : World} {m n : Nat} {es : List (List UInt8 × List Nat)} (h : CMs w m n es) (o : Obj) : CMs (w.alloc o) m n es := h.keep ((Below.refl _ w).alloc (Nat.le_refl _) o)

theorem CMs.store {w : World} {m n : Nat} {es : List (List UInt8 × List Nat)} (h : CMs w m n es) (hn : n < maxLen) {k : List UInt8} (hk : k.length ≤ maxLen) {f : List Nat} {g : Nat} (hg : g ≠ m) (hr : RowF w g f) :
    ∃ w', (Instr.mapUpdate 42 (.map (some m)) (.string (st k)) (.slice (some ⟨g, 0, none⟩) f.length f.length)).run Tryz.prog w = .ok () w' ∧ CMs w' m (n + 1) ((k, f) :: es) ∧ Stp [m] w w' := by
  obtain ⟨D, h, hs⟩ := h
  obtain ⟨w', hrun, hown, ht⟩ := h.store keyC Tryz.underlying42 hn (keyC_of hk) (d := .held (.slice (some ⟨g, 0, none⟩) f.length f.length)) (ps := []) rfl
  have hstp : Stp [m] w w' := Stp.of_grown ht.grown (by simp)
  refine ⟨w', hrun, ⟨_, hown, fun c => ?_⟩, hstp⟩
  rw [List.lookup_cons]
  by_cases e : c = k
  · subst e
    simp only [beq_self_eq_true]
    refine ⟨has_put_same h.isMap (keyC.key (keyC_of hk)) _, g, hg, atKey_put_same h.isMap (keyC.key (keyC_of hk)) _ _, hr.stp hstp (by simpa using hg)⟩
  · have e1 : (c == k) = false := by rw [beq_eq_false_iff_ne]; exact e
    have e2 : Lit.string c ≠ Lit.string k := fun he => e (by injection he)
    rw [e1]
    have := hs c
    simp only
    generalize es.lookup c = o at this ⊢
    cases o with
    | none => exact (has_put_other e2 _).trans this
    | some f2 =>
      obtain ⟨a1, g2, a2, a3, a4⟩ := this
      exact ⟨(has_put_other e2 _).trans a1, g2, a2, (atKey_put_other e2 _ _).trans a3, a4.stp hstp (by simpa using a2)⟩

/-- an entry of a map's own text -/
theorem wpList_insertC {ops : Array Oper} {rest : List Oper} {o : Oper} {a : Act} {Q : Exit → Act → World → Prop} (w : World) (hg : o.guard = none) (mo x v : Operand) (hop : o.op = Op.insert 42 mo x v) (m n : Nat) (es : List (List UInt8 × List Nat)) (hm : a.eval mo = .map (some m)) (h : CMs w m n es) (hn : n < maxLen)
    (k : List UInt8) (hx : a.eval x = .string (st k)) (hk : k.length ≤ maxLen) (g c : Nat) (f : List Nat) (hv : a.eval v = .slice (some ⟨g, 0, none⟩) c c) (hc : c = f.length) (hgm : g ≠ m) (hr : RowF w g f)
    (hK : ∀ w', CMs w' m (n + 1) ((k, f) :: es) → Stp [m] w w' → wpList Tryz.prog ops Q rest (a.put o.dst undef) w') : wpList Tryz.prog ops Q (o :: rest) a w := by
  subst hc
  refine wpList_plain hg fun K' hK' => ?_
  obtain ⟨w', hrun, r1, r2⟩ := h.store hn hk hgm hr
  unfold Oper.wp
  simp [execOp, hop, hm, hx, hv, hrun, Result.andThen]
  exact hK' _ _ (hK w' r1 r2)

/-- the forms, as they are stored -/
def formsC : List (List UInt8 × List Nat) := [(kReply, [2, 5, 7]), (kTick, []), (kFree, [0, 1]), (kHold, [0, 1]), (kReverse, [0, 1]), (kCharge, [0, 1, 6]), (kRefund, [0, 1, 6]), (kSale, [0, 3, 4, 6, 8])]
theorem formsC_look (k : List UInt8) : formsC.lookup k = formC k := by
  rcases formC_nine k with ⟨e, h2⟩ | ⟨e, h2⟩ | ⟨e, h2⟩ | ⟨e, h2⟩ | ⟨e, h2⟩ | ⟨e, h2⟩ | ⟨e, h2⟩ | ⟨e, h2⟩ | ⟨h2, n1, n2, n3, n4, n5, n6, n7, n8⟩
  iterate 8 (rw [h2]; subst e; rfl)
  rw [h2]
  unfold formsC
  simp only [List.lookup_cons, beq_eq_false_iff_ne.2 n1, beq_eq_false_iff_ne.2 n2, beq_eq_false_iff_ne.2 n3, beq_eq_false_iff_ne.2 n4, beq_eq_false_iff_ne.2 n5, beq_eq_false_iff_ne.2 n6, beq_eq_false_iff_ne.2 n7, beq_eq_false_iff_ne.2 n8, List.lookup_nil]

/-- block m is the map of forms -/
def CM (w : World) (m : Nat) : Prop := CMs w m 8 formsC

theorem CM.keep {w w' : World} {m : Nat} (h : CM w m) (hb : Below w.heap.size w w') : CM w' m := CMs.keep h hb

theorem CM.look {w : World} {m : Nat} (h : CM w m) {k : List UInt8} (hk : k.length ≤ maxLen) :
    (formC k = none ∧ (Instr.lookup 42 (.map (some m)) (.string (st k)) true).run Tryz.prog w = .ok (.tuple #[.slice none 0 0, .bool false]) w) ∨
    ∃ f g, formC k = some f ∧ (Instr.lookup 42 (.map (some m)) (.string (st k)) true).run Tryz.prog w = .ok (.tuple #[.slice (some ⟨g, 0, none⟩) f.length f.length, .bool true]) w ∧ RowF w g f := by
  obtain ⟨D, h, hs⟩ := h
  obtain ⟨v, ps, hrun, hv⟩ := h.look_ok keyC Tryz.underlying42 (zeroFields w) (zd := .held (.slice none 0 0)) (zp := []) rfl (keyC_of hk)
  have := hs k
  rw [formsC_look] at this
  unfold HeldC at hv
  simp only [Option.some.injEq, Prod.mk.injEq] at hv
  obtain ⟨hv, _⟩ := hv
  generalize hl : formC k = o at this ⊢
  cases o with
  | none =>
    refine .inl ⟨rfl, ?_⟩
    rw [this] at hrun
    rw [atKey_of_not_has this] at hv
    rw [DataW.held.injEq] at hv
    rw [hv] at hrun
    exact hrun
  | some f =>
    obtain ⟨a1, g, a2, a3, a4⟩ := this
    refine .inr ⟨f, g, rfl, ?_, a4⟩
    rw [a1] at hrun
    rw [a3] at hv
    rw [DataW.held.injEq] at hv
    rw [hv] at hrun
    exact hrun

/-- without the second answer -/
theorem CM.look1 {w : World} {m : Nat} (h : CM w m) {k : List UInt8} (hk : k.length ≤ maxLen) :
    (formC k = none ∧ (Instr.lookup 42 (.map (some m)) (.string (st k)) false).run Tryz.prog w = .ok (.slice none 0 0) w) ∨
    ∃ f g, formC k = some f ∧ (Instr.lookup 42 (.map (some m)) (.string (st k)) false).run Tryz.prog w = .ok (.slice (some ⟨g, 0, none⟩) f.length f.length) w ∧ RowF w g f := by
  obtain ⟨D, h, hs⟩ := h
  obtain ⟨v, ps, hrun, hv⟩ := h.lookup keyC Tryz.underlying42 (zeroFields w) (zd := .held (.slice none 0 0)) (zp := []) rfl (keyC_of hk)
  have := hs k
  rw [formsC_look] at this
  unfold HeldC at hv
  simp only [Option.some.injEq, Prod.mk.injEq] at hv
  obtain ⟨hv, _⟩ := hv
  generalize hl : formC k = o at this ⊢
  cases o with
  | none =>
    refine .inl ⟨rfl, ?_⟩
    rw [atKey_of_not_has this] at hv
    rw [DataW.held.injEq] at hv
    rw [hv] at hrun
    exact hrun
  | some f =>
    obtain ⟨a1, g, a2, a3, a4⟩ := this
    refine .inr ⟨f, g, rfl, ?_, a4⟩
    rw [a3] at hv
    rw [DataW.held.injEq] at hv
    rw [hv] at hrun
    exact hrun

set_option maxHeartbeats 1000000 in
set_option maxRecDepth 100000 in
theorem cforms_any (w : World) : Calls Tryz.prog 18 #[] w fun e w' => ∃ m, e = .returned (.map (some m)) ∧ CM w' m ∧ Below w.heap.size w w' := by
  have hmm := @run_makeMap Tryz.prog
  go_enter Tryz.func18, Tryz.ntmps18
  go_wp2_with (first
    | (refine wpList_insertC _ rfl (.tmp 1) (.const _) (.tmp 2) rfl w.heap.size 0 [] rfl ((CMs.made w).alloc _) (by unfold maxLen; omega) kSale rfl (by decide) _ 5 [0, 3, 4, 6, 8] rfl rfl (by simp) (RowF.at _ [0, 3, 4, 6, 8] _ _ (by simp) rfl) ?_; intro w1 hm1 hs1; have HM1 := Lib.hid hm1; have HS1 : Hid (Stp [] w w1) := (((Stp.refl [] w).alloc _).alloc _).trans hs1 (fun k hk => by rw [List.mem_singleton] at hk; exact .inr (by omega)); clear hm1 hs1; go_frame)
    | (refine wpList_insertC _ rfl (.tmp 1) (.const _) (.tmp 3) rfl w.heap.size 1 [(kSale, [0, 3, 4, 6, 8])] rfl (HM1.out.alloc _) (by unfold maxLen; omega) kRefund rfl (by decide) _ 3 [0, 1, 6] rfl rfl (by have := HM1.out.lt; omega) (RowF.at _ [0, 1, 6] _ _ (by simp) rfl) ?_; intro w2 hm2 hs2; have HM2 := Lib.hid hm2; have HS2 : Hid (Stp [] w w2) := (HS1.out.alloc _).trans hs2 (fun k hk => by rw [List.mem_singleton] at hk; exact .inr (by omega)); clear hm2 hs2; go_frame)
    | (refine wpList_insertC _ rfl (.tmp 1) (.const _) (.tmp 4) rfl w.heap.size 2 [(kRefund, [0, 1, 6]), (kSale, [0, 3, 4, 6, 8])] rfl (HM2.out.alloc _) (by unfold maxLen; omega) kCharge rfl (by decide) _ 3 [0, 1, 6] rfl rfl (by have := HM2.out.lt; omega) (RowF.at _ [0, 1, 6] _ _ (by simp) rfl) ?_; intro w3 hm3 hs3; have HM3 := Lib.hid hm3; have HS3 : Hid (Stp [] w w3) := (HS2.out.alloc _).trans hs3 (fun k hk => by rw [List.mem_singleton] at hk; exact .inr (by omega)); clear hm3 hs3; go_frame)
    | (refine wpList_insertC _ rfl (.tmp 1) (.const _) (.tmp 5) rfl w.heap.size 3 [(kCharge, [0, 1, 6]), (kRefund, [0, 1, 6]), (kSale, [0, 3, 4, 6, 8])] rfl (HM3.out.alloc _) (by unfold maxLen; omega) kReverse rfl (by decide) _ 2 [0, 1] rfl rfl (by have := HM3.out.lt; omega) (RowF.at _ [0, 1] _ _ (by simp) rfl) ?_; intro w4 hm4 hs4; have HM4 := Lib.hid hm4; have HS4 : Hid (Stp [] w w4) := (HS3.out.alloc _).trans hs4 (fun k hk => by rw [List.mem_singleton] at hk; exact .inr (by omega)); clear hm4 hs4; go_frame)
    | (refine wpList_insertC _ rfl (.tmp 1) (.const _) (.tmp 6) rfl w.heap.size 4 [(kReverse, [0, 1]), (kCharge, [0, 1, 6]), (kRefund, [0, 1, 6]), (kSale, [0, 3, 4, 6, 8])] rfl (HM4.out.alloc _) (by unfold maxLen; omega) kHold rfl (by decide) _ 2 [0, 1] rfl rfl (by have := HM4.out.lt; omega) (RowF.at _ [0, 1] _ _ (by simp) rfl) ?_; intro w5 hm5 hs5; have HM5 := Lib.hid hm5; have HS5 : Hid (Stp [] w w5) := (HS4.out.alloc _).trans hs5 (fun k hk => by rw [List.mem_singleton] at hk; exact .inr (by omega)); clear hm5 hs5; go_frame)
    | (refine wpList_insertC _ rfl (.tmp 1) (.const _) (.tmp 7) rfl w.heap.size 5 [(kHold, [0, 1]), (kReverse, [0, 1]), (kCharge, [0, 1, 6]), (kRefund, [0, 1, 6]), (kSale, [0, 3, 4, 6, 8])] rfl (HM5.out.alloc _) (by unfold maxLen; omega) kFree rfl (by decide) _ 2 [0, 1] rfl rfl (by have := HM5.out.lt; omega) (RowF.at _ [0, 1] _ _ (by simp) rfl) ?_; intro w6 hm6 hs6; have HM6 := Lib.hid hm6; have HS6 : Hid (Stp [] w w6) := (HS5.out.alloc _).trans hs6 (fun k hk => by rw [List.mem_singleton] at hk; exact .inr (by omega)); clear hm6 hs6; go_frame)
    | (refine wpList_insertC _ rfl (.tmp 1) (.const _) (.tmp 8) rfl w.heap.size 6 [(kFree, [0, 1]), (kHold, [0, 1]), (kReverse, [0, 1]), (kCharge, [0, 1, 6]), (kRefund, [0, 1, 6]), (kSale, [0, 3, 4, 6, 8])] rfl (HM6.out.alloc _) (by unfold maxLen; omega) kTick rfl (by decide) _ 0 [] rfl rfl (by have := HM6.out.lt; omega) (RowF.at _ [] _ _ (by simp) rfl) ?_; intro w7 hm7 hs7; have HM7 := Lib.hid hm7; have HS7 : Hid (Stp [] w w7) := (HS6.out.alloc _).trans hs7 (fun k hk => by rw [List.mem_singleton] at hk; exact .inr (by omega)); clear hm7 hs7; go_frame)
    | (refine wpList_insertC _ rfl (.tmp 1) (.const _) (.tmp 9) rfl w.heap.size 7 [(kTick, []), (kFree, [0, 1]), (kHold, [0, 1]), (kReverse, [0, 1]), (kCharge, [0, 1, 6]), (kRefund, [0, 1, 6]), (kSale, [0, 3, 4, 6, 8])] rfl (HM7.out.alloc _) (by unfold maxLen; omega) kReply rfl (by decide) _ 3 [2, 5, 7] rfl rfl (by have := HM7.out.lt; omega) (RowF.at _ [2, 5, 7] _ _ (by simp) rfl) ?_; intro w8 hm8 hs8; have HM8 := Lib.hid hm8; have HS8 : Hid (Stp [] w w8) := (HS7.out.alloc _).trans hs8 (fun k hk => by rw [List.mem_singleton] at hk; exact .inr (by omega)); clear hm8 hs8; go_frame)
    | fail)
  go_ret
  exact ⟨_, rfl, HM8.out, HS8.out.below (fun _ h => by cases h) (Nat.le_refl _)⟩

/-- the map of fields, where a kind is none -/
theorem cforms_none {k : List UInt8} (h : formC k = none) (hk : k.length ≤ maxLen) (ok : Bool) (w : World) : Calls Tryz.prog 18 #[] w fun e w' => ∃ m, e = .returned (.map (some m)) ∧
    (Instr.lookup 42 (.map (some m)) (.string (st k)) ok).run Tryz.prog w' = .ok (if ok then .tuple #[.slice none 0 0, .bool false] else .slice none 0 0) w' ∧ Below w.heap.size w w' := by
  refine (cforms_any w).mono ?_
  rintro e w1 ⟨m, rfl, hm, hb⟩
  refine ⟨m, rfl, ?_, hb⟩
  cases ok with
  | true =>
    rcases hm.look hk with ⟨_, hrun⟩ | ⟨f, g, e, _⟩
    · exact hrun
    · rw [h] at e; cases e
  | false =>
    rcases hm.look1 hk with ⟨_, hrun⟩ | ⟨f, g, e, _⟩
    · exact hrun
    · rw [h] at e; cases e
/-- where it is one -/
theorem cforms_some {k : List UInt8} {f : List Nat} (h : formC k = some f) (hk : k.length ≤ maxLen) (ok : Bool) (w : World) : Calls Tryz.prog 18 #[] w fun e w' => ∃ m g, e = .returned (.map (some m)) ∧
    (Instr.lookup 42 (.map (some m)) (.string (st k)) ok).run Tryz.prog w' = .ok (if ok then .tuple #[.slice (some ⟨g, 0, none⟩) f.length f.length, .bool true] else .slice (some ⟨g, 0, none⟩) f.length f.length) w' ∧ RowF w' g f ∧ Below w.heap.size w w' := by
  refine (cforms_any w).mono ?_
  rintro e w1 ⟨m, rfl, hm, hb⟩
  cases ok with
  | true =>
    rcases hm.look hk with ⟨e, _⟩ | ⟨f', g, e, hrun, hr⟩
    · rw [h] at e; cases e
    · rw [h] at e; injection e with e; subst e; exact ⟨m, g, rfl, hrun, hr, hb⟩
  | false =>
    rcases hm.look1 hk with ⟨e, _⟩ | ⟨f', g, e, hrun, hr⟩
    · rw [h] at e; cases e
    · rw [h] at e; injection e with e; subst e; exact ⟨m, g, rfl, hrun, hr, hb⟩
end Go.Proofs.YtkflakeocdlinaaGreatDoor
