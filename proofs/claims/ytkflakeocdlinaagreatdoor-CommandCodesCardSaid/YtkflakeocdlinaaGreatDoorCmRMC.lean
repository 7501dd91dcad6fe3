/-
  The document's Bytes of a command.
-/
import Derived.Test.YtkflakeocdlinaaGreatDoorMC11
import Derived.Test.YtkflakeocdlinaaGreatDoorCmCMC
import Derived.Test.YtkflakeocdlinaaGreatDoorOctEMC
import Derived.Test.YtkflakeocdlinaaGreatDoorOctTMC
import Derived.Test.YtkflakeocdlinaaGreatDoorMC05
import Derived.Test.YtkflakeocdlinaaGreatDoorMC06
import Derived.Test.YtkflakeocdlinaaGreatDoorLawAMC
import Derived.BigRegion
import Derived.Deep.WholeRow
namespace Go.Proofs.YtkflakeocdlinaaGreatDoor
open Go.RowKit Go.Deep Go.Lib

section
variable {P : Program} {o : Oper} {a : Act} {w : World} {K : Act → World → Prop} {Q : Exit → Act → World → Prop}
/-- append of several elements, of whatever size, onto an own row -/
theorem wp_append_many (dst : Option Tmp) (hdst : o.dst = dst) (s x : Operand) (t e : TypeId) (ho : o.op = .call { callee := .builtin .append, args := #[s, x], argTypes := #[t, t] })
    (base : Nat) (z : Value) (size bytes : Nat) (ht : P.underlying t = some (.slice e)) (hinfo : (P.info? e).map (fun i => (i.zero, i.size, i.bytes)) = some (some z, size, bytes)) (hzs : z.cells.size = size) (hsz : 0 < size)
    (v : Value) (n : Nat) (xs : List Value) (hs : a.eval s = v) (A m c : Nat) (hx : a.eval x = .slice (some ⟨A, 0, none⟩) m c) (hown : w.ownsRow base e size v n xs) (cs : Array Value) (hA : Blk w A e cs) (hcs : cs.size = m * size) (h1 : ∀ u ∈ cs.toList, u.oneCell' = true)
    (h63 : n + m ≤ maxLen) (hbytes : ((n + m) + (n + m) / 4 + 192) * bytes ≤ 281474976710656) (hbase : base ≤ w.heap.size)
    (h : ∀ v' w', w'.ownsRow base e size v' (n + m) (xs ++ cs.toList) → w.grownBy w' v.ownBlock → K (a.put dst v') w') : o.wp P a w K Q := by
  subst hdst
  obtain ⟨i, hi, hzz⟩ := Option.map_eq_some_iff.1 hinfo
  simp only [Prod.mk.injEq] at hzz
  obtain ⟨hz, hs1, hb1⟩ := hzz
  have hl : cs.toList.length = m * size := by simp [hcs]
  have hnews : ∀ j u, cs.toList[j]? = some u → w.cell? ((⟨A, 0, none⟩ : Addr).add j) = some u := fun j u hj => by
    rw [Addr.add_mid, Nat.zero_add, hA.cell j, ← Array.getElem?_toList]
    exact hj
  obtain ⟨v', w', hr, h2, h3, _⟩ := run_append_own_wide (P := P) w base t o.type e i z size bytes ht hi hz hs1 hb1 hzs hsz v n xs hown ⟨A, 0, none⟩ m c cs.toList hl hnews h1 h63 hbytes hbase
  unfold Oper.wp execOp
  simp only [ho, resolve, invoke, builtin, Sem.run_bind, Sem.run_pure, Result.andThen_ok, List.map_toArray, List.map_cons, List.map_nil, hs, hx, hr]
  exact h v' w' h2 h3
end

/-- a command as items -/
def itH (c : Cm) : List Itm := [⟨true, 0, c.kind⟩, ⟨true, 0, c.id⟩, ⟨true, 0, c.about⟩, ⟨true, 0, c.cur⟩, ⟨true, 0, c.cat⟩, ⟨false, c.amt, []⟩, ⟨false, (c.sh.length : Int), []⟩]
def itSh (xs : List Sh) : List Itm := xs.flatMap fun s => [⟨true, 0, s.1⟩, ⟨false, s.2, []⟩]
theorem itSh_len : ∀ xs : List Sh, (itSh xs).length = 2 * xs.length
  | [] => rfl
  | x :: r => by
    have h := itSh_len r
    unfold itSh at h ⊢
    rw [List.flatMap_cons, List.length_append, h, List.length_cons]
    simp; omega
theorem itSh_next {xs : List Sh} {j : Nat} {p : List UInt8} {q : Int} (h : xs[j]? = some (p, q)) : itSh (xs.take (j + 1)) = itSh (xs.take j) ++ [⟨true, 0, p⟩, ⟨false, q, []⟩] := by
  obtain ⟨h1, h2⟩ := List.getElem?_eq_some_iff.1 h
  unfold itSh
  rw [List.take_succ_eq_append_getElem h1, h2, List.flatMap_append]
  simp
theorem encB_sh : ∀ xs : List Sh, encB (itSh xs) = shB xs
  | [] => rfl
  | x :: r => by
    have h := encB_sh r
    unfold itSh shB at h ⊢
    rw [List.flatMap_cons, List.flatMap_cons, encB_append, h]
    simp [encB, itB]
theorem encB_cm (c : Cm) : encB (itH c ++ itSh c.sh) = bytesC c := by
  rw [encB_append, encB_sh]
  unfold itH bytesC
  simp [encB, itB]
/-- texts of at most 2000 bytes, numbers of 64 bits -/
def smI (x : Itm) : Prop := x.s.length ≤ 2000 ∧ -9223372036854775808 ≤ x.n ∧ x.n ≤ 9223372036854775807
theorem smI_all {c : Cm} (hx : c.sh.length ≤ 8) (h1 : c.kind.length ≤ 2000 ∧ c.id.length ≤ 2000 ∧ c.about.length ≤ 2000 ∧ c.cur.length ≤ 2000 ∧ c.cat.length ≤ 2000) (h2 : -9223372036854775808 ≤ c.amt ∧ c.amt ≤ 9223372036854775807) (h3 : ∀ s ∈ c.sh, s.1.length ≤ 2000 ∧ -9223372036854775808 ≤ s.2 ∧ s.2 ≤ 9223372036854775807) : ∀ x ∈ itH c ++ itSh c.sh, smI x := by
  intro x hm
  rcases List.mem_append.1 hm with hm | hm
  · unfold itH at hm
    simp only [List.mem_cons, List.not_mem_nil, or_false] at hm
    rcases hm with rfl | rfl | rfl | rfl | rfl | rfl | rfl <;> unfold smI <;> simp <;> omega
  · unfold itSh at hm
    obtain ⟨s, hs, hx2⟩ := List.mem_flatMap.1 hm
    have := h3 s hs
    simp only [List.mem_cons, List.not_mem_nil, or_false] at hx2
    rcases hx2 with rfl | rfl <;> unfold smI <;> simp <;> omega
theorem bulk_sm : ∀ ls : List Itm, (∀ x ∈ ls, smI x) → bulk ls ≤ 2001 * ls.length
  | [], _ => by simp [bulk]
  | x :: r, h => by
    have h1 := (h x (by simp)).1
    have h2 := bulk_sm r fun y hy => h y (by simp [hy])
    simp only [bulk, List.length_cons]
    omega
theorem okB_sm {ls : List Itm} (h : ∀ x ∈ ls, smI x) : okB ls = true := by
  unfold okB
  rw [List.all_eq_true]
  intro x hx
  have := (h x hx).1
  unfold okI
  simp; omega

theorem cI_len (x : Itm) : (cI x).length = 3 := rfl
theorem RowT.of_rowG {w : World} {a : Option Addr} {ls : List Itm} (h : RowG 3 cI w a ls) : RowT w a ls := fun h0 => by
  obtain ⟨b, off, e, hc⟩ := h h0
  refine ⟨b, off, e, fun k x hx => ⟨?_, ?_, ?_⟩⟩
  · simpa using hc k x hx 0 _ rfl
  · exact hc k x hx 1 _ rfl
  · exact hc k x hx 2 _ rfl

/-- an item as the result, that lies in a cell -/
theorem item_ret1 {fn : Func} {s1 : Nat} (h : fn.results = #[.cell s1 74]) {tmps : Array Value} {W : World} (g : Nat) (hp : tmps.getD s1 undef = .pointer (some ⟨g, 0, none⟩)) {a0 a1 a2 : Value} (hg : Blk W g 74 #[a0, a1, a2]) :
    (results fn tmps).run Tryz.prog W = .ok (.agg #[a0, a1, a2]) W := by
  have hp' : tmps[s1]?.getD undef = .pointer (some ⟨g, 0, none⟩) := by simpa using hp
  have hi : (Tryz.prog.info? 74).map (·.size) = some 3 := by kernel_rfl
  rw [results_cell1 h]
  simp [hp', asAddr, Result.andThen, run_loadVar_row W g 74 74 _ _ _ hg Tryz.underlying74 rfl hi]
set_option maxHeartbeats 800000 in
theorem text18_any (S : ByteArray) (w : World) : Calls Tryz.prog 40 #[.string S] w fun e w' => e = .returned (.agg #[.bool true, .int .i64 0, .string S]) ∧ Below w.heap.size w w' := by
  have HB : ∀ o, Hid (Below w.heap.size w (w.alloc o)) := fun o => (Below.refl _ w).alloc (Nat.le_refl _) o
  go_enter Tryz.func40, Tryz.ntmps40
  go_wp2
  exact bodyPost_ret (item_ret1 rfl _ rfl (Blk.new w _ _)) rfl ⟨rfl, (HB _).out⟩

theorem six_one (p : List UInt8) (q : Int) : ∀ u ∈ (#[.bool true, .int .i64 0, .string (st p), .bool false, .int .i64 q, .string ⟨#[]⟩] : Array Value).toList, u.oneCell' = true := by
  intro u hu
  simp only [List.mem_cons, List.not_mem_nil, or_false] at hu
  rcases hu with rfl | rfl | rfl | rfl | rfl | rfl <;> rfl

/-- what the loop holds: items in a row of one's own, behind what was there -/
structure ByP (w0 W : World) (its : List Itm) (v : Value) : Prop where
  own : W.ownsRow w0.heap.size 74 3 v its.length (its.flatMap cI)
  bel : Below w0.heap.size w0 W
theorem ByP.keep {w0 W W' : World} {its : List Itm} {v : Value} (h : ByP w0 W its v) (hb : Below W.heap.size W W') : ByP w0 W' its v := ⟨own_keepG h.own hb, bel_onG h.bel h.bel.size hb⟩
theorem ByP.drew {w0 W : World} {its : List Itm} {v : Value} (h : ByP w0 W its v) : ByP w0 W.drew its v := h.keep (Below.refl _ W).drew
theorem ByP.more {w0 W W' : World} {its : List Itm} {v v' : Value} {ys : List Itm} {m : Nat} (h : ByP w0 W its v) (hm : m = ys.length) (hg : W.grownBy W' v.ownBlock) (ho : W'.ownsRow w0.heap.size 74 3 v' (its.length + m) (its.flatMap cI ++ ys.flatMap cI)) : ByP w0 W' (its ++ ys) v' :=
  ⟨by rw [List.length_append, List.flatMap_append, ← hm]; exact ho, h.bel.grown hg h.bel.size fun g e => (h.own.lt g e).1⟩

set_option maxHeartbeats 6400000 in
set_option maxRecDepth 100000 in
theorem rbytes_core (k i b u t : List UInt8) (m : Int) (a : Option Addr) (cp n : Nat) (xs : List Sh) (w : World) (hr : RowG 2 cSh w a xs) (hn : n = xs.length) (hx : n ≤ 8) (Z : List UInt8)
    (hI : ∀ x ∈ itH ⟨k, i, b, u, t, m, xs⟩ ++ itSh xs, smI x) (hZ : Z = bytesC ⟨k, i, b, u, t, m, xs⟩) :
    Calls Tryz.prog 14 #[.agg #[.string (st k), .string (st i), .string (st b), .string (st u), .string (st t), .int .i64 m, .slice a n cp]] w fun e w' => e = .returned (.string (st Z)) ∧ Below w.heap.size w w' := by
  obtain ⟨H, hH⟩ : ∃ H, H = itH ⟨k, i, b, u, t, m, xs⟩ := ⟨_, rfl⟩
  have HHL : Hid (H.length = 7) := by show _ = _; rw [hH]; rfl
  have HHC : Hid ((#[.bool true, .int .i64 0, .string (st k), .bool true, .int .i64 0, .string (st i), .bool true, .int .i64 0, .string (st b), .bool true, .int .i64 0, .string (st u), .bool true, .int .i64 0, .string (st t), .bool false, .int .i64 m, .string ⟨#[]⟩, .bool false, .int .i64 (n : Int), .string ⟨#[]⟩] : Array Value).toList = H.flatMap cI) := by show _ = _; rw [hH, hn]; rfl
  have HZ : Hid (putB (H ++ itSh xs) = Z ∧ okB (H ++ itSh xs) = true) := by
    have h1 := okB_sm hI
    rw [← hH] at h1
    refine ⟨?_, h1⟩
    unfold putB
    rw [if_pos h1, hZ, ← encB_cm, hH]
  have HBK : Hid (bulk (H ++ itSh xs) ≤ 200000) := by
    have h1 := bulk_sm _ hI
    rw [← hH, List.length_append, HHL.out, itSh_len] at h1
    show _ ≤ _
    omega
  have HWF : Hid (∀ x ∈ H ++ itSh xs, (Lit.int .i64 x.n).wf = true) := fun x hm => by
    rw [hH] at hm
    have h1 := hI x hm
    exact wf64 h1.2.1 h1.2.2
  have hb0 : Below w.heap.size w (w.alloc (.cells #[.string (st k), .string (st i), .string (st b), .string (st u), .string (st t), .int .i64 m, .slice a n cp] 24)) := (Below.refl _ w).alloc (Nat.le_refl _) _
  have HB0 := Lib.hid hb0
  have HR := Lib.hid (hr.keep hb0)
  have HBX : Hid (Blk (w.alloc (.cells #[.string (st k), .string (st i), .string (st b), .string (st u), .string (st t), .int .i64 m, .slice a n cp] 24)) w.heap.size 24 #[.string (st k), .string (st i), .string (st b), .string (st u), .string (st t), .int .i64 m, .slice a n cp]) := Blk.new w _ _
  have HN := Lib.hid hn
  have HE : Hid (w.heap.size = w.heap.size) := rfl
  have TX : ∀ (s : List UInt8) (W : World), Hid (Calls Tryz.prog 40 #[.string (st s)] W fun e w' => e = .returned (.agg #[.bool true, .int .i64 0, .string (st s)]) ∧ Below W.heap.size W w') := fun s W => text18_any (st s) W
  clear hI hZ hH hb0 hr hn HE
  go_enter Tryz.func14, Tryz.ntmps14
  go_upto_region 1 with fail
  obtain ⟨bx, hbx⟩ : ∃ bx, bx = w.heap.size := ⟨_, rfl⟩
  rw [← hbx] at HBX ⊢
  have HEX := Lib.hid hbx
  generalize w.alloc (.cells #[.string (st k), .string (st i), .string (st b), .string (st u), .string (st t), .int .i64 m, .slice a n cp] 24) = w0 at HBX HB0 HR ⊢
  clear hbx
  refine wp_region_E (fun w' => Blk w' bx 24 #[.string (st k), .string (st i), .string (st b), .string (st u), .string (st t), .int .i64 m, .slice a n cp]) [] (by kernel_rfl) ?_
  have HS0 : Hid (Blk w0.drew bx 24 #[.string (st k), .string (st i), .string (st b), .string (st u), .string (st t), .int .i64 m, .slice a n cp]) := HBX.out.since (Below.refl _ w0).drew
  have HBd : Hid (Below w0.heap.size w0 w0.drew) := (Below.refl _ w0).drew
  generalize w0.drew = W at HS0 HBd ⊢
  refine wpAnyE_take 0 (some 7) (.pointer (some ⟨bx, 0, none⟩)) rfl rfl (by kernel_rfl) (by kernel_rfl) (by kernel_rfl) (by kernel_rfl) (fun _ _ _ h => h) (Or.inl ⟨by rfl, fun w _ => by go_simp⟩) HS0.out ?_
  simp only [Act.put, List.setIfInBounds_toArray, List.set_cons_zero, List.set_cons_succ]
  refine wpAnyE_take 1 (some 8) (.string (st k)) rfl rfl (by kernel_rfl) (by kernel_rfl) (by kernel_rfl) (by kernel_rfl) (fun _ _ _ h => h) (yields_load rfl 9 _ rfl Tryz.underlying9 rfl _ rfl _ (fun w h => h.cell 0)) HS0.out ?_
  simp only [Act.put, List.setIfInBounds_toArray, List.set_cons_zero, List.set_cons_succ]
  refine wpAnyE_take 3 (some 10) (.pointer (some ⟨bx, 1, none⟩)) rfl rfl (by kernel_rfl) (by kernel_rfl) (by kernel_rfl) (by kernel_rfl) (fun _ _ _ h => h) (Or.inl ⟨by rfl, fun w _ => by go_simp⟩) HS0.out ?_
  simp only [Act.put, List.setIfInBounds_toArray, List.set_cons_zero, List.set_cons_succ]
  refine wpAnyE_take 4 (some 11) (.string (st i)) rfl rfl (by kernel_rfl) (by kernel_rfl) (by kernel_rfl) (by kernel_rfl) (fun _ _ _ h => h) (yields_load rfl 9 _ rfl Tryz.underlying9 rfl _ rfl _ (fun w h => h.cell 1)) HS0.out ?_
  simp only [Act.put, List.setIfInBounds_toArray, List.set_cons_zero, List.set_cons_succ]
  refine wpAnyE_take 6 (some 13) (.pointer (some ⟨bx, 2, none⟩)) rfl rfl (by kernel_rfl) (by kernel_rfl) (by kernel_rfl) (by kernel_rfl) (fun _ _ _ h => h) (Or.inl ⟨by rfl, fun w _ => by go_simp⟩) HS0.out ?_
  simp only [Act.put, List.setIfInBounds_toArray, List.set_cons_zero, List.set_cons_succ]
  refine wpAnyE_take 7 (some 14) (.string (st b)) rfl rfl (by kernel_rfl) (by kernel_rfl) (by kernel_rfl) (by kernel_rfl) (fun _ _ _ h => h) (yields_load rfl 9 _ rfl Tryz.underlying9 rfl _ rfl _ (fun w h => h.cell 2)) HS0.out ?_
  simp only [Act.put, List.setIfInBounds_toArray, List.set_cons_zero, List.set_cons_succ]
  refine wpAnyE_take 9 (some 16) (.pointer (some ⟨bx, 3, none⟩)) rfl rfl (by kernel_rfl) (by kernel_rfl) (by kernel_rfl) (by kernel_rfl) (fun _ _ _ h => h) (Or.inl ⟨by rfl, fun w _ => by go_simp⟩) HS0.out ?_
  simp only [Act.put, List.setIfInBounds_toArray, List.set_cons_zero, List.set_cons_succ]
  refine wpAnyE_take 10 (some 17) (.string (st u)) rfl rfl (by kernel_rfl) (by kernel_rfl) (by kernel_rfl) (by kernel_rfl) (fun _ _ _ h => h) (yields_load rfl 9 _ rfl Tryz.underlying9 rfl _ rfl _ (fun w h => h.cell 3)) HS0.out ?_
  simp only [Act.put, List.setIfInBounds_toArray, List.set_cons_zero, List.set_cons_succ]
  refine wpAnyE_take 12 (some 19) (.pointer (some ⟨bx, 4, none⟩)) rfl rfl (by kernel_rfl) (by kernel_rfl) (by kernel_rfl) (by kernel_rfl) (fun _ _ _ h => h) (Or.inl ⟨by rfl, fun w _ => by go_simp⟩) HS0.out ?_
  simp only [Act.put, List.setIfInBounds_toArray, List.set_cons_zero, List.set_cons_succ]
  refine wpAnyE_take 13 (some 20) (.string (st t)) rfl rfl (by kernel_rfl) (by kernel_rfl) (by kernel_rfl) (by kernel_rfl) (fun _ _ _ h => h) (yields_load rfl 9 _ rfl Tryz.underlying9 rfl _ rfl _ (fun w h => h.cell 4)) HS0.out ?_
  simp only [Act.put, List.setIfInBounds_toArray, List.set_cons_zero, List.set_cons_succ]
  refine wpAnyE_take 15 (some 22) (.pointer (some ⟨bx, 5, none⟩)) rfl rfl (by kernel_rfl) (by kernel_rfl) (by kernel_rfl) (by kernel_rfl) (fun _ _ _ h => h) (Or.inl ⟨by rfl, fun w _ => by go_simp⟩) HS0.out ?_
  simp only [Act.put, List.setIfInBounds_toArray, List.set_cons_zero, List.set_cons_succ]
  refine wpAnyE_take 16 (some 23) (.int .i64 m) rfl rfl (by kernel_rfl) (by kernel_rfl) (by kernel_rfl) (by kernel_rfl) (fun _ _ _ h => h) (yields_load rfl 2 _ rfl Tryz.underlying2 rfl _ rfl _ (fun w h => h.cell 5)) HS0.out ?_
  simp only [Act.put, List.setIfInBounds_toArray, List.set_cons_zero, List.set_cons_succ]
  refine wpAnyE_take 17 (some 24) (.agg #[.bool false, .int .i64 m, .string ⟨#[]⟩]) rfl rfl (by kernel_rfl) (by kernel_rfl) (by kernel_rfl) (by kernel_rfl) (fun _ _ _ h => h) (Or.inl ⟨by rfl, fun w _ => by go_simp⟩) HS0.out ?_
  simp only [Act.put, List.setIfInBounds_toArray, List.set_cons_zero, List.set_cons_succ]
  refine wpAnyE_take 18 (some 25) (.pointer (some ⟨bx, 6, none⟩)) rfl rfl (by kernel_rfl) (by kernel_rfl) (by kernel_rfl) (by kernel_rfl) (fun _ _ _ h => h) (Or.inl ⟨by rfl, fun w _ => by go_simp⟩) HS0.out ?_
  simp only [Act.put, List.setIfInBounds_toArray, List.set_cons_zero, List.set_cons_succ]
  refine wpAnyE_take 19 (some 26) (.slice a n cp) rfl rfl (by kernel_rfl) (by kernel_rfl) (by kernel_rfl) (by kernel_rfl) (fun _ _ _ h => h) (yields_load rfl 22 _ rfl Tryz.underlying22 rfl _ rfl _ (fun w h => h.cell 6)) HS0.out ?_
  simp only [Act.put, List.setIfInBounds_toArray, List.set_cons_zero, List.set_cons_succ]
  refine wpAnyE_take 20 (some 27) (.int .i64 (n : Int)) rfl rfl (by kernel_rfl) (by kernel_rfl) (by kernel_rfl) (by kernel_rfl) (fun _ _ _ h => h) (Or.inl ⟨by rfl, fun w _ => by go_simp⟩) HS0.out ?_
  simp only [Act.put, List.setIfInBounds_toArray, List.set_cons_zero, List.set_cons_succ]
  refine wpAnyE_take 21 (some 28) (.agg #[.bool false, .int .i64 (n : Int), .string ⟨#[]⟩]) rfl rfl (by kernel_rfl) (by kernel_rfl) (by kernel_rfl) (by kernel_rfl) (fun _ _ _ h => h) (Or.inl ⟨by rfl, fun w _ => by go_simp⟩) HS0.out ?_
  simp only [Act.put, List.setIfInBounds_toArray, List.set_cons_zero, List.set_cons_succ]
  refine wpAnyE_oneG 2 (by kernel_rfl) rfl (by rfl) (fun K hK => ?_)
  go_simp
  refine (TX k _).out.mono ?_
  rintro e W1 ⟨rfl, hb1⟩
  have HS1 := Lib.hid (HS0.out.since hb1)
  have HW1 := Lib.hid (bel_onG HBd.out HBd.out.size hb1)
  clear hb1
  try go_wp2_with fail
  refine hK.out _ _ HS1.out ?_
  clear hK K
  try simp only [Act.put, List.setIfInBounds_toArray, List.set_cons_zero, List.set_cons_succ]
  refine wpAnyE_oneG 5 (by kernel_rfl) rfl (by rfl) (fun K hK => ?_)
  go_simp
  refine (TX i _).out.mono ?_
  rintro e W2 ⟨rfl, hb2⟩
  have HS2 := Lib.hid (HS1.out.since hb2)
  have HW2 := Lib.hid (bel_onG HW1.out HW1.out.size hb2)
  clear hb2
  try go_wp2_with fail
  refine hK.out _ _ HS2.out ?_
  clear hK K
  try simp only [Act.put, List.setIfInBounds_toArray, List.set_cons_zero, List.set_cons_succ]
  refine wpAnyE_oneG 8 (by kernel_rfl) rfl (by rfl) (fun K hK => ?_)
  go_simp
  refine (TX b _).out.mono ?_
  rintro e W3 ⟨rfl, hb3⟩
  have HS3 := Lib.hid (HS2.out.since hb3)
  have HW3 := Lib.hid (bel_onG HW2.out HW2.out.size hb3)
  clear hb3
  try go_wp2_with fail
  refine hK.out _ _ HS3.out ?_
  clear hK K
  try simp only [Act.put, List.setIfInBounds_toArray, List.set_cons_zero, List.set_cons_succ]
  refine wpAnyE_oneG 11 (by kernel_rfl) rfl (by rfl) (fun K hK => ?_)
  go_simp
  refine (TX u _).out.mono ?_
  rintro e W4 ⟨rfl, hb4⟩
  have HS4 := Lib.hid (HS3.out.since hb4)
  have HW4 := Lib.hid (bel_onG HW3.out HW3.out.size hb4)
  clear hb4
  try go_wp2_with fail
  refine hK.out _ _ HS4.out ?_
  clear hK K
  try simp only [Act.put, List.setIfInBounds_toArray, List.set_cons_zero, List.set_cons_succ]
  refine wpAnyE_oneG 14 (by kernel_rfl) rfl (by rfl) (fun K hK => ?_)
  go_simp
  refine (TX t _).out.mono ?_
  rintro e W5 ⟨rfl, hb5⟩
  have HS5 := Lib.hid (HS4.out.since hb5)
  have HW5 := Lib.hid (bel_onG HW4.out HW4.out.size hb5)
  clear hb5
  try go_wp2_with fail
  refine hK.out _ _ HS5.out ?_
  clear hK K
  try simp only [Act.put, List.setIfInBounds_toArray, List.set_cons_zero, List.set_cons_succ]
  refine wpAnyE_oneG 22 (by kernel_rfl) rfl (by rfl) (fun K hK => ?_)
  go_simp
  try go_wp2_with fail
  have HWB : Hid (Below w0.heap.size w0 (W5.alloc (.cells #[.bool true, .int .i64 0, .string (st k), .bool true, .int .i64 0, .string (st i), .bool true, .int .i64 0, .string (st b), .bool true, .int .i64 0, .string (st u), .bool true, .int .i64 0, .string (st t), .bool false, .int .i64 m, .string ⟨#[]⟩, .bool false, .int .i64 (n : Int), .string ⟨#[]⟩] 74))) := HW5.out.alloc HW5.out.size _
  have HS6 : Hid (Blk (W5.alloc (.cells #[.bool true, .int .i64 0, .string (st k), .bool true, .int .i64 0, .string (st i), .bool true, .int .i64 0, .string (st b), .bool true, .int .i64 0, .string (st u), .bool true, .int .i64 0, .string (st t), .bool false, .int .i64 m, .string ⟨#[]⟩, .bool false, .int .i64 (n : Int), .string ⟨#[]⟩] 74)) bx 24 #[.string (st k), .string (st i), .string (st b), .string (st u), .string (st t), .int .i64 m, .slice a n cp]) := HS5.out.alloc _
  have HOW : Hid (ByP w0 (W5.alloc (.cells #[.bool true, .int .i64 0, .string (st k), .bool true, .int .i64 0, .string (st i), .bool true, .int .i64 0, .string (st b), .bool true, .int .i64 0, .string (st u), .bool true, .int .i64 0, .string (st t), .bool false, .int .i64 m, .string ⟨#[]⟩, .bool false, .int .i64 (n : Int), .string ⟨#[]⟩] 74)) H (.slice (some ⟨W5.heap.size, 0, none⟩) 7 7)) := by
    refine ⟨?_, HWB.out⟩
    rw [← HHC.out, HHL.out]
    exact World.ownsRow_lit W5 #[.bool true, .int .i64 0, .string (st k), .bool true, .int .i64 0, .string (st i), .bool true, .int .i64 0, .string (st b), .bool true, .int .i64 0, .string (st u), .bool true, .int .i64 0, .string (st t), .bool false, .int .i64 m, .string ⟨#[]⟩, .bool false, .int .i64 (n : Int), .string ⟨#[]⟩] 7 HW5.out.size (by unfold maxLen; omega) rfl
  refine hK.out _ _ HS6.out ?_
  clear hK K HWB
  try simp only [Act.put, List.setIfInBounds_toArray, List.set_cons_zero, List.set_cons_succ]
  refine wpAnyE_oneG 23 (by kernel_rfl) rfl (by rfl) (fun K hK => ?_)
  go_simp
  try go_wp2_with fail
  refine hK.out _ _ HS6.out ?_
  clear hK K
  try simp only [Act.put, List.setIfInBounds_toArray, List.set_cons_zero, List.set_cons_succ]
  refine wpAnyE_done (by kernel_rfl) ?_ _
  generalize (Value.slice (some ⟨W5.heap.size, 0, none⟩) 7 7) = v0 at HOW ⊢
  generalize W5.alloc (.cells #[.bool true, .int .i64 0, .string (st k), .bool true, .int .i64 0, .string (st i), .bool true, .int .i64 0, .string (st b), .bool true, .int .i64 0, .string (st u), .bool true, .int .i64 0, .string (st t), .bool false, .int .i64 m, .string ⟨#[]⟩, .bool false, .int .i64 (n : Int), .string ⟨#[]⟩] 74) = w6 at HOW ⊢
  clear HS0 HS1 HS2 HS3 HS4 HS5 HS6 HW1 HW2 HW3 HW4 HW5 HBd HHC
  have HAL : Hid (v0 = v0) := rfl
  go_wp2
  go_loopg [3, 4] n (fun gk vl ix wr => ∃ (j : Nat), j ≤ n ∧ ix = .int .i64 j ∧ n - j ≤ gk ∧ Hid (ByP w0 wr (H ++ itSh (xs.take j)) vl))
  case atStart => exact ⟨0, Nat.zero_le _, rfl, by omega, (show ByP w0 w6 (H ++ itSh (xs.take 0)) v0 by rw [List.take_zero]; show ByP w0 w6 (H ++ []) v0; rw [List.append_nil]; exact HOW.out)⟩
  case round =>
    clear HOW HAL
    obtain ⟨j, hj, rfl, hgk, HL⟩ := hrel
    have d6 : wr.cell? ⟨bx, 6, none⟩ = some (.slice a n cp) := (HBX.out.below HL.out.bel HBX.out.lt).cell 6
    by_cases hlt : j < n
    · obtain ⟨x, hx1⟩ : ∃ x, xs[j]? = some x := ⟨_, List.getElem?_eq_getElem (by rw [← HN.out]; exact hlt)⟩
      obtain ⟨p, q⟩ := x
      obtain ⟨b1, off, rfl⟩ := HR.out.form (by rw [← HN.out]; omega)
      have HRD : Hid (∀ W, Below w0.heap.size w0 W → W.cell? ⟨bx, 6, none⟩ = some (.slice (some ⟨b1, off, none⟩) n cp) ∧ W.cell? ⟨b1, off + j * 2, none⟩ = some (.string (st p)) ∧ W.cell? ⟨b1, off + j * 2 + 1, none⟩ = some (.int .i64 q)) := fun W hb => by
        have hat := (HR.out.keep hb).at hx1
        exact ⟨(HBX.out.below hb HBX.out.lt).cell 6, by simpa using hat 0 _ rfl, hat 1 _ rfl⟩
      have HNX := Lib.hid (itSh_next hx1)
      have hkz : (0 : Int) ≤ (j : Int) := by omega
      have hkn : (j : Int) < (n : Int) := by omega
      obtain ⟨I, hI⟩ : ∃ I, I = H ++ itSh (xs.take j) := ⟨_, rfl⟩
      have hIL : I.length = 7 + 2 * j := by rw [hI, List.length_append, HHL.out, itSh_len, List.length_take, ← HN.out]; omega
      have HIL : Hid (I.length ≤ 30) := by show _ ≤ _; omega
      have HI2 : Hid (I ++ [⟨true, 0, p⟩, ⟨false, q, []⟩] = H ++ itSh (xs.take (j + 1))) := by show _ = _; rw [HNX.out, hI, List.append_assoc]
      rw [← hI] at HL
      clear hI hIL HNX hx1
      go_upto_region 5 with fail
      refine wp_region_E (fun W => W.cell? ⟨bx, 6, none⟩ = some (.slice (some ⟨b1, off, none⟩) n cp) ∧ W.cell? ⟨b1, off + j * 2, none⟩ = some (.string (st p)) ∧ W.cell? ⟨b1, off + j * 2 + 1, none⟩ = some (.int .i64 q)) [] (by kernel_rfl) ?_
      have HLd := Lib.hid HL.out.drew
      generalize wr.drew = W at HLd ⊢
      have HS0 := Lib.hid (HRD.out W HLd.out.bel)
      clear HL d6
      refine wpAnyE_take 0 (some 37) (u3) rfl rfl (by kernel_rfl) (by kernel_rfl) (by kernel_rfl) (by kernel_rfl) (fun _ _ _ h => h) (yields_move rfl _ rfl _ rfl) HS0.out ?_
      simp only [Act.put, List.setIfInBounds_toArray, List.set_cons_zero, List.set_cons_succ]
      refine wpAnyE_take 1 (some 38) (.pointer (some ⟨bx, 6, none⟩)) rfl rfl (by kernel_rfl) (by kernel_rfl) (by kernel_rfl) (by kernel_rfl) (fun _ _ _ h => h) (Or.inl ⟨by rfl, fun w _ => by go_simp⟩) HS0.out ?_
      simp only [Act.put, List.setIfInBounds_toArray, List.set_cons_zero, List.set_cons_succ]
      refine wpAnyE_take 2 (some 39) (.slice (some ⟨b1, off, none⟩) n cp) rfl rfl (by kernel_rfl) (by kernel_rfl) (by kernel_rfl) (by kernel_rfl) (fun _ _ _ h => h) (yields_load rfl 22 _ rfl Tryz.underlying22 rfl _ rfl _ (fun w h => h.1)) HS0.out ?_
      simp only [Act.put, List.setIfInBounds_toArray, List.set_cons_zero, List.set_cons_succ]
      refine wpAnyE_take 3 (some 40) (.int .i64 (j : Int)) rfl rfl (by kernel_rfl) (by kernel_rfl) (by kernel_rfl) (by kernel_rfl) (fun _ _ _ h => h) (yields_move rfl _ rfl _ rfl) HS0.out ?_
      simp only [Act.put, List.setIfInBounds_toArray, List.set_cons_zero, List.set_cons_succ]
      refine wpAnyE_take 4 (some 41) (.pointer (some ⟨b1, off + j * 2, none⟩)) rfl rfl (by kernel_rfl) (by kernel_rfl) (by kernel_rfl) (by kernel_rfl) (fun _ _ _ h => h) (Or.inl ⟨by rfl, fun w _ => by go_simp⟩) HS0.out ?_
      simp only [Act.put, List.setIfInBounds_toArray, List.set_cons_zero, List.set_cons_succ]
      refine wpAnyE_take 5 (some 42) (.pointer (some ⟨b1, off + j * 2, none⟩)) rfl rfl (by kernel_rfl) (by kernel_rfl) (by kernel_rfl) (by kernel_rfl) (fun _ _ _ h => h) (Or.inl ⟨by rfl, fun w _ => by go_simp⟩) HS0.out ?_
      simp only [Act.put, List.setIfInBounds_toArray, List.set_cons_zero, List.set_cons_succ]
      refine wpAnyE_take 6 (some 43) (.string (st p)) rfl rfl (by kernel_rfl) (by kernel_rfl) (by kernel_rfl) (by kernel_rfl) (fun _ _ _ h => h) (yields_load rfl 9 _ rfl Tryz.underlying9 rfl _ rfl _ (fun w h => h.2.1)) HS0.out ?_
      simp only [Act.put, List.setIfInBounds_toArray, List.set_cons_zero, List.set_cons_succ]
      refine wpAnyE_take 8 (some 45) (.pointer (some ⟨bx, 6, none⟩)) rfl rfl (by kernel_rfl) (by kernel_rfl) (by kernel_rfl) (by kernel_rfl) (fun _ _ _ h => h) (Or.inl ⟨by rfl, fun w _ => by go_simp⟩) HS0.out ?_
      simp only [Act.put, List.setIfInBounds_toArray, List.set_cons_zero, List.set_cons_succ]
      refine wpAnyE_take 9 (some 46) (.slice (some ⟨b1, off, none⟩) n cp) rfl rfl (by kernel_rfl) (by kernel_rfl) (by kernel_rfl) (by kernel_rfl) (fun _ _ _ h => h) (yields_load rfl 22 _ rfl Tryz.underlying22 rfl _ rfl _ (fun w h => h.1)) HS0.out ?_
      simp only [Act.put, List.setIfInBounds_toArray, List.set_cons_zero, List.set_cons_succ]
      refine wpAnyE_take 10 (some 47) (.int .i64 (j : Int)) rfl rfl (by kernel_rfl) (by kernel_rfl) (by kernel_rfl) (by kernel_rfl) (fun _ _ _ h => h) (yields_move rfl _ rfl _ rfl) HS0.out ?_
      simp only [Act.put, List.setIfInBounds_toArray, List.set_cons_zero, List.set_cons_succ]
      refine wpAnyE_take 11 (some 48) (.pointer (some ⟨b1, off + j * 2, none⟩)) rfl rfl (by kernel_rfl) (by kernel_rfl) (by kernel_rfl) (by kernel_rfl) (fun _ _ _ h => h) (Or.inl ⟨by rfl, fun w _ => by go_simp⟩) HS0.out ?_
      simp only [Act.put, List.setIfInBounds_toArray, List.set_cons_zero, List.set_cons_succ]
      refine wpAnyE_take 12 (some 49) (.pointer (some ⟨b1, off + j * 2 + 1, none⟩)) rfl rfl (by kernel_rfl) (by kernel_rfl) (by kernel_rfl) (by kernel_rfl) (fun _ _ _ h => h) (Or.inl ⟨by rfl, fun w _ => by go_simp⟩) HS0.out ?_
      simp only [Act.put, List.setIfInBounds_toArray, List.set_cons_zero, List.set_cons_succ]
      refine wpAnyE_take 13 (some 50) (.int .i64 q) rfl rfl (by kernel_rfl) (by kernel_rfl) (by kernel_rfl) (by kernel_rfl) (fun _ _ _ h => h) (yields_load rfl 2 _ rfl Tryz.underlying2 rfl _ rfl _ (fun w h => h.2.2)) HS0.out ?_
      simp only [Act.put, List.setIfInBounds_toArray, List.set_cons_zero, List.set_cons_succ]
      refine wpAnyE_take 14 (some 51) (.agg #[.bool false, .int .i64 q, .string ⟨#[]⟩]) rfl rfl (by kernel_rfl) (by kernel_rfl) (by kernel_rfl) (by kernel_rfl) (fun _ _ _ h => h) (Or.inl ⟨by rfl, fun w _ => by go_simp⟩) HS0.out ?_
      simp only [Act.put, List.setIfInBounds_toArray, List.set_cons_zero, List.set_cons_succ]
      refine wpAnyE_oneG 7 (by kernel_rfl) rfl (by rfl) (fun K hK => ?_)
      go_simp
      refine (TX p _).out.mono ?_
      rintro e W1 ⟨rfl, hb1⟩
      have HL1 := Lib.hid (HLd.out.keep hb1)
      have HS1 := Lib.hid (HRD.out W1 HL1.out.bel)
      clear hb1
      try go_wp2_with fail
      refine hK.out _ _ HS1.out ?_
      clear hK K
      try simp only [Act.put, List.setIfInBounds_toArray, List.set_cons_zero, List.set_cons_succ]
      refine wpAnyE_oneG 15 (by kernel_rfl) rfl (by rfl) (fun K hK => ?_)
      go_simp
      try go_wp2_with fail
      have HB2 : Hid (Below W1.heap.size W1 (W1.alloc (.cells #[.bool true, .int .i64 0, .string (st p), .bool false, .int .i64 q, .string ⟨#[]⟩] 74))) := (Below.refl _ W1).alloc (Nat.le_refl _) _
      have HBN : Hid (Blk (W1.alloc (.cells #[.bool true, .int .i64 0, .string (st p), .bool false, .int .i64 q, .string ⟨#[]⟩] 74)) W1.heap.size 74 #[.bool true, .int .i64 0, .string (st p), .bool false, .int .i64 q, .string ⟨#[]⟩]) := Blk.new W1 _ _
      have HL2 := Lib.hid (HL1.out.keep HB2.out)
      have HS2 := Lib.hid (HRD.out _ HL2.out.bel)
      refine hK.out _ _ HS2.out ?_
      clear hK K
      try simp only [Act.put, List.setIfInBounds_toArray, List.set_cons_zero, List.set_cons_succ]
      generalize W1.alloc (.cells #[.bool true, .int .i64 0, .string (st p), .bool false, .int .i64 q, .string ⟨#[]⟩] 74) = W2 at HB2 HBN HL2 HS2 ⊢
      refine wpAnyE_one (i := 16) (by kernel_rfl) rfl rfl ?_
      refine wp_append_many (some 53) rfl (.tmp 37) (.tmp 52) 76 74 rfl w0.heap.size _ 3 32 Tryz.underlying76 infoItem rfl (by omega) u3 I.length _ rfl W1.heap.size 2 _ rfl HL2.out.own _ HBN.out rfl (six_one p q) (by have := HIL.out; unfold maxLen; omega) (by have := HIL.out; omega) HL2.out.bel.size ?_
      intro v' W3 hown3 hgr3
      simp only [Act.put, List.setIfInBounds_toArray, List.set_cons_zero, List.set_cons_succ]
      have HL3 : Hid (ByP w0 W3 (I ++ [⟨true, 0, p⟩, ⟨false, q, []⟩]) v') := HL2.out.more (m := 2) rfl hgr3 hown3
      clear hown3 hgr3
      have HS3 := Lib.hid (HRD.out _ HL3.out.bel)
      refine ⟨HS3.out, ?_⟩
      refine wpAnyE_oneG 17 (by kernel_rfl) rfl (by rfl) (fun K hK => ?_)
      go_simp
      try go_wp2_with fail
      refine hK.out _ _ HS3.out ?_
      clear hK K
      try simp only [Act.put, List.setIfInBounds_toArray, List.set_cons_zero, List.set_cons_succ]
      refine wpAnyE_done (by kernel_rfl) ?_ _
      rw [HI2.out] at HL3
      clear HS0 HS1 HS2 HS3 HLd HL1 HL2 HB2 HBN HRD HI2 HIL
      go_wp2
      go_roundg (n - (j + 1))
      case measure => omega
      case rel => exact ⟨j + 1, by omega, by go_num, by omega, HL3.out⟩
    · have hkn : ¬ ((j : Int) < (n : Int)) := by omega
      have HT : Hid (xs.take j = xs) := List.take_of_length_le (by rw [← HN.out]; omega)
      rw [HT.out] at HL
      obtain ⟨av, cv, hv, hrow, _, _⟩ := RowG.own cI_len HL.out.own rfl
      subst hv
      have HPU : Hid (∀ W, Below wr.heap.size wr W → Calls Tryz.prog 41 #[.slice av (H ++ itSh xs).length cv] W fun e w' => e = .returned (.tuple #[.string (st Z), .bool true]) ∧ Below W.heap.size W w') := fun W hW => by
        have h := rPut_any av cv (H ++ itSh xs) W (RowT.of_rowG (hrow.keep hW)) (by rw [List.length_append, HHL.out, itSh_len, ← HN.out]; omega) HBK.out HWF.out
        rw [HZ.out.1, HZ.out.2] at h
        exact h
      have HBw : Hid (Below w.heap.size w wr) := HB0.out.trans (bel_lessG HL.out.bel HB0.out.size)
      generalize (H ++ itSh xs).length = nl at HPU ⊢
      clear hrow HL HT
      go_wp2_with fail
      refine (HPU.out _ (by exact Below.refl _ wr)).mono ?_
      rintro e w4 ⟨rfl, hb⟩
      have HB4 := Lib.hid (bel_onG HBw.out HBw.out.size hb)
      clear hb
      go_wp2
      go_ret
      exact ⟨rfl, HB4.out⟩
end Go.Proofs.YtkflakeocdlinaaGreatDoor
