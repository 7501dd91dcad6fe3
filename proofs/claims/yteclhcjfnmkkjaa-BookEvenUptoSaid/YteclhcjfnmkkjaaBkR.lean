/-
  Contract of Book.All.
-/
import Derived.Test.YteclhcjfnmkkjaaBkP
import Derived.Test.YteclhcjfnmkkjaaBkQ
import Derived.Test.YteclhcjfnmkkjaaOwnS
import Derived.Test.YteclhcjfnmkkjaaMapB
import Derived.Laws.IdiomRangeMap
namespace Go.Proofs.Yteclhcjfnmkkjaa
open Go.RowKit Go.Lib

theorem infoLine : (Try.prog.info? 42).map (fun i => (i.zero, i.size, i.bytes)) = some (some (.agg #[.string ⟨#[]⟩, .string ⟨#[]⟩, .string ⟨#[]⟩, .int .i64 0]), 4, 56) := by kernel_rfl

section
variable {P : Program} (w : World) {ops : Array Oper} {rest : List Oper} {o : Oper} {a : Act} {Q : Exit → Act → World → Prop}
theorem wpList_len_run (hg : o.guard = none) (m : Operand) (t : TypeId) (hop : o.op = Op.call { callee := Callee.builtin Builtin.len, args := #[m], argTypes := #[t] }) (v : Value) (s : Nat) (hm : a.eval m = v) (hrun : (Builtin.len_ #[t] o.type #[v]).run P w = .ok (.int .i64 s) w)
    (hK : wpList P ops Q rest (a.put o.dst (.int .i64 s)) w) : wpList P ops Q (o :: rest) a w := by
  refine wpList_plain hg fun K' hK' => ?_
  unfold Oper.wp
  simp [execOp, hop, resolve, invoke, builtin, hm, hrun, Result.andThen]
  exact hK' _ _ hK
end

theorem PMap.len {w : World} {mb : Option Nat} {n : Nat} {f : Ac → Option Int} (h : PMap w mb n f) : ∃ s : Nat, s ≤ n ∧ ∀ ty, (Builtin.len_ #[49] ty #[.map mb]).run Try.prog w = .ok (.int .i64 s) w := by
  rcases h with ⟨e, h⟩ | ⟨bm, e, D, h, r⟩
  · rw [e]; exact ⟨0, Nat.zero_le _, fun ty => Maps.len_nil Try.underlying49 ty⟩
  · rw [e]; exact ⟨Maps.size D, h.size_le, fun ty => h.len Try.underlying49 ty⟩

theorem own_ne_rng {w : World} {B : Nat} {e : TypeId} {size : Nat} {v : Value} {k : Nat} {xs : List Value} {b r n : Nat} {f : Ac → Option Int} {left : Ac → Bool} {cnt : Nat} (h : w.ownsRow B e size v k xs) (hr : RA w b r n f left cnt) : v.ownBlock ≠ some r := by
  obtain ⟨D, lf, ⟨es, clock, since, seen, c0, q1, q2, q3, q4, q5, q6⟩, _⟩ := hr
  rcases h.2 with ⟨rfl, _⟩ | ⟨g, cap, cur, rfl, _, hg, _⟩
  · intro e; cases e
  · intro e
    have : g = r := by simpa [Value.ownBlock] using e
    rw [this, q5] at hg
    cases hg

theorem stp_own {w w' : World} {g ln cap : Nat} (h : w.grownBy w' (Value.slice (some ⟨g, 0, none⟩) ln cap).ownBlock) : Stp [g] w w' := Stp.of_grown (b := g) h (by simp)

theorem take_flatL {ss : List Ln} {x : Ln} : (ss ++ [x]).flatMap cL = ss.flatMap cL ++ cL x := by simp

set_option maxHeartbeats 4000000 in
set_option maxRecDepth 100000 in
theorem all_some (bb bm n : Nat) (f : Ac → Option Int) (m : List Ln) (w : World) (hb : Blk w bb 51 #[.map (some bm)]) (hm : MA w bm n f) (hn : n ≤ 4194304) (hf : Fn m f) (hs : Srt m) (hz : Nz m) :
    Calls Try.prog 13 #[.pointer (some ⟨bb, 0, none⟩)] w fun e w' => ∃ g cap, e = .returned (.slice (some ⟨g, 0, none⟩) m.length cap) ∧ RowL w' (some ⟨g, 0, none⟩) m ∧ Below w.heap.size w w' := by
  obtain ⟨s, hsn, hlen⟩ := PMap.len (.inr ⟨bm, rfl, hm⟩ : PMap w (some bm) n f)
  obtain ⟨i0, hi, hzz⟩ := Option.map_eq_some_iff.1 infoLine
  simp only [Prod.mk.injEq] at hzz
  obtain ⟨hz0, hz1, hz2⟩ := hzz
  have HLen := Lib.hid hlen
  have HM := Lib.hid hm
  have HBK := Lib.hid hb
  have HFn := Lib.hid hf
  have HS := Lib.hid hs
  have HZ := Lib.hid hz
  have hcell : w.cell? ⟨bb, 0, none⟩ = some (.map (some bm)) := hb.cell 0
  have HI := Lib.hid (And.intro hi (And.intro hz0 (And.intro hz1 hz2)))
  clear hb hm hf hs hz hlen hi hz0 hz1 hz2
  go_enter Try.func13, Try.ntmps13
  go_wp2_with (first
    | (at_len; refine wpList_len_run _ rfl (.tmp 11) 49 rfl (.map (some bm)) s rfl (HLen.out _) ?_)
    | (at_make; refine wpList_make_own _ rfl _ _ 29 rfl w.heap.size 42 i0 _ 4 Try.underlying29 HI.out.1 HI.out.2.1 HI.out.2.2.1 .i64 .i64 s s rfl rfl rfl (by rw [HI.out.2.2.2]; omega) (by unfold maxLen; omega) (Nat.le_refl _) ?_; intro w1 hown hgr; have HO1 := Lib.hid hown; have HB1 : Hid (Below w.heap.size w w1) := (Below.refl _ w).grown hgr (Nat.le_refl _) (fun k e => by cases e); clear hown hgr; have hcell1 : w1.cell? ⟨bb, 0, none⟩ = some (.map (some bm)) := (HBK.out.since HB1.out).cell 0)
    | (at_range; refine wpList_rangeF _ KA rfl (.tmp 17) rfl bm n f rfl (HM.out.since HB1.out) ?_; intro w2 cnt hrg hcn hb2; have HRG := Lib.hid hrg; have HB2 := Lib.hid hb2; clear hrg hb2; go_frame)
    | fail)
  have HB12 : Hid (Below w.heap.size w w2) := below_on HB1.out HB1.out.size HB2.out
  have HO2 : Hid (w2.ownsRow w.heap.size 42 4 (.slice (some ⟨w.heap.size, 0, none⟩) 0 s) 0 []) := own_stp HO1.out (Stp.of_below (fp := []) HB2.out) (fun _ _ h => by cases h)
  have HR0 : Hid (w.heap.size ≤ w1.heap.size) := HB1.out.size
  have HBM : Hid (bm < w.heap.size) := HM.out.lt
  clear HO1 HB1 HB2 hcell1 hcell HLen
  generalize w1.heap.size = r0 at HRG HR0 ⊢
  go_loopg [3, 4, 5] cnt (fun gk v _ _ wr => ∃ (left : Ac → Bool) (cn : Nat) (ss : List Ln) (g cap : Nat), cn ≤ gk ∧ ss.length + cn ≤ cnt ∧ v = .slice (some ⟨g, 0, none⟩) ss.length cap ∧ Hid (RA wr bm r0 n f left cn) ∧ Hid (wr.ownsRow w.heap.size 42 4 (.slice (some ⟨g, 0, none⟩) ss.length cap) ss.length (ss.flatMap cL)) ∧ Hid (Coll f left ss) ∧ Hid (Below w.heap.size w wr))
  case atStart => exact ⟨_, cnt, [], w.heap.size, s, Nat.le_refl _, by simp, rfl, HRG.out, HO2.out, Coll.start f, HB12.out⟩
  case round =>
    clear HRG HO2 HB12
    obtain ⟨left, cn, ss, g, cap, hcg, hsc, rfl, HRG2, HOW, HCO, HB3⟩ := hrel
    obtain ⟨ln, hln⟩ : ∃ ln, ln = ss.length := ⟨_, rfl⟩
    have HLN := Lib.hid hln
    rw [← hln] at hsc HOW ⊢
    clear hln
    go_wp2_with (first | (at_next; refine wpList_nextB _ KA rfl (.tmp 18) rfl bm r0 n f left cn rfl HRG2.out ?_ ?_) | fail)
    · intro hl0
      have hgl : g < wr.heap.size := (HOW.out.lt g rfl).2
      have hgb : w.heap.size ≤ g := (HOW.out.lt g rfl).1
      have hH := holds_own HOW.out HLN.out
      have hsort := sort_lines g 0 cap ss.toArray wr hH hgl (by rw [List.size_toArray, ← HLN.out]; omega)
      have esz : ss.toArray.size = ln := by rw [List.size_toArray, HLN.out]
      have H1 : Hid (Calls Try.prog 28 #[.slice (some ⟨g, 0, none⟩) ln cap, .func (.func 29) #[] #[]] wr fun e w' => e = .returned (.tuple #[]) ∧ RowL w' (some ⟨g, 0, none⟩) m ∧ m.length = ln ∧ Below w.heap.size w w') := by
        have h2 := hsort.mono fun e w' ⟨he, d', k, os, hp, ho, hw⟩ => (show e = Ending.returned (.tuple #[]) ∧ RowL w' (some ⟨g, 0, none⟩) m ∧ m.length = ln ∧ Below w.heap.size w w' from by
          obtain ⟨e1, e2⟩ := sorted_is HS.out HZ.out HFn.out HCO.out hl0.out hp ho
          refine ⟨he, ?_, ?_, ?_⟩
          · rw [hw, ← e1]; exact sortWorld_row hH (by rw [e2, List.size_toArray]) hgl
          · rw [← e1, HLN.out, ← e2]; simp
          · rw [hw]; exact HB3.out.trans (sortWorld_below hgb HB3.out.size))
        rw [esz] at h2
        exact h2
      clear hl0 hH hsort esz hgl hgb
      go_wp2_with fail
      with_reducible refine H1.out.mono ?_
      rintro e w5 ⟨rfl, hrow, hml, hb5⟩
      have HX := Lib.hid (And.intro hrow (And.intro hml hb5))
      clear hrow hml hb5 H1
      go_wp2
      go_ret
      exact ⟨g, cap, by rw [HX.out.2.1]; rfl, HX.out.1, HX.out.2.2⟩
    · intro xb v w3 cn2 came hlt3 hen
      obtain ⟨x⟩ := xb
      have HCO3 : Hid (Coll f (fun d => left d && !decide (d = x)) (ss ++ [(x, v)])) := HCO.out.step came.val came.was
      have HRG3 : Hid (RA w3 bm r0 n f (fun d => left d && !decide (d = x)) cn2) := came.rng
      have HB4 : Hid (Below w.heap.size w w3) := HB3.out.trans (came.stp.below (by intro q hq; rw [List.mem_singleton] at hq; rw [hq]; exact HR0.out) HB3.out.size)
      have HGN : Hid (g ≠ r0) := by
        have := own_ne_rng HOW.out HRG2.out
        intro e
        exact this (by rw [← e]; rfl)
      have HO3 : Hid (w3.ownsRow w.heap.size 42 4 (.slice (some ⟨g, 0, none⟩) ln cap) ln (ss.flatMap cL)) := own_stp HOW.out came.stp (fun k hk => by
        have : k = g := by simpa [Value.ownBlock] using hk.symm
        rw [this, List.mem_singleton]; exact HGN.out)
      have HGB : Hid (w.heap.size ≤ g) := (HOW.out.lt g rfl).1
      clear came HRG2 HOW HCO HB3
      obtain ⟨k, p, c⟩ := x
      unfold kv at hen
      go_wp2_with (first | (at_builtin; refine wpList_append_structG rfl (.tmp 24) (.tmp 28) 29 rfl w.heap.size 42 _ 4 56 Try.underlying29 infoLine rfl (by decide) _ _ rfl (by simp [Value.oneCell']) (.slice (some ⟨g, 0, none⟩) ln cap) ln _ rfl (new_at _ _) (HO3.out.alloc _) (by have := HB4.out.size; simp; omega) (by unfold maxLen; omega) (by omega) ?_; intro v' w' h1 h2; have H1 := Lib.hid h1; have H2 := Lib.hid h2; clear h1 h2) | fail)
      go_roundg cn2
      case measure => omega
      case rel =>
        obtain ⟨g2, cap2, hv2, hg2, _⟩ := H1.out.form (by omega)
        refine ⟨_, cn2, ss ++ [((k, p, c), v)], g2, cap2, Nat.le_refl _, by rw [List.length_append, ← HLN.out]; simp; omega, by rw [hv2, List.length_append, ← HLN.out]; rfl, ?_, ?_, HCO3.out, ?_⟩
        · exact ((HRG3.out.alloc _).alloc _).stp (stp_own H2.out) (by have := HGB.out; have := HBM.out; simp; omega) (by simpa using fun e => HGN.out e.symm)
        · have h3 := H1.out
          rw [hv2] at h3
          rw [List.length_append, ← HLN.out, take_flatL]
          exact h3
        · exact ((HB4.out.alloc HB4.out.size _).alloc (by have := HB4.out.size; simp; omega) _).trans ((stp_own H2.out).below (by intro q hq; rw [List.mem_singleton] at hq; rw [hq]; exact HGB.out) (by have := HB4.out.size; simp; omega))

theorem Fn.none_nil {m : List Ln} {f : Ac → Option Int} (hf : Fn m f) (hs : Srt m) (hz : Nz m) (h : ∀ a, f a = none) : m = [] := by
  cases m with
  | nil => rfl
  | cons x r =>
    have := (hf.mem hs hz x.1 x.2).2 List.mem_cons_self
    rw [h] at this; cases this

set_option maxHeartbeats 4000000 in
set_option maxRecDepth 100000 in
theorem all_none (bb : Nat) (w : World) (hb : Blk w bb 51 #[.map none]) :
    Calls Try.prog 13 #[.pointer (some ⟨bb, 0, none⟩)] w fun e w' => ∃ g cap, e = .returned (.slice (some ⟨g, 0, none⟩) 0 cap) ∧ Below w.heap.size w w' := by
  obtain ⟨i0, hi, hzz⟩ := Option.map_eq_some_iff.1 infoLine
  simp only [Prod.mk.injEq] at hzz
  obtain ⟨hz0, hz1, hz2⟩ := hzz
  have HLen : Hid (∀ ty, (Builtin.len_ #[49] ty #[.map none]).run Try.prog w = .ok (.int .i64 ((0 : Nat) : Int)) w) := fun ty => Maps.len_nil Try.underlying49 ty
  have HBK := Lib.hid hb
  have hcell : w.cell? ⟨bb, 0, none⟩ = some (.map none) := hb.cell 0
  have HI := Lib.hid (And.intro hi (And.intro hz0 (And.intro hz1 hz2)))
  have hrg : ∀ W, (Instr.range 49 (.map none)).run Try.prog W = .ok (.pointer (some ⟨W.heap.size, 0, none⟩)) (W.alloc (.mapIter none 0 #[] 0)) := fun W => run_range_nilMap W 49 _ _ Try.underlying49
  have hnx : ∀ (W : World) (ty : TypeId), (Instr.next (.pointer (some ⟨W.heap.size, 0, none⟩)) false ty).run Try.prog (W.alloc (.mapIter none 0 #[] 0)) = .ok (.tuple #[.bool false]) (W.alloc (.mapIter none 0 #[] 0)) := fun W ty => run_next_nilMap W ty 0 0 #[]
  clear hb hi hz0 hz1 hz2
  go_enter Try.func13, Try.ntmps13
  go_wp2_with (first
    | (at_len; refine wpList_len_run _ rfl (.tmp 11) 49 rfl (.map none) 0 rfl (HLen.out _) ?_)
    | (at_make; refine wpList_make_own _ rfl _ _ 29 rfl w.heap.size 42 i0 _ 4 Try.underlying29 HI.out.1 HI.out.2.1 HI.out.2.2.1 .i64 .i64 0 0 rfl rfl rfl (by omega) (by unfold maxLen; omega) (Nat.le_refl _) ?_; intro w1 hown hgr; have HO1 := Lib.hid hown; have HB1 : Hid (Below w.heap.size w w1) := (Below.refl _ w).grown hgr (Nat.le_refl _) (fun k e => by cases e); clear hown hgr; have hcell1 : w1.cell? ⟨bb, 0, none⟩ = some (.map none) := (HBK.out.since HB1.out).cell 0)
    | fail)
  refine wp_loop_rounds 1 ?_
  rw [rounds_succ]
  go_wp2_with fail
  have HB2 : Hid (Below w.heap.size w (w1.alloc (.mapIter none 0 #[] 0))) := HB1.out.alloc HB1.out.size _
  have HO2 : Hid ((w1.alloc (.mapIter none 0 #[] 0)).ownsRow w.heap.size 42 4 (.slice (some ⟨w.heap.size, 0, none⟩) 0 0) 0 (([] : List Ln).flatMap cL)) := HO1.out.alloc _
  have hgl : w.heap.size < (w1.alloc (.mapIter none 0 #[] 0)).heap.size := (HO2.out.lt _ rfl).2
  have H1 : Hid (Calls Try.prog 28 #[.slice (some ⟨w.heap.size, 0, none⟩) 0 0, .func (.func 29) #[] #[]] (w1.alloc (.mapIter none 0 #[] 0)) fun e w' => e = .returned (.tuple #[]) ∧ Below w.heap.size w w') :=
    (sort_lines w.heap.size 0 0 #[] (w1.alloc (.mapIter none 0 #[] 0)) (holds_own (ss := []) HO2.out rfl) hgl (by decide)).mono fun e w' ⟨he, d', k, os, _, _, hw⟩ => ⟨he, by rw [hw]; exact HB2.out.trans (sortWorld_below (Nat.le_refl _) HB2.out.size)⟩
  clear hgl
  refine H1.out.mono ?_
  rintro e w5 ⟨rfl, hb5⟩
  have HX := Lib.hid hb5
  clear hb5 H1
  go_wp2
  go_ret
  exact ⟨_, _, rfl, HX.out⟩

/-- Book.All: what stands, in order -/
theorem all_any (bb : Nat) (m : List Ln) (K : Nat) (fp : List Nat) (w : World) (hp : PBk bb m K w fp) (hK : K ≤ 4194304) :
    Calls Try.prog 13 #[.pointer (some ⟨bb, 0, none⟩)] w fun e w' => ∃ g cap, e = .returned (.slice (some ⟨g, 0, none⟩) m.length cap) ∧ RowL w' (some ⟨g, 0, none⟩) m ∧ Below w.heap.size w w' := by
  obtain ⟨mb, n, f, q1, q2, q3, q4, q5, q6, q7, q8⟩ := hp
  rcases q2 with ⟨rfl, hf⟩ | ⟨bm, rfl, hm⟩
  · have hm : m = [] := q3.none_nil q4 q5 hf
    subst hm
    refine (all_none bb w q1).mono ?_
    rintro e w' ⟨g, cap, he, hb⟩
    exact ⟨g, cap, he, (fun h => by simp at h), hb⟩
  · exact all_some bb bm n f m w q1 hm (by omega) q3 q4 q5
end Go.Proofs.Yteclhcjfnmkkjaa
