/-
  Contract of plan.rule.
-/
import Derived.Test.YtjegfoeempojiaaDoorPlnR
import Derived.Deep.RegionHeld3
import Derived.Laws.ResultCell
namespace Go.Proofs.YtjegfoeempojiaaDoor
open Go.RowKit Go.Maps

def rlV (x : Rl) : Value := .agg #[.string (st x.1), .string (st x.2.1), .int .i64 x.2.2.1, .int .i64 x.2.2.2]
def rlR : Option Rl → Value
  | some x => .tuple #[rlV x, .bool true]
  | none => .tuple #[rlV ([], [], 0, 0), .bool false]

theorem rule_ret {fn : Func} {s1 s2 : Nat} (h : fn.results = #[.cell s1 24, .tmp s2]) {tmps : Array Value} {W : World} (g : Nat) (hp : tmps.getD s1 undef = .pointer (some ⟨g, 0, none⟩)) (x : Rl) (fr : Nat × Nat) (b : Bool)
    (hg : W.heap[g]? = some (.cells #[.string (st x.1), .string (st x.2.1), .int .i64 x.2.2.1, .int .i64 x.2.2.2] 24 fr)) (hb : tmps.getD s2 undef = .bool b) :
    (results fn tmps).run Tryd.prog W = .ok (.tuple #[rlV x, .bool b]) W := by
  have hp' : tmps[s1]?.getD undef = .pointer (some ⟨g, 0, none⟩) := by simpa using hp
  have hb' : tmps[s2]?.getD undef = .bool b := by simpa using hb
  rw [results_cell_tmp h]
  simp [hp', hb', asAddr, Result.andThen, run_loadVar_row W g 24 24 _ fr _ hg Tryd.underlying24 rfl (by kernel_rfl), rlV]

theorem fill_step {ps : List Tk} {k : Nat} {t : Tk} {x0 x : Rl} (h : (ps.take k).foldl fill x0 = x) (ht : ps[k]? = some t) : (ps.take (k + 1)).foldl fill x0 = fill x t := by
  obtain ⟨h1, h2⟩ := List.getElem?_eq_some_iff.1 ht
  rw [List.take_succ_eq_append_getElem h1, h2, List.foldl_append, h]; rfl

/-- none is an End -/
def KindsLe (ts : Tks) : Prop := ∀ (i : Nat) (x : Tk × Nat), ts[i]? = some x → x.1.1 ≤ 2

set_option maxHeartbeats 4000000 in
set_option maxRecDepth 100000 in
theorem rule_any (t : Tk × Nat) (a : Option Addr) (c : Nat) (ts : Tks) (w : World) (hr : RowK tkC w a ts) (hl : ts.length ≤ 1000000000) (htl : t.1.2.1.length ≤ 1000000000) :
    Calls Tryd.prog 20 #[.agg (tkC t).toArray, .slice a ts.length c] w fun e w' => e = .returned (rlR (ruleL t.1 (ts.map (·.1)))) ∧ Below w.heap.size w w' := by
  obtain ⟨n, hn⟩ : ∃ n, n = ts.length := ⟨_, rfl⟩
  have HN := Lib.hid hn
  have HR := Lib.hid hr
  have HL : Hid (ts.length ≤ 1000000000) := hl
  rw [← hn] at hl ⊢
  clear hn hr
  unfold tkC
  cases hf : formL t.1.2.1 with
  | none =>
    have HRES : Hid (ruleL t.1 (ts.map (·.1)) = none) := by show _ = _; unfold ruleL; rw [hf]
    have HF : ∀ W, Hid (Calls Tryd.prog 11 #[] W fun e w' => ∃ m, e = .returned (.map (some m)) ∧ (Instr.lookup 38 (.map (some m)) (.string (st t.1.2.1)) true).run Tryd.prog w' = .ok (.tuple #[.slice none 0 0, .bool false]) w' ∧ Below W.heap.size W w') := fun W => forms_none hf htl true W
    clear hf htl
    go_enter Tryd.func20, Tryd.ntmps20
    go_wp2_with fail
    have hbx : Blk ((w.alloc (.cells #[.int .i64 (t.1.1 : Int), .string (st t.1.2.1), .int .i64 (t.1.2.2 : Int), .int .i64 (t.2 : Int)] 55)).alloc (.cells #[.string ⟨#[]⟩, .string ⟨#[]⟩, .int .i64 0, .int .i64 0] 24)) w.heap.size 55 #[.int .i64 (t.1.1 : Int), .string (st t.1.2.1), .int .i64 (t.1.2.2 : Int), .int .i64 (t.2 : Int)] := (Blk.new w _ _).alloc _
    have hrc : Blk ((w.alloc (.cells #[.int .i64 (t.1.1 : Int), .string (st t.1.2.1), .int .i64 (t.1.2.2 : Int), .int .i64 (t.2 : Int)] 55)).alloc (.cells #[.string ⟨#[]⟩, .string ⟨#[]⟩, .int .i64 0, .int .i64 0] 24)) (w.heap.size + 1) 24 #[.string ⟨#[]⟩, .string ⟨#[]⟩, .int .i64 0, .int .i64 0] := by
      have := Blk.new (w.alloc (.cells #[.int .i64 (t.1.1 : Int), .string (st t.1.2.1), .int .i64 (t.1.2.2 : Int), .int .i64 (t.2 : Int)] 55)) 24 #[.string ⟨#[]⟩, .string ⟨#[]⟩, .int .i64 0, .int .i64 0]
      simpa using this
    have hb0 : Below w.heap.size w ((w.alloc (.cells #[.int .i64 (t.1.1 : Int), .string (st t.1.2.1), .int .i64 (t.1.2.2 : Int), .int .i64 (t.2 : Int)] 55)).alloc (.cells #[.string ⟨#[]⟩, .string ⟨#[]⟩, .int .i64 0, .int .i64 0] 24)) := ((Below.refl _ w).alloc (Nat.le_refl _) _).alloc (by simp) _
    generalize (w.alloc (.cells #[.int .i64 (t.1.1 : Int), .string (st t.1.2.1), .int .i64 (t.1.2.2 : Int), .int .i64 (t.2 : Int)] 55)).alloc (.cells #[.string ⟨#[]⟩, .string ⟨#[]⟩, .int .i64 0, .int .i64 0] 24) = w0 at hbx hrc hb0 ⊢
    have HBX := Lib.hid hbx
    have HRC := Lib.hid hrc
    have HB0 := Lib.hid hb0
    have cx : w0.drew.cell? ⟨w.heap.size, 1, none⟩ = some (.string (st t.1.2.1)) := hbx.cell 1
    clear hbx hrc hb0
    go_region_held3 (fun w' => w'.cell? ⟨w.heap.size, 1, none⟩ = some (.string (st t.1.2.1)))
      (first | go_keep | exact k1)
      (first
        | (go_at_call 11; ((with_reducible refine (HF _).out.mono ?_); rintro e w1 ⟨m, rfl, hm, hb1⟩; have k1 : w1.cell? ⟨w.heap.size, 1, none⟩ = some (.string (st t.1.2.1)) := (hb1.cell (p := ⟨w.heap.size, 1, none⟩) HBX.out.lt).trans cx)))
    have HB1 : Hid (Below w0.heap.size w0 w1) := ⟨hb1.os, hb1.tape, hb1.output, hb1.size, hb1.block⟩
    clear hb1 cx k1 hm HF
    have HRC1 : Hid (Blk w1 (w.heap.size + 1) 24 #[.string ⟨#[]⟩, .string ⟨#[]⟩, .int .i64 0, .int .i64 0]) := HRC.out.since HB1.out
    have HBB : Hid (Below w.heap.size w w1) := bel_on HB0.out HB0.out.size HB1.out
    have f0 := HRC1.out.frozen 0
    have f1 := HRC1.out.frozen 1
    have f2 := HRC1.out.frozen 2
    have f3 := HRC1.out.frozen 3
    have c0 := HRC1.out.cell 0
    have c1 := HRC1.out.cell 1
    have c2 := HRC1.out.cell 2
    have c3 := HRC1.out.cell 3
    clear HBX HRC HB0 HB1
    go_wp2
    refine bodyPost_ret (rule_ret rfl (w.heap.size + 1) rfl ([], [], 0, 0) _ false ((((HRC1.out.set 0 _).set 1 _).set 2 _).set 3 _) rfl) rfl ⟨?_, ?_⟩
    · rw [HRES.out]; rfl
    · exact (((HBB.out.setCell (Nat.le_succ _) _).setCell (Nat.le_succ _) _).setCell (Nat.le_succ _) _).setCell (Nat.le_succ _) _
  | some f =>
    have hfl := formL_len hf
    have HRES : Hid (ruleL t.1 (ts.map (·.1)) = if ts.map (·.1.1) = f then some ((ts.map (·.1)).foldl fill (t.1.2.1, [], 0, 0)) else none) := by
      show _ = _
      unfold ruleL
      rw [hf]
      simp only [List.map_map]
      rfl
    have HF : ∀ W, Hid (Calls Tryd.prog 11 #[] W fun e w' => ∃ m g, e = .returned (.map (some m)) ∧ (Instr.lookup 38 (.map (some m)) (.string (st t.1.2.1)) true).run Tryd.prog w' = .ok (.tuple #[.slice (some ⟨g, 0, none⟩) f.length f.length, .bool true]) w' ∧ RowN2 w' g f ∧ Below W.heap.size W w') := fun W => forms_some hf htl true W
    have HFL := Lib.hid hfl
    obtain ⟨m0, hm0⟩ : ∃ m0, m0 = f.length := ⟨_, rfl⟩
    have HM0 := Lib.hid hm0
    rw [← hm0] at HF
    clear hf htl hfl hm0
    go_enter Tryd.func20, Tryd.ntmps20
    go_wp2_with fail
    have hbx : Blk ((w.alloc (.cells #[.int .i64 (t.1.1 : Int), .string (st t.1.2.1), .int .i64 (t.1.2.2 : Int), .int .i64 (t.2 : Int)] 55)).alloc (.cells #[.string ⟨#[]⟩, .string ⟨#[]⟩, .int .i64 0, .int .i64 0] 24)) w.heap.size 55 #[.int .i64 (t.1.1 : Int), .string (st t.1.2.1), .int .i64 (t.1.2.2 : Int), .int .i64 (t.2 : Int)] := (Blk.new w _ _).alloc _
    have hrc : Blk ((w.alloc (.cells #[.int .i64 (t.1.1 : Int), .string (st t.1.2.1), .int .i64 (t.1.2.2 : Int), .int .i64 (t.2 : Int)] 55)).alloc (.cells #[.string ⟨#[]⟩, .string ⟨#[]⟩, .int .i64 0, .int .i64 0] 24)) (w.heap.size + 1) 24 #[.string ⟨#[]⟩, .string ⟨#[]⟩, .int .i64 0, .int .i64 0] := by
      have := Blk.new (w.alloc (.cells #[.int .i64 (t.1.1 : Int), .string (st t.1.2.1), .int .i64 (t.1.2.2 : Int), .int .i64 (t.2 : Int)] 55)) 24 #[.string ⟨#[]⟩, .string ⟨#[]⟩, .int .i64 0, .int .i64 0]
      simpa using this
    have hb0 : Below w.heap.size w ((w.alloc (.cells #[.int .i64 (t.1.1 : Int), .string (st t.1.2.1), .int .i64 (t.1.2.2 : Int), .int .i64 (t.2 : Int)] 55)).alloc (.cells #[.string ⟨#[]⟩, .string ⟨#[]⟩, .int .i64 0, .int .i64 0] 24)) := ((Below.refl _ w).alloc (Nat.le_refl _) _).alloc (by simp) _
    generalize (w.alloc (.cells #[.int .i64 (t.1.1 : Int), .string (st t.1.2.1), .int .i64 (t.1.2.2 : Int), .int .i64 (t.2 : Int)] 55)).alloc (.cells #[.string ⟨#[]⟩, .string ⟨#[]⟩, .int .i64 0, .int .i64 0] 24) = w0 at hbx hrc hb0 ⊢
    have HBX := Lib.hid hbx
    have HRC := Lib.hid hrc
    have HB0 := Lib.hid hb0
    have cx : w0.drew.cell? ⟨w.heap.size, 1, none⟩ = some (.string (st t.1.2.1)) := hbx.cell 1
    clear hbx hrc hb0
    go_region_held3 (fun w' => w'.cell? ⟨w.heap.size, 1, none⟩ = some (.string (st t.1.2.1)))
      (first | go_keep | exact k1)
      (first
        | (go_at_call 11; ((with_reducible refine (HF _).out.mono ?_); rintro e w1 ⟨m, g, rfl, hm, hr1, hb1⟩; have k1 : w1.cell? ⟨w.heap.size, 1, none⟩ = some (.string (st t.1.2.1)) := (hb1.cell (p := ⟨w.heap.size, 1, none⟩) HBX.out.lt).trans cx)))
    have HB1 : Hid (Below w0.heap.size w0 w1) := ⟨hb1.os, hb1.tape, hb1.output, hb1.size, hb1.block⟩
    clear hb1 cx k1 hm HF
    have HR1 := Lib.hid hr1
    have HRC1 : Hid (Blk w1 (w.heap.size + 1) 24 #[.string ⟨#[]⟩, .string ⟨#[]⟩, .int .i64 0, .int .i64 0]) := HRC.out.since HB1.out
    have HBX1 : Hid (Blk w1 w.heap.size 55 #[.int .i64 (t.1.1 : Int), .string (st t.1.2.1), .int .i64 (t.1.2.2 : Int), .int .i64 (t.2 : Int)]) := HBX.out.since HB1.out
    have HBB : Hid (Below w.heap.size w w1) := bel_on HB0.out HB0.out.size HB1.out
    clear HBX HRC HB0 HB1 hr1
    have HEQ : Hid (Calls Tryd.prog 33 #[.slice a n c, .slice (some ⟨g, 0, none⟩) m0 m0, .func (.func 34) #[] #[]] w1 fun e w' => e = .returned (.bool (decide (ts.map (·.1.1) = f))) ∧ Below w1.heap.size w1 w') := by
      have := equal_any a c ts g f w1 (HR.out.keep HBB.out) HR1.out HL.out HFL.out.2.1
      rw [← HN.out, ← HM0.out] at this
      exact this
    by_cases hk : ts.map (·.1.1) = f
    · rw [decide_eq_true hk] at HEQ
      have HRES2 : Hid (ruleL t.1 (ts.map (·.1)) = some ((ts.map (·.1)).foldl fill (t.1.2.1, [], 0, 0))) := by show _ = _; rw [HRES.out, if_pos hk]
      have HKD : Hid (KindsLe ts) := by
        intro i x hx
        refine HFL.out.2.2.1 _ ?_
        rw [← hk]
        exact List.mem_map.2 ⟨x, List.mem_of_getElem? hx, rfl⟩
      clear hk HRES
      go_wp2_with (first | (go_at_call 33; with_reducible refine HEQ.out.mono ?_; rintro e w2 ⟨rfl, hb2⟩; have cx := (HBX1.out.since hb2).cell 1; have HB2 := Lib.hid hb2; clear hb2) | fail)
      obtain ⟨rb, hrb⟩ : ∃ rb, rb = w2.heap.size := ⟨_, rfl⟩
      have HRB : Hid (w.heap.size + 1 < rb) := by
        have h1 := HRC1.out.lt
        have h2 := HB2.out.size
        show _ < _
        omega
      have HBR0 : Hid (Blk (w2.alloc (.cells #[.string (st t.1.2.1), .string ⟨#[]⟩, .int .i64 0, .int .i64 0] 24)) rb 24 #[.string (st t.1.2.1), .string (st []), .int .i64 0, .int .i64 0]) := by rw [hrb]; exact Blk.new w2 _ _
      have HRC2 : Hid (Blk (w2.alloc (.cells #[.string (st t.1.2.1), .string ⟨#[]⟩, .int .i64 0, .int .i64 0] 24)) (w.heap.size + 1) 24 #[.string ⟨#[]⟩, .string ⟨#[]⟩, .int .i64 0, .int .i64 0]) := (HRC1.out.since HB2.out).alloc _
      have HBB2 : Hid (Below w.heap.size w (w2.alloc (.cells #[.string (st t.1.2.1), .string ⟨#[]⟩, .int .i64 0, .int .i64 0] 24))) := by
        have h1 := bel_on HBB.out HBB.out.size HB2.out
        exact h1.alloc h1.size _
      rw [← hrb]
      generalize w2.alloc (.cells #[.string (st t.1.2.1), .string ⟨#[]⟩, .int .i64 0, .int .i64 0] 24) = w3 at HBR0 HRC2 HBB2 ⊢
      clear hrb cx HBX1 HRC1 HBB HB2 HEQ HR1
      go_loopg [10, 32] n (fun gk _ i wr => ∃ (k : Nat) (kk nm : List UInt8) (N R : Int), k ≤ n ∧ i = .int .i64 k ∧ n - k ≤ gk ∧ Hid (((ts.map (·.1)).take k).foldl fill (t.1.2.1, [], 0, 0) = (kk, nm, N, R)) ∧ Hid (Blk wr rb 24 #[.string (st kk), .string (st nm), .int .i64 N, .int .i64 R]) ∧ Hid (Blk wr (w.heap.size + 1) 24 #[.string ⟨#[]⟩, .string ⟨#[]⟩, .int .i64 0, .int .i64 0]) ∧ Hid (Below w.heap.size w wr))
      case atStart => exact ⟨0, _, _, _, _, Nat.zero_le _, rfl, by omega, rfl, HBR0, HRC2, HBB2⟩
      case round =>
        clear HBR0 HRC2 HBB2
        obtain ⟨k, kk, nm, N, R, hk, rfl, hgk, HFD, HBR, HRCr, HBr⟩ := hrel
        have HBs : Hid (w.heap.size ≤ wr.heap.size) := HBr.out.size
        by_cases hlt : k < n
        case' pos =>
          obtain ⟨y, hy⟩ : ∃ y, ts[k]? = some y := ⟨_, List.getElem?_eq_getElem (by rw [← HN.out]; exact hlt)⟩
          obtain ⟨b, off, rfl, hc⟩ := (HR.out.keep HBr.out) (by rw [← HN.out]; omega)
          have hkz : (0 : Int) ≤ (k : Int) := by omega
          have hkn : (k : Int) < (n : Int) := by omega
          have hq3 : y.1.1 = 0 ∨ y.1.1 = 1 ∨ y.1.1 = 2 := by have := HKD.out k y hy; omega
          rcases hq3 with hq | hq | hq
        case' pos.inl =>
          have c0 : wr.cell? ⟨b, off + k * 4, none⟩ = some (.int .i64 0) := by have := hc k y hy 0 _ rfl; rw [hq] at this; simpa using this
          have c1 := hc k y hy 1 _ rfl
          have c2 := hc k y hy 2 _ rfl
          have c3 := hc k y hy 3 _ rfl
          have HBo := HBR.out.alloc (.cells #[.int .i64 0, .string (st y.1.2.1), .int .i64 (y.1.2.2 : Int), .int .i64 (y.2 : Int)] 55)
          have dj := HBo.cell 1
          have gj := HBo.frozen 1
          have HF2 : Hid (((ts.map (·.1)).take (k + 1)).foldl fill (t.1.2.1, [], 0, 0) = (kk, y.1.2.1, N, R)) := by
            show _ = _
            rw [fill_step HFD.out (t := y.1) (by rw [List.getElem?_map, hy]; rfl)]
            unfold fill
            rw [hq]
            rfl
          clear HBo hc hq hy
          go_wp2
          go_roundg (n - (k + 1))
          case measure => omega
          case rel => exact ⟨k + 1, kk, y.1.2.1, N, R, by omega, by go_num, by omega, HF2, Lib.hid ((HBR.out.alloc _).set 1 _), Lib.hid ((HRCr.out.alloc _).other (by show w.heap.size + 1 ≠ rb; have := HRB.out; omega) _), Lib.hid ((HBr.out.alloc HBs.out _).setCell (by show w.heap.size ≤ rb; have := HRB.out; omega) _)⟩
        case' pos.inr.inl =>
          have c0 : wr.cell? ⟨b, off + k * 4, none⟩ = some (.int .i64 1) := by have := hc k y hy 0 _ rfl; rw [hq] at this; simpa using this
          have c1 := hc k y hy 1 _ rfl
          have c2 := hc k y hy 2 _ rfl
          have c3 := hc k y hy 3 _ rfl
          have HBo := HBR.out.alloc (.cells #[.int .i64 1, .string (st y.1.2.1), .int .i64 (y.1.2.2 : Int), .int .i64 (y.2 : Int)] 55)
          have dj := HBo.cell 2
          have gj := HBo.frozen 2
          have HF2 : Hid (((ts.map (·.1)).take (k + 1)).foldl fill (t.1.2.1, [], 0, 0) = (kk, nm, (y.1.2.2 : Int), R)) := by
            show _ = _
            rw [fill_step HFD.out (t := y.1) (by rw [List.getElem?_map, hy]; rfl)]
            unfold fill
            rw [hq]
            rfl
          clear HBo hc hq hy
          go_wp2
          go_roundg (n - (k + 1))
          case measure => omega
          case rel => exact ⟨k + 1, kk, nm, (y.1.2.2 : Int), R, by omega, by go_num, by omega, HF2, Lib.hid ((HBR.out.alloc _).set 2 _), Lib.hid ((HRCr.out.alloc _).other (by show w.heap.size + 1 ≠ rb; have := HRB.out; omega) _), Lib.hid ((HBr.out.alloc HBs.out _).setCell (by show w.heap.size ≤ rb; have := HRB.out; omega) _)⟩
        case' pos.inr.inr =>
          have c0 : wr.cell? ⟨b, off + k * 4, none⟩ = some (.int .i64 2) := by have := hc k y hy 0 _ rfl; rw [hq] at this; simpa using this
          have c1 := hc k y hy 1 _ rfl
          have c2 := hc k y hy 2 _ rfl
          have c3 := hc k y hy 3 _ rfl
          have HBo := HBR.out.alloc (.cells #[.int .i64 2, .string (st y.1.2.1), .int .i64 (y.1.2.2 : Int), .int .i64 (y.2 : Int)] 55)
          have dj := HBo.cell 3
          have gj := HBo.frozen 3
          have HF2 : Hid (((ts.map (·.1)).take (k + 1)).foldl fill (t.1.2.1, [], 0, 0) = (kk, nm, N, (y.1.2.2 : Int))) := by
            show _ = _
            rw [fill_step HFD.out (t := y.1) (by rw [List.getElem?_map, hy]; rfl)]
            unfold fill
            rw [hq]
            rfl
          clear HBo hc hq hy
          go_wp2
          go_roundg (n - (k + 1))
          case measure => omega
          case rel => exact ⟨k + 1, kk, nm, N, (y.1.2.2 : Int), by omega, by go_num, by omega, HF2, Lib.hid ((HBR.out.alloc _).set 3 _), Lib.hid ((HRCr.out.alloc _).other (by show w.heap.size + 1 ≠ rb; have := HRB.out; omega) _), Lib.hid ((HBr.out.alloc HBs.out _).setCell (by show w.heap.size ≤ rb; have := HRB.out; omega) _)⟩
        case neg =>
          have e : k = n := by omega
          have HFD2 : Hid ((ts.map (·.1)).foldl fill (t.1.2.1, [], 0, 0) = (kk, nm, N, R)) := by
            have := HFD.out
            rw [List.take_of_length_le (by rw [List.length_map, ← HN.out, e]; exact Nat.le_refl _)] at this
            exact this
          have hkn : ¬ ((k : Int) < (n : Int)) := by omega
          have c0 := HBR.out.cell 0
          have c1 := HBR.out.cell 1
          have c2 := HBR.out.cell 2
          have c3 := HBR.out.cell 3
          have d0 := HRCr.out.cell 0
          have d1 := HRCr.out.cell 1
          have d2 := HRCr.out.cell 2
          have d3 := HRCr.out.cell 3
          have f0 := HRCr.out.frozen 0
          have f1 := HRCr.out.frozen 1
          have f2 := HRCr.out.frozen 2
          have f3 := HRCr.out.frozen 3
          clear HFD
          go_wp2
          refine bodyPost_ret (rule_ret rfl (w.heap.size + 1) rfl (kk, nm, N, R) _ true ((((HRCr.out.set 0 _).set 1 _).set 2 _).set 3 _) rfl) rfl ⟨?_, ?_⟩
          · rw [HRES2.out, HFD2.out]; rfl
          · exact (((HBr.out.setCell (Nat.le_succ _) _).setCell (Nat.le_succ _) _).setCell (Nat.le_succ _) _).setCell (Nat.le_succ _) _
    · rw [decide_eq_false hk] at HEQ
      have HRES2 : Hid (ruleL t.1 (ts.map (·.1)) = none) := by show _ = _; rw [HRES.out, if_neg hk]
      clear hk HRES
      go_wp2_with (first | (go_at_call 33; with_reducible refine HEQ.out.mono ?_; rintro e w2 ⟨rfl, hb2⟩; have HRC2 := Lib.hid (HRC1.out.since hb2); have HBB2 := Lib.hid (bel_on HBB.out HBB.out.size hb2); have f0 := HRC2.out.frozen 0; have f1 := HRC2.out.frozen 1; have f2 := HRC2.out.frozen 2; have f3 := HRC2.out.frozen 3; have c0 := HRC2.out.cell 0; have c1 := HRC2.out.cell 1; have c2 := HRC2.out.cell 2; have c3 := HRC2.out.cell 3; clear hb2) | fail)
      refine bodyPost_ret (rule_ret rfl (w.heap.size + 1) rfl ([], [], 0, 0) _ false ((((HRC2.out.set 0 _).set 1 _).set 2 _).set 3 _) rfl) rfl ⟨?_, ?_⟩
      · rw [HRES2.out]; rfl
      · exact (((HBB2.out.setCell (Nat.le_succ _) _).setCell (Nat.le_succ _) _).setCell (Nat.le_succ _) _).setCell (Nat.le_succ _) _
end Go.Proofs.YtjegfoeempojiaaDoor
