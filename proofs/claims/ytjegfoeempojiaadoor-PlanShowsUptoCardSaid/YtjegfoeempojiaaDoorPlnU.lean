/-
  Contracts of plan.figures, percent, line.
-/
import Derived.Test.YtjegfoeempojiaaDoorPlnR
import Derived.Test.YtjegfoeempojiaaDoorShelf
import Derived.Sort.Grow
import Derived.Lib.LaidTab
import Derived.Lib.ItoaMem
import Derived.BigQuiet
import Derived.Deep.RegionHeld3
namespace Go.Proofs.YtjegfoeempojiaaDoor
open Go.RowKit Go.Maps

/-- the library's table of tens lies in memory -/
def Tab (w : World) : Prop := Lib.TabIs Tryd.prog w "internal/strconv.uint64pow10" .u64 Lib.pow10Tab
theorem Tab.keep {w w' : World} (h : Tab w) (hb : Below w.heap.size w w') : Tab w' := by
  have hg : Tryd.prog.globalNamed "internal/strconv.uint64pow10" = some 0 := by kernel_rfl
  unfold Tab Lib.TabIs World.var? at h ⊢
  rw [hg] at h ⊢
  simp only [Option.bind_some] at h ⊢
  have hlt : 0 < w.heap.size := by
    rcases Nat.lt_or_ge 0 w.heap.size with h' | h'
    · exact h'
    · rw [Array.getElem?_eq_none h'] at h; cases h
  rw [hb.block 0 hlt]
  exact h

theorem bel_grow {w : World} (k : Nat) (os : Array Obj) : Below w.heap.size w (Go.Sort.grow (w.drewN k) os) := by
  refine ⟨rfl, rfl, rfl, ?_, fun i hi => ?_⟩
  · show w.heap.size ≤ (w.heap ++ os).size
    rw [Array.size_append]; omega
  · show (w.heap ++ os)[i]? = w.heap[i]?
    rw [Array.getElem?_append_left hi]

theorem figures_any (n : Int) (w : World) (hn : I64 n) (ht : Tab w) :
    Calls Tryd.prog 22 #[.int .i64 n] w fun e w' => e = .returned (.string (st (Go.Lib.itoa n))) ∧ Below w.heap.size w w' := by
  have H1 : ∀ W, Tab W → Calls Tryd.prog 36 #[.int .i64 n, .int .i64 10] W fun e w' => e = .returned (.string (st (Go.Lib.itoa n))) ∧ Below W.heap.size W w' := fun W hW => by
    refine (Tryd.strconv_FormatInt_10 n hn.1 hn.2 W hW).mono ?_
    rintro e w' ⟨he, k, os, rfl⟩
    exact ⟨he, bel_grow k os⟩
  go_enter Tryd.func22, Tryd.ntmps22
  go_wp2_with (first | (go_at_call 36; refine (H1 _ ht).mono ?_; rintro e w1 ⟨rfl, hb⟩; have HB := Lib.hid hb; clear hb) | fail)
  go_ret
  exact ⟨rfl, HB.out⟩

theorem wrap64_i64 {n : Int} (h : I64 n) : wrap64 n = n := by
  unfold I64 at h
  unfold wrap64
  omega

set_option maxHeartbeats 1000000 in
set_option maxRecDepth 100000 in
theorem percent_any (r : Int) (w : World) (hr : I64 r) (ht : Tab w) :
    Calls Tryd.prog 23 #[.int .i64 r] w fun e w' => e = .returned (.string (st (pctI r))) ∧ Below w.heap.size w w' := by
  have i1 := i64_tdiv hr 100 (by decide) (by decide)
  have i2 := i64_tdiv hr 10 (by decide) (by decide)
  have i3 := i64_tmod (n := r.tdiv 10) 10 (by decide) (by decide)
  have i4 := i64_tmod (n := r) 10 (by decide) (by decide)
  have k1 := wrap64_i64 i1
  have k2 := wrap64_i64 i2
  have HT := Lib.hid ht
  obtain ⟨A, hA⟩ : ∃ A, A = Go.Lib.itoa (r.tdiv 100) := ⟨_, rfl⟩
  obtain ⟨C, hC⟩ : ∃ C, C = Go.Lib.itoa ((r.tdiv 10).tmod 10) := ⟨_, rfl⟩
  obtain ⟨D, hD⟩ : ∃ D, D = Go.Lib.itoa (r.tmod 10) := ⟨_, rfl⟩
  have hA2 := itoa_len i1
  have hC2 := itoa_len i3
  have hD2 := itoa_len i4
  rw [← hA] at hA2
  rw [← hC] at hC2
  rw [← hD] at hD2
  have H1 : ∀ W, Hid (Tab W → Calls Tryd.prog 22 #[.int .i64 (r.tdiv 100)] W fun e w' => e = .returned (.string (st A)) ∧ Below W.heap.size W w') := fun W hW => by rw [hA]; exact figures_any _ W i1 hW
  have H2 : ∀ W, Hid (Tab W → Calls Tryd.prog 22 #[.int .i64 ((r.tdiv 10).tmod 10)] W fun e w' => e = .returned (.string (st C)) ∧ Below W.heap.size W w') := fun W hW => by rw [hC]; exact figures_any _ W i3 hW
  have H3 : ∀ W, Hid (Tab W → Calls Tryd.prog 22 #[.int .i64 (r.tmod 10)] W fun e w' => e = .returned (.string (st D)) ∧ Below W.heap.size W w') := fun W hW => by rw [hD]; exact figures_any _ W i4 hW
  have HR : Hid (pctI r = if r.tmod 100 = 0 then A ++ [37] else ((A ++ [46]) ++ C ++ D) ++ [37]) := by show _ = _; unfold pctI; rw [hA, hC, hD]
  have q0 := st_append A [37]
  have q1 := st_append A [46]
  have q2 := st_append (A ++ [46]) C
  have q3 := st_append (A ++ [46] ++ C) D
  have q4 := st_append (A ++ [46] ++ C ++ D) [37]
  have z0 := st_size A
  have z1 := st_size (A ++ [46])
  have z2 := st_size (A ++ [46] ++ C)
  have z3 := st_size (A ++ [46] ++ C ++ D)
  have y1 := st_size C
  have y2 := st_size D
  simp only [List.length_append, List.length_singleton] at z1 z2 z3
  clear hA hC hD i1 i2 i3 i4 hr ht
  have p46 : st [46] = ⟨#[46]⟩ := rfl
  have p37 : st [37] = ⟨#[37]⟩ := rfl
  rw [p46] at q1
  rw [p37] at q0 q4
  by_cases h0 : r.tmod 100 = 0
  · have HR2 : Hid (pctI r = A ++ [37]) := by show _ = _; rw [HR.out, if_pos h0]
    obtain ⟨S0, hS0⟩ : ∃ S, S = st A := ⟨_, rfl⟩
    obtain ⟨S1, hS1⟩ : ∃ S, S = st (A ++ [37]) := ⟨_, rfl⟩
    have HS1 := Lib.hid hS1
    simp only [← hS0] at q0 z0 H1
    simp only [← hS1] at q0
    have b1 : ¬ 9223372036854775807 < S0.size + 1 := by omega
    clear q1 q2 q3 q4 z1 z2 z3 z0 y1 y2 p46 p37 hS0 hS1 hA2 hC2 hD2 H2 H3 HR
    go_enter Tryd.func23, Tryd.ntmps23
    go_wp2_with (first | (go_at_call 22; with_reducible refine ((H1 _).out HT.out).mono ?_; rintro e w1 ⟨rfl, hb⟩; have HB1 := Lib.hid hb; clear hb) | fail)
    go_ret
    refine ⟨?_, HB1.out⟩
    rw [HR2.out, ← HS1.out]
    rfl
  · have HR2 : Hid (pctI r = ((A ++ [46]) ++ C ++ D) ++ [37]) := by show _ = _; rw [HR.out, if_neg h0]
    obtain ⟨S0, hS0⟩ : ∃ S, S = st A := ⟨_, rfl⟩
    obtain ⟨S1, hS1⟩ : ∃ S, S = st (A ++ [46]) := ⟨_, rfl⟩
    obtain ⟨S2, hS2⟩ : ∃ S, S = st (A ++ [46] ++ C) := ⟨_, rfl⟩
    obtain ⟨S3, hS3⟩ : ∃ S, S = st (A ++ [46] ++ C ++ D) := ⟨_, rfl⟩
    obtain ⟨S4, hS4⟩ : ∃ S, S = st (A ++ [46] ++ C ++ D ++ [37]) := ⟨_, rfl⟩
    obtain ⟨SC, hSC⟩ : ∃ S, S = st C := ⟨_, rfl⟩
    obtain ⟨SD, hSD⟩ : ∃ S, S = st D := ⟨_, rfl⟩
    have HS4 := Lib.hid hS4
    rw [← hS4] at q4
    rw [← hS3] at q4 q3 z3
    rw [← hS2] at q3 q2 z2
    rw [← hS1] at q2 q1 z1
    rw [← hS0] at q1 z0
    simp only [← hS0] at H1
    rw [← hSC] at q2 y1
    rw [← hSD] at q3 y2
    simp only [← hSC] at H2
    simp only [← hSD] at H3
    have b1 : ¬ 9223372036854775807 < S0.size + 1 := by omega
    have b2 : ¬ 9223372036854775807 < S1.size + SC.size := by omega
    have b3 : ¬ 9223372036854775807 < S2.size + SD.size := by omega
    have b4 : ¬ 9223372036854775807 < S3.size + 1 := by omega
    clear q0 z1 z2 z3 z0 y1 y2 p46 p37 hS0 hS1 hS2 hS3 hS4 hSC hSD hA2 hC2 hD2 HR
    go_enter Tryd.func23, Tryd.ntmps23
    go_wp2_with (first
      | (go_at_call 22; with_reducible refine ((H1 _).out HT.out).mono ?_; rintro e w1 ⟨rfl, hb⟩; have HB1 := Lib.hid hb; have HT1 := Lib.hid (HT.out.keep hb); clear hb)
      | (go_at_call 22; with_reducible refine ((H2 _).out HT1.out).mono ?_; rintro e w2 ⟨rfl, hb⟩; have HB2 := Lib.hid (bel_on HB1.out HB1.out.size hb); have HT2 := Lib.hid (HT1.out.keep hb); clear hb)
      | (go_at_call 22; with_reducible refine ((H3 _).out HT2.out).mono ?_; rintro e w3 ⟨rfl, hb⟩; have HB3 := Lib.hid (bel_on HB2.out HB2.out.size hb); clear hb)
      | fail)
    go_ret
    refine ⟨?_, HB3.out⟩
    rw [HR2.out, ← HS4.out]
    rfl

/-- a text, on the way -/
theorem parts_step {r : Rl} {f : List Nat} {k x : Nat} {T : List UInt8} (h : (f.take k).foldl (fun s k => s ++ ([32] ++ partI r k)) r.1 = T) (hx : f[k]? = some x) : (f.take (k + 1)).foldl (fun s k => s ++ ([32] ++ partI r k)) r.1 = T ++ ([32] ++ partI r x) := by
  obtain ⟨h1, h2⟩ := List.getElem?_eq_some_iff.1 hx
  rw [List.take_succ_eq_append_getElem h1, h2, List.foldl_append, h]; rfl

/-- kinds of parts, in a row, or none -/
def RowN3 (w : World) (a : Option Addr) (f : List Nat) : Prop := 0 < f.length → ∃ g, a = some ⟨g, 0, none⟩ ∧ RowN2 w g f
theorem RowN3.keep {w w' : World} {a : Option Addr} {f : List Nat} (h : RowN3 w a f) (hb : Below w.heap.size w w') : RowN3 w' a f := fun h0 => by
  obtain ⟨g, e, hr⟩ := h h0
  exact ⟨g, e, hr.keep hb⟩
theorem forms_get (k : List UInt8) (hk : k.length ≤ 1000000000) (w : World) : Calls Tryd.prog 11 #[] w fun e w' => ∃ m a, e = .returned (.map (some m)) ∧
    (Instr.lookup 38 (.map (some m)) (.string (st k)) false).run Tryd.prog w' = .ok (.slice a ((formL k).getD []).length ((formL k).getD []).length) w' ∧ RowN3 w' a ((formL k).getD []) ∧ Below w.heap.size w w' := by
  cases hf : formL k with
  | none =>
    refine (forms_none hf hk false w).mono ?_
    rintro e w' ⟨m, rfl, hl, hb⟩
    exact ⟨m, none, rfl, hl, (fun h => absurd h (by simp)), hb⟩
  | some f =>
    refine (forms_some hf hk false w).mono ?_
    rintro e w' ⟨m, g, rfl, hl, hr, hb⟩
    exact ⟨m, _, rfl, hl, (fun _ => ⟨g, rfl, hr⟩), hb⟩
theorem formL_le (k : List UInt8) : ((formL k).getD []).length ≤ 2 ∧ ∀ x ∈ (formL k).getD [], x ≤ 2 := by
  cases hf : formL k with
  | none => exact ⟨by simp, fun x hx => by cases hx⟩
  | some f => exact ⟨(formL_len hf).2.1, (formL_len hf).2.2.1⟩

set_option maxHeartbeats 4000000 in
set_option maxRecDepth 100000 in
theorem line_any (r : Rl) (w : World) (hr : OkR r) (h1 : r.1.length ≤ 1000000000) (h2 : r.2.1.length ≤ 1000000000) (ht : Tab w) :
    Calls Tryd.prog 13 #[.agg (cR r).toArray] w fun e w' => e = .returned (.string (st (lineI r))) ∧ Below w.heap.size w w' := by
  have HT := Lib.hid ht
  have HOK := Lib.hid hr
  unfold cR
  obtain ⟨f, hf⟩ : ∃ f, f = (formL r.1).getD [] := ⟨_, rfl⟩
  obtain ⟨n, hn⟩ : ∃ n, n = f.length := ⟨_, rfl⟩
  have HN := Lib.hid hn
  have hfl := formL_le r.1
  have HF : ∀ W, Hid (Calls Tryd.prog 11 #[] W fun e w' => ∃ m a, e = .returned (.map (some m)) ∧ (Instr.lookup 38 (.map (some m)) (.string (st r.1)) false).run Tryd.prog w' = .ok (.slice a n n) w' ∧ RowN3 w' a f ∧ Below W.heap.size W w') := fun W => by
    have := forms_get r.1 h1 W
    rw [← hf, ← hn] at this
    exact this
  rw [← hf] at hfl
  have HL : Hid (lineI r = f.foldl (fun s k => s ++ ([32] ++ partI r k)) r.1 ++ [59, 10]) := by show _ = _; unfold lineI partsI; rw [hf]
  have HX2 : Hid (∀ x ∈ f, x ≤ 2) := hfl.2
  have hn2 : n ≤ 2 := by rw [hn]; exact hfl.1
  have HP := Lib.hid (partI_len hr)
  have HLN : Hid (r.1.length ≤ 1000000000 ∧ r.2.1.length ≤ 1000000000) := ⟨h1, h2⟩
  clear hf hn hfl hr ht h1 h2
  go_enter Tryd.func13, Tryd.ntmps13
  go_wp2_with fail
  have hbx := Blk.new w 24 #[.string (st r.1), .string (st r.2.1), .int .i64 r.2.2.1, .int .i64 r.2.2.2]
  have hb0 : Below w.heap.size w (w.alloc (.cells #[.string (st r.1), .string (st r.2.1), .int .i64 r.2.2.1, .int .i64 r.2.2.2] 24)) := (Below.refl _ w).alloc (Nat.le_refl _) _
  generalize w.alloc (.cells #[.string (st r.1), .string (st r.2.1), .int .i64 r.2.2.1, .int .i64 r.2.2.2] 24) = w0 at hbx hb0 ⊢
  have HBX : Hid (Blk w0.drew w.heap.size 24 #[.string (st r.1), .string (st r.2.1), .int .i64 r.2.2.1, .int .i64 r.2.2.2]) := hbx
  have HB0 := Lib.hid hb0
  have cx : w0.drew.cell? ⟨w.heap.size, 0, none⟩ = some (.string (st r.1)) := hbx.cell 0
  clear hbx hb0
  go_region_held3 (fun w' => w'.cell? ⟨w.heap.size, 0, none⟩ = some (.string (st r.1)))
    (first | with_reducible exact cx | with_reducible exact k1 | go_keep)
    (first
      | (go_at_call 11; ((with_reducible refine (HF _).out.mono ?_); rintro e w1 ⟨m, a, rfl, hm, hra, hb1⟩; have k1 : w1.cell? ⟨w.heap.size, 0, none⟩ = some (.string (st r.1)) := (hb1.cell (p := ⟨w.heap.size, 0, none⟩) HBX.out.lt).trans cx)))
  have HB1 : Hid (Below w.heap.size w w1) := bel_on HB0.out.drew HB0.out.size hb1
  have HBX1 : Hid (Blk w1 w.heap.size 24 #[.string (st r.1), .string (st r.2.1), .int .i64 r.2.2.1, .int .i64 r.2.2.2]) := HBX.out.since hb1
  have HRA := Lib.hid hra
  obtain ⟨B1, hB1⟩ : ∃ B1, B1 = w1.heap.size := ⟨_, rfl⟩
  have HB1E := Lib.hid hB1
  have HT1 : Hid (Tab w1) := HT.out.keep HB1.out
  clear hb1 cx k1 hm HF hB1 hra HBX
  go_wp2_with fail
  have HS0 : Hid ((f.take 0).foldl (fun s k => s ++ ([32] ++ partI r k)) r.1 = r.1) := rfl
  go_loopg [3, 5, 13] n (fun gk sv _ i wr => ∃ (k : Nat) (T : List UInt8), k ≤ n ∧ i = .int .i64 k ∧ sv = .string (st T) ∧ n - k ≤ gk ∧ T.length ≤ 1000000000 + k * 1000000100 ∧ Hid ((f.take k).foldl (fun s k => s ++ ([32] ++ partI r k)) r.1 = T) ∧ Hid (Below B1 w1 wr))
  case atStart => exact ⟨0, r.1, Nat.zero_le _, rfl, rfl, by omega, by have := HLN.out.1; omega, HS0, Below.refl _ _⟩
  case round =>
    obtain ⟨k, T, hk, rfl, rfl, hgk, hTl0, HFD, HBr⟩ := hrel
    have HBrs : Hid (B1 ≤ wr.heap.size) := by have := HBr.out.size; have := HB1E.out; show _ ≤ _; omega
    have HB1r : Hid (Below w1.heap.size w1 wr) := HB1E.out ▸ HBr.out
    by_cases hlt : k < n
    case' pos =>
      obtain ⟨x, hy⟩ : ∃ x, f[k]? = some x := ⟨_, List.getElem?_eq_getElem (by rw [← HN.out]; exact hlt)⟩
      obtain ⟨g, rfl, hrn⟩ := (HRA.out.keep HB1r.out) (by rw [← HN.out]; omega)
      have hyc := hrn k x hy
      have HBXr : Hid (Blk wr w.heap.size 24 #[.string (st r.1), .string (st r.2.1), .int .i64 r.2.2.1, .int .i64 r.2.2.2]) := HBX1.out.since HB1r.out
      have HTr : Hid (Tab wr) := HT1.out.keep HB1r.out
      have hkz : (0 : Int) ≤ (k : Int) := by omega
      have hkn : (k : Int) < (n : Int) := by omega
      have hq3 : x = 0 ∨ x = 1 ∨ x = 2 := by have := HX2.out x (List.mem_of_getElem? hy); omega
      clear hrn
      rcases hq3 with hq | hq | hq
    case' pos.inl =>
      subst hq
      have hP : partI r 0 = r.2.1 := rfl
      have hPl := HP.out 0
      have HS' : Hid ((f.take (k + 1)).foldl (fun s k => s ++ ([32] ++ partI r k)) r.1 = T ++ ([32] ++ r.2.1)) := by show _ = _; rw [parts_step HFD.out hy, hP]
      rw [hP] at hPl
      have cf := HBXr.out.cell 1
      have hPm : (r.2.1).length ≤ 1000000065 := by have := HLN.out; have := hPl; omega
      clear hPl
      obtain ⟨P, hPe⟩ : ∃ P, P = r.2.1 := ⟨_, rfl⟩
      simp only [← hPe] at HS' hPm cf
      have e1 := st_append [32] P
      have e2 := st_append T ([32] ++ P)
      have z1 := st_size P
      have z2 := st_size T
      have z3 := st_size ([32] ++ P)
      have p32 : st [32] = ⟨#[32]⟩ := rfl
      rw [p32] at e1
      simp only [List.length_append, List.length_singleton] at z3
      obtain ⟨SP, hSP⟩ : ∃ S, S = st P := ⟨_, rfl⟩
      obtain ⟨SQ, hSQ⟩ : ∃ S, S = st ([32] ++ P) := ⟨_, rfl⟩
      obtain ⟨T', hT'⟩ : ∃ T', T' = T ++ ([32] ++ P) := ⟨_, rfl⟩
      rw [← hT'] at HS' e2
      rw [← hSQ] at e1 e2 z3
      simp only [← hSP] at e1 z1 cf
      have hTl : T'.length ≤ 1000000000 + (k + 1) * 1000000100 := by rw [hT']; simp only [List.length_append, List.length_singleton]; have := HLN.out; omega
      have b1 : ¬ 9223372036854775807 < 1 + SP.size := by have := HLN.out; omega
      have b2 : ¬ 9223372036854775807 < (st T).size + SQ.size := by have := HLN.out; omega
      have hy2 : wr.cell? ⟨g, k, none⟩ = some (.int .i64 0) := hyc
      clear hy hyc hT' hSP hSQ hPe hP p32 z1 z2 z3 hPm
      go_wp2
      go_roundg (n - (k + 1))
      case measure => omega
      case rel => exact ⟨k + 1, T', by omega, by go_num, rfl, by omega, hTl, HS', HBr⟩
    case' pos.inr.inl =>
      subst hq
      have hP : partI r 1 = Go.Lib.itoa r.2.2.1 := rfl
      have hPl := HP.out 1
      have HS' : Hid ((f.take (k + 1)).foldl (fun s k => s ++ ([32] ++ partI r k)) r.1 = T ++ ([32] ++ Go.Lib.itoa r.2.2.1)) := by show _ = _; rw [parts_step HFD.out hy, hP]
      rw [hP] at hPl
      have cf := HBXr.out.cell 2
      have H1 : Hid (Calls Tryd.prog 22 #[.int .i64 r.2.2.1] wr fun e w' => e = .returned (.string (st (Go.Lib.itoa r.2.2.1))) ∧ Below wr.heap.size wr w') := figures_any r.2.2.1 wr HOK.out.1 HTr.out
      have hPm : (Go.Lib.itoa r.2.2.1).length ≤ 1000000065 := by have := HLN.out; have := hPl; omega
      clear hPl
      obtain ⟨P, hPe⟩ : ∃ P, P = Go.Lib.itoa r.2.2.1 := ⟨_, rfl⟩
      simp only [← hPe] at HS' hPm H1
      have e1 := st_append [32] P
      have e2 := st_append T ([32] ++ P)
      have z1 := st_size P
      have z2 := st_size T
      have z3 := st_size ([32] ++ P)
      have p32 : st [32] = ⟨#[32]⟩ := rfl
      rw [p32] at e1
      simp only [List.length_append, List.length_singleton] at z3
      obtain ⟨SP, hSP⟩ : ∃ S, S = st P := ⟨_, rfl⟩
      obtain ⟨SQ, hSQ⟩ : ∃ S, S = st ([32] ++ P) := ⟨_, rfl⟩
      obtain ⟨T', hT'⟩ : ∃ T', T' = T ++ ([32] ++ P) := ⟨_, rfl⟩
      rw [← hT'] at HS' e2
      rw [← hSQ] at e1 e2 z3
      simp only [← hSP] at e1 z1 H1
      have hTl : T'.length ≤ 1000000000 + (k + 1) * 1000000100 := by rw [hT']; simp only [List.length_append, List.length_singleton]; have := HLN.out; omega
      have b1 : ¬ 9223372036854775807 < 1 + SP.size := by have := HLN.out; omega
      have b2 : ¬ 9223372036854775807 < (st T).size + SQ.size := by have := HLN.out; omega
      have hy2 : wr.cell? ⟨g, k, none⟩ = some (.int .i64 1) := hyc
      clear hy hyc hT' hSP hSQ hPe hP p32 z1 z2 z3 hPm
      go_wp2_with (first | (go_at_call 22; with_reducible refine H1.out.mono ?_; rintro e w2 ⟨rfl, hb⟩; have HB2 := Lib.hid (bel_on HBr.out HBrs.out hb); clear hb) | fail)
      go_roundg (n - (k + 1))
      case measure => omega
      case rel => exact ⟨k + 1, T', by omega, by go_num, rfl, by omega, hTl, HS', HB2⟩
    case' pos.inr.inr =>
      subst hq
      have hP : partI r 2 = pctI r.2.2.2 := rfl
      have hPl := HP.out 2
      have HS' : Hid ((f.take (k + 1)).foldl (fun s k => s ++ ([32] ++ partI r k)) r.1 = T ++ ([32] ++ pctI r.2.2.2)) := by show _ = _; rw [parts_step HFD.out hy, hP]
      rw [hP] at hPl
      have cf := HBXr.out.cell 3
      have H1 : Hid (Calls Tryd.prog 23 #[.int .i64 r.2.2.2] wr fun e w' => e = .returned (.string (st (pctI r.2.2.2))) ∧ Below wr.heap.size wr w') := percent_any r.2.2.2 wr HOK.out.2 HTr.out
      have hPm : (pctI r.2.2.2).length ≤ 1000000065 := by have := HLN.out; have := hPl; omega
      clear hPl
      obtain ⟨P, hPe⟩ : ∃ P, P = pctI r.2.2.2 := ⟨_, rfl⟩
      simp only [← hPe] at HS' hPm H1
      have e1 := st_append [32] P
      have e2 := st_append T ([32] ++ P)
      have z1 := st_size P
      have z2 := st_size T
      have z3 := st_size ([32] ++ P)
      have p32 : st [32] = ⟨#[32]⟩ := rfl
      rw [p32] at e1
      simp only [List.length_append, List.length_singleton] at z3
      obtain ⟨SP, hSP⟩ : ∃ S, S = st P := ⟨_, rfl⟩
      obtain ⟨SQ, hSQ⟩ : ∃ S, S = st ([32] ++ P) := ⟨_, rfl⟩
      obtain ⟨T', hT'⟩ : ∃ T', T' = T ++ ([32] ++ P) := ⟨_, rfl⟩
      rw [← hT'] at HS' e2
      rw [← hSQ] at e1 e2 z3
      simp only [← hSP] at e1 z1 H1
      have hTl : T'.length ≤ 1000000000 + (k + 1) * 1000000100 := by rw [hT']; simp only [List.length_append, List.length_singleton]; have := HLN.out; omega
      have b1 : ¬ 9223372036854775807 < 1 + SP.size := by have := HLN.out; omega
      have b2 : ¬ 9223372036854775807 < (st T).size + SQ.size := by have := HLN.out; omega
      have hy2 : wr.cell? ⟨g, k, none⟩ = some (.int .i64 2) := hyc
      clear hy hyc hT' hSP hSQ hPe hP p32 z1 z2 z3 hPm
      go_wp2_with (first | (go_at_call 23; with_reducible refine H1.out.mono ?_; rintro e w2 ⟨rfl, hb⟩; have HB2 := Lib.hid (bel_on HBr.out HBrs.out hb); clear hb) | fail)
      go_roundg (n - (k + 1))
      case measure => omega
      case rel => exact ⟨k + 1, T', by omega, by go_num, rfl, by omega, hTl, HS', HB2⟩
    case neg =>
      have e : k = n := by omega
      have hkn : ¬ ((k : Int) < (n : Int)) := by omega
      have HL2 : Hid (lineI r = T ++ [59, 10]) := by
        have h := HFD.out
        rw [List.take_of_length_le (by rw [← HN.out, e]; exact Nat.le_refl _)] at h
        show _ = _
        rw [HL.out, h]
      have q0 := st_append T [59, 10]
      have z0 := st_size T
      have p2 : st [59, 10] = ⟨#[59, 10]⟩ := rfl
      rw [p2] at q0
      obtain ⟨S1, hS1⟩ : ∃ S, S = st (T ++ [59, 10]) := ⟨_, rfl⟩
      have HS1 := Lib.hid hS1
      rw [← hS1] at q0
      have b1 : ¬ 9223372036854775807 < (st T).size + 2 := by omega
      clear hS1 p2 z0
      go_wp2
      go_ret
      refine ⟨?_, HB1.out.trans (bel_less HBr.out (by rw [HB1E.out]; exact HB1.out.size))⟩
      rw [HL2.out, ← HS1.out]
      rfl
end Go.Proofs.YtjegfoeempojiaaDoor
