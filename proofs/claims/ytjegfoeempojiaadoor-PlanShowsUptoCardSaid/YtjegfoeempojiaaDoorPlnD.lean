/-
  Contract of the document's Rule.
-/
import Derived.Test.YtjegfoeempojiaaDoorPlnS
import Derived.Deep.CutRange
import Derived.Deep.CutBlock
import Derived.BigQuiet
namespace Go.Proofs.YtjegfoeempojiaaDoor
open Go.RowKit Go.Maps

/-- a kind of parts, as a letter -/
def chr (k : Nat) : UInt8 := if k = 0 then 110 else if k = 1 then 107 else if k = 2 then 114 else 59
theorem chr_inj {a b : Nat} (ha : a ≤ 3) (hb : b ≤ 3) (h : chr a = chr b) : a = b := by
  have e : ∀ a b : Fin 4, chr a = chr b → a = b := by decide
  have := e ⟨a, by omega⟩ ⟨b, by omega⟩ h
  exact congrArg Fin.val this
theorem chrs_inj : ∀ {a b : List Nat}, (∀ x ∈ a, x ≤ 3) → (∀ x ∈ b, x ≤ 3) → a.map chr = b.map chr → a = b
  | [], [], _, _, _ => rfl
  | [], _ :: _, _, _, h => by simp at h
  | _ :: _, [], _, _, h => by simp at h
  | x :: a, y :: b, ha, hb, h => by
    simp only [List.map_cons, List.cons.injEq] at h
    rw [chr_inj (ha x List.mem_cons_self) (hb y List.mem_cons_self) h.1, chrs_inj (fun z hz => ha z (List.mem_cons_of_mem _ hz)) (fun z hz => hb z (List.mem_cons_of_mem _ hz)) h.2]

/-- the rule of tokens, as the document has it -/
def ruleD (ts : Tks) : Option Rl :=
  match ts with
  | [] => none
  | t :: r => ruleL t.1 (r.map (·.1))

/-- what tokens may be here -/
structure TokOk (ts : Tks) : Prop where
  le : ∀ (i : Nat) (t : Tk × Nat), ts[i]? = some t → t.1.1 ≤ 3
  name : ∀ (i : Nat) (t : Tk × Nat), ts[i]? = some t → t.1.1 ≠ 0 → formL t.1.2.1 = none
  short : ∀ (i : Nat) (t : Tk × Nat), ts[i]? = some t → t.1.2.1.length ≤ 1000000000

theorem ruleL_nil (t : Tk) : ruleL t [] = none := by
  unfold ruleL
  cases hf : formL t.2.1 with
  | none => rfl
  | some f =>
    show (if [] = f then _ else none) = none
    rw [if_neg]
    intro e
    have := (formL_len hf).1
    rw [← e] at this
    simp at this

theorem lit_eq (k L : List UInt8) : ((st k).toList == L) = decide (k = L) := by
  rw [Go.Lib.toList_data, st_toList]
  by_cases h : k = L
  · subst h; simp
  · rw [decide_eq_false h, beq_eq_false_iff_ne]; exact h

/-- the letters, on the way -/
theorem chr_step {ts : Tks} {k : Nat} {t : Tk × Nat} {K : List UInt8} (h : (((ts.drop 1).take k).map (·.1.1)).map chr = K) (ht : ts[k + 1]? = some t) : (((ts.drop 1).take (k + 1)).map (·.1.1)).map chr = K ++ [chr t.1.1] := by
  have h2 : (ts.drop 1)[k]? = some t := by rw [List.getElem?_drop, Nat.add_comm]; exact ht
  obtain ⟨h3, h4⟩ := List.getElem?_eq_some_iff.1 h2
  rw [List.take_succ_eq_append_getElem h3, h4, List.map_append, List.map_append, h]; rfl

theorem bel_drewM {B n : Nat} {w w' : World} (h : Below B w w') : Below B w (w'.drewN n) := ⟨h.os, h.tape, h.output, h.size, h.block⟩

set_option maxHeartbeats 4000000 in
set_option maxRecDepth 100000 in
theorem rrule_any (a : Option Addr) (c : Nat) (ts : Tks) (w : World) (hr : RowK tkC w a ts) (hl : ts.length ≤ 1000000000) (hok : TokOk ts) :
    Calls Tryd.prog 27 #[.slice a ts.length c] w fun e w' => e = .returned (rlR (ruleD ts)) ∧ Below w.heap.size w w' := by
  obtain ⟨n, hn⟩ : ∃ n, n = ts.length := ⟨_, rfl⟩
  have HN := Lib.hid hn
  have HR := Lib.hid hr
  have HOK := Lib.hid hok
  rw [← hn] at hl ⊢
  clear hn hr hok
  by_cases h2 : n < 2
  · have HRES : Hid (ruleD ts = none) := by
      show _ = _
      match ts, HN.out with
      | [], _ => rfl
      | [t], _ => exact ruleL_nil t.1
      | _ :: _ :: _, h => simp only [List.length_cons] at h; omega
    have k1 : (n : Int) < 2 := by omega
    go_enter Tryd.func27, Tryd.ntmps27
    go_wp2
    refine bodyPost_ret (rule_ret rfl w.heap.size rfl ([], [], 0, 0) _ false (heap_alloc_new _ _) rfl) rfl ⟨?_, (Below.refl w.heap.size w).alloc (Nat.le_refl _) _⟩
    rw [HRES.out]
    rfl
  have k1 : ¬ ((n : Int) < 2) := by omega
  obtain ⟨t, ht⟩ : ∃ t, ts[0]? = some t := ⟨_, List.getElem?_eq_getElem (by rw [← HN.out]; omega)⟩
  obtain ⟨b, off, rfl⟩ := HR.out.form (by rw [← HN.out]; omega)
  have hcs := (HR.out.alloc (.cells #[.string ⟨#[]⟩, .string ⟨#[]⟩, .int .i64 0, .int .i64 0] 24)).at ht
  have hts : ts = t :: ts.drop 1 := by
    cases ts with
    | nil => cases ht
    | cons x r => injection ht with ht; rw [ht]; rfl
  have HRD : Hid (ruleD ts = ruleL t.1 ((ts.drop 1).map (·.1))) := by
    show _ = _
    conv => lhs; rw [hts]
    rfl
  have c0 : (w.alloc (.cells #[.string ⟨#[]⟩, .string ⟨#[]⟩, .int .i64 0, .int .i64 0] 24)).cell? ⟨b, off, none⟩ = some (.int .i64 (t.1.1 : Int)) := by simpa using hcs 0 _ rfl
  have c1 : (w.alloc (.cells #[.string ⟨#[]⟩, .string ⟨#[]⟩, .int .i64 0, .int .i64 0] 24)).cell? ⟨b, off + 1, none⟩ = some (.string (st t.1.2.1)) := by simpa using hcs 1 _ rfl
  have hn0 : (0 : Int) < (n : Int) := by omega
  clear hcs hts
  by_cases hq : t.1.1 = 0
  case neg =>
    have HRES : Hid (ruleD ts = none) := by show _ = _; rw [HRD.out]; unfold ruleL; rw [HOK.out.name 0 t ht hq]
    have k2 : ((t.1.1 : Int) == 0) = false := by rw [beq_eq_false_iff_ne]; omega
    clear ht hq c1
    go_enter Tryd.func27, Tryd.ntmps27
    go_wp2
    refine bodyPost_ret (rule_ret rfl w.heap.size rfl ([], [], 0, 0) _ false (heap_alloc_new _ _) rfl) rfl ⟨?_, (Below.refl w.heap.size w).alloc (Nat.le_refl _) _⟩
    rw [HRES.out]
    rfl
  rw [hq] at c0
  have HTX : Hid (t.1.2.1.length ≤ 1000000000) := HOK.out.short 0 t ht
  obtain ⟨kk, hkk⟩ : ∃ kk, kk = t.1.2.1 := ⟨_, rfl⟩
  rw [← hkk] at c1
  have HKK := Lib.hid hkk
  clear ht hq hkk
  go_enter Tryd.func27, Tryd.ntmps27
  go_wp2
  have hz1 : Blk ((w.alloc (.cells #[.string ⟨#[]⟩, .string ⟨#[]⟩, .int .i64 0, .int .i64 0] 24)).alloc (.cells #[.string (st kk), .string ⟨#[]⟩, .int .i64 0, .int .i64 0] 24)) w.heap.size 24 #[.string ⟨#[]⟩, .string ⟨#[]⟩, .int .i64 0, .int .i64 0] := (Blk.new w _ _).alloc _
  have hz2 : Blk ((w.alloc (.cells #[.string ⟨#[]⟩, .string ⟨#[]⟩, .int .i64 0, .int .i64 0] 24)).alloc (.cells #[.string (st kk), .string ⟨#[]⟩, .int .i64 0, .int .i64 0] 24)) (w.heap.size + 1) 24 #[.string (st kk), .string ⟨#[]⟩, .int .i64 0, .int .i64 0] := by
    have := Blk.new (w.alloc (.cells #[.string ⟨#[]⟩, .string ⟨#[]⟩, .int .i64 0, .int .i64 0] 24)) 24 #[.string (st kk), .string ⟨#[]⟩, .int .i64 0, .int .i64 0]
    simpa using this
  have hz3 : Below w.heap.size w ((w.alloc (.cells #[.string ⟨#[]⟩, .string ⟨#[]⟩, .int .i64 0, .int .i64 0] 24)).alloc (.cells #[.string (st kk), .string ⟨#[]⟩, .int .i64 0, .int .i64 0] 24)) := ((Below.refl _ w).alloc (Nat.le_refl _) _).alloc (by simp) _
  clear c0 c1
  generalize (w.alloc (.cells #[.string ⟨#[]⟩, .string ⟨#[]⟩, .int .i64 0, .int .i64 0] 24)).alloc (.cells #[.string (st kk), .string ⟨#[]⟩, .int .i64 0, .int .i64 0] 24) = w0 at hz1 hz2 hz3 ⊢
  have HZ1 := Lib.hid hz1
  have HZ2 := Lib.hid hz2
  have HZ3 := Lib.hid hz3
  have HR0 : Hid (RowK tkC w0 (some ⟨b, off, none⟩) ts) := HR.out.keep hz3
  clear hz1 hz2 hz3
  have hn1 : 1 ≤ n := by omega
  go_loopg [5, 6] n (fun gk sv iv wr => ∃ (i : Nat) (K : List UInt8), 1 ≤ i ∧ i ≤ n ∧ iv = .int .i64 i ∧ sv = .string (st K) ∧ n - i ≤ gk ∧ K.length ≤ i ∧ Hid ((((ts.drop 1).take (i - 1)).map (·.1.1)).map chr = K) ∧ Hid (Below w0.heap.size w0 wr))
  case atStart => exact ⟨1, [], Nat.le_refl _, hn1, rfl, rfl, by omega, by simp, rfl, Below.refl _ _⟩
  case round =>
   obtain ⟨i, K, hi1, hin, rfl, rfl, hgk, hKl, HK, HB⟩ := hrel
   by_cases hlt : i < n
   case' pos =>
    obtain ⟨y, hy⟩ : ∃ y, ts[i]? = some y := ⟨_, List.getElem?_eq_getElem (by rw [← HN.out]; exact hlt)⟩
    have hcs := (HR0.out.keep HB.out).at hy
    have hkz : (0 : Int) ≤ (i : Int) := by omega
    have hkn : (i : Int) < (n : Int) := by omega
    have HST : Hid ((((ts.drop 1).take (i + 1 - 1)).map (·.1.1)).map chr = K ++ [chr y.1.1]) := by
      have := chr_step (k := i - 1) HK.out (t := y) (by rw [show i - 1 + 1 = i by omega]; exact hy)
      rw [show i - 1 + 1 = i + 1 - 1 by omega] at this
      exact this
    have hq3 : y.1.1 = 0 ∨ y.1.1 = 1 ∨ y.1.1 = 2 ∨ y.1.1 = 3 := by have := HOK.out.le i y hy; omega
    rcases hq3 with hq | hq | hq | hq
   case' pos.inl =>
     have e0 : wr.cell? ⟨b, off + i * 4, none⟩ = some (.int .i64 0) := by have := hcs 0 _ rfl; rw [hq] at this; simpa using this
     have hxt : (⟨#[110, 107, 114, 59]⟩ : ByteArray).extract 0 1 = st [chr 0] := rfl
     rw [hq] at HST
     have e2 := st_append K [chr 0]
     have z1 := st_size K
     have z2 : (st [chr 0]).size = 1 := rfl
     obtain ⟨X, hX⟩ : ∃ X, X = st [chr 0] := ⟨_, rfl⟩
     rw [← hX] at e2 hxt z2
     have b1 : ¬ 9223372036854775807 < (st K).size + X.size := by omega
     clear hcs hq hX hy
     go_wp2
     go_quiet (fail)
     go_wp2
     go_roundg (n - (i + 1))
     case measure => omega
     case rel => exact ⟨i + 1, K ++ [chr 0], by omega, by omega, by go_num, rfl, by omega, by rw [List.length_append, List.length_singleton]; omega, HST, bel_drewM HB.out⟩
   case' pos.inr.inl =>
     have e0 : wr.cell? ⟨b, off + i * 4, none⟩ = some (.int .i64 1) := by have := hcs 0 _ rfl; rw [hq] at this; simpa using this
     have hxt : (⟨#[110, 107, 114, 59]⟩ : ByteArray).extract 1 2 = st [chr 1] := rfl
     rw [hq] at HST
     have e2 := st_append K [chr 1]
     have z1 := st_size K
     have z2 : (st [chr 1]).size = 1 := rfl
     obtain ⟨X, hX⟩ : ∃ X, X = st [chr 1] := ⟨_, rfl⟩
     rw [← hX] at e2 hxt z2
     have b1 : ¬ 9223372036854775807 < (st K).size + X.size := by omega
     clear hcs hq hX hy
     go_wp2
     go_quiet (fail)
     go_wp2
     go_roundg (n - (i + 1))
     case measure => omega
     case rel => exact ⟨i + 1, K ++ [chr 1], by omega, by omega, by go_num, rfl, by omega, by rw [List.length_append, List.length_singleton]; omega, HST, bel_drewM HB.out⟩
   case' pos.inr.inr.inl =>
     have e0 : wr.cell? ⟨b, off + i * 4, none⟩ = some (.int .i64 2) := by have := hcs 0 _ rfl; rw [hq] at this; simpa using this
     have hxt : (⟨#[110, 107, 114, 59]⟩ : ByteArray).extract 2 3 = st [chr 2] := rfl
     rw [hq] at HST
     have e2 := st_append K [chr 2]
     have z1 := st_size K
     have z2 : (st [chr 2]).size = 1 := rfl
     obtain ⟨X, hX⟩ : ∃ X, X = st [chr 2] := ⟨_, rfl⟩
     rw [← hX] at e2 hxt z2
     have b1 : ¬ 9223372036854775807 < (st K).size + X.size := by omega
     clear hcs hq hX hy
     go_wp2
     go_quiet (fail)
     go_wp2
     go_roundg (n - (i + 1))
     case measure => omega
     case rel => exact ⟨i + 1, K ++ [chr 2], by omega, by omega, by go_num, rfl, by omega, by rw [List.length_append, List.length_singleton]; omega, HST, bel_drewM HB.out⟩
   case' pos.inr.inr.inr =>
     have e0 : wr.cell? ⟨b, off + i * 4, none⟩ = some (.int .i64 3) := by have := hcs 0 _ rfl; rw [hq] at this; simpa using this
     have hxt : (⟨#[110, 107, 114, 59]⟩ : ByteArray).extract 3 4 = st [chr 3] := rfl
     rw [hq] at HST
     have e2 := st_append K [chr 3]
     have z1 := st_size K
     have z2 : (st [chr 3]).size = 1 := rfl
     obtain ⟨X, hX⟩ : ∃ X, X = st [chr 3] := ⟨_, rfl⟩
     rw [← hX] at e2 hxt z2
     have b1 : ¬ 9223372036854775807 < (st K).size + X.size := by omega
     clear hcs hq hX hy
     go_wp2
     go_quiet (fail)
     go_wp2
     go_roundg (n - (i + 1))
     case measure => omega
     case rel => exact ⟨i + 1, K ++ [chr 3], by omega, by omega, by go_num, rfl, by omega, by rw [List.length_append, List.length_singleton]; omega, HST, bel_drewM HB.out⟩

   case' neg =>
    have e : i = n := by omega
    have hkn : ¬ ((i : Int) < (n : Int)) := by omega
    have HK2 : Hid (((ts.drop 1).map (·.1.1)).map chr = K) := by
      have := HK.out
      rw [List.take_of_length_le (by rw [List.length_drop, ← HN.out]; omega)] at this
      exact this
    have HZ1r := Lib.hid (HZ1.out.since HB.out)
    have HZ2r := Lib.hid (HZ2.out.since HB.out)
    have HB3 := Lib.hid (bel_on HZ3.out HZ3.out.size HB.out)
    have r0 := HZ2r.out.cell 0
    clear HK HB HZ1 HZ2 HZ3 e
    obtain ⟨W, hW⟩ : ∃ W, W = ((formL kk).getD []).map chr := ⟨_, rfl⟩
    have HWW := Lib.hid hW
    clear hW
    go_upto_block 2 with fail
    go_cut [7] from 45 to 56 (fun wv wx => wv = .string (st W) ∧ wx = wr)
    case first =>
      have q1 := lit_eq kk [116, 105, 101, 114]
      have q2 := lit_eq kk [99, 97, 116, 101, 103, 111, 114, 121]
      have q3 := lit_eq kk [99, 97, 112]
      have q4 := lit_eq kk [109, 105, 110, 105, 109, 117, 109]
      have q5 := lit_eq kk [116, 97, 120]
      have q6 := lit_eq kk [114, 101, 115, 101, 114, 118, 101]
      rcases formL_six kk with ⟨e, h⟩ | ⟨e, h⟩ | ⟨e, h⟩ | ⟨e, h⟩ | ⟨e, h⟩ | ⟨e, h⟩ | ⟨h, g1, g2, g3, g4, g5, g6⟩
      · have HX : Hid (W = [107, 114]) := by show _ = _; rw [HWW.out, h]; rfl
        subst e
        have p1 : ((st kTier).toList == [116, 105, 101, 114]) = true := by rw [q1]; decide
        have p2 : ((st kTier).toList == [99, 97, 116, 101, 103, 111, 114, 121]) = false := by rw [q2]; decide
        have p3 : ((st kTier).toList == [99, 97, 112]) = false := by rw [q3]; decide
        have p4 : ((st kTier).toList == [109, 105, 110, 105, 109, 117, 109]) = false := by rw [q4]; decide
        have p5 : ((st kTier).toList == [116, 97, 120]) = false := by rw [q5]; decide
        have p6 : ((st kTier).toList == [114, 101, 115, 101, 114, 118, 101]) = false := by rw [q6]; decide
        clear q1 q2 q3 q4 q5 q6 h
        go_wp2
        go_meet
        exact ⟨by rw [HX.out]; rfl, rfl⟩
      · have HX : Hid (W = [110, 114]) := by show _ = _; rw [HWW.out, h]; rfl
        subst e
        have p1 : ((st kCat).toList == [116, 105, 101, 114]) = false := by rw [q1]; decide
        have p2 : ((st kCat).toList == [99, 97, 116, 101, 103, 111, 114, 121]) = true := by rw [q2]; decide
        have p3 : ((st kCat).toList == [99, 97, 112]) = false := by rw [q3]; decide
        have p4 : ((st kCat).toList == [109, 105, 110, 105, 109, 117, 109]) = false := by rw [q4]; decide
        have p5 : ((st kCat).toList == [116, 97, 120]) = false := by rw [q5]; decide
        have p6 : ((st kCat).toList == [114, 101, 115, 101, 114, 118, 101]) = false := by rw [q6]; decide
        clear q1 q2 q3 q4 q5 q6 h
        go_wp2
        go_meet
        exact ⟨by rw [HX.out]; rfl, rfl⟩
      · have HX : Hid (W = [107]) := by show _ = _; rw [HWW.out, h]; rfl
        subst e
        have p1 : ((st kCap).toList == [116, 105, 101, 114]) = false := by rw [q1]; decide
        have p2 : ((st kCap).toList == [99, 97, 116, 101, 103, 111, 114, 121]) = false := by rw [q2]; decide
        have p3 : ((st kCap).toList == [99, 97, 112]) = true := by rw [q3]; decide
        have p4 : ((st kCap).toList == [109, 105, 110, 105, 109, 117, 109]) = false := by rw [q4]; decide
        have p5 : ((st kCap).toList == [116, 97, 120]) = false := by rw [q5]; decide
        have p6 : ((st kCap).toList == [114, 101, 115, 101, 114, 118, 101]) = false := by rw [q6]; decide
        clear q1 q2 q3 q4 q5 q6 h
        go_wp2
        go_meet
        exact ⟨by rw [HX.out]; rfl, rfl⟩
      · have HX : Hid (W = [107]) := by show _ = _; rw [HWW.out, h]; rfl
        subst e
        have p1 : ((st kMin).toList == [116, 105, 101, 114]) = false := by rw [q1]; decide
        have p2 : ((st kMin).toList == [99, 97, 116, 101, 103, 111, 114, 121]) = false := by rw [q2]; decide
        have p3 : ((st kMin).toList == [99, 97, 112]) = false := by rw [q3]; decide
        have p4 : ((st kMin).toList == [109, 105, 110, 105, 109, 117, 109]) = true := by rw [q4]; decide
        have p5 : ((st kMin).toList == [116, 97, 120]) = false := by rw [q5]; decide
        have p6 : ((st kMin).toList == [114, 101, 115, 101, 114, 118, 101]) = false := by rw [q6]; decide
        clear q1 q2 q3 q4 q5 q6 h
        go_wp2
        go_meet
        exact ⟨by rw [HX.out]; rfl, rfl⟩
      · have HX : Hid (W = [114]) := by show _ = _; rw [HWW.out, h]; rfl
        subst e
        have p1 : ((st kTax).toList == [116, 105, 101, 114]) = false := by rw [q1]; decide
        have p2 : ((st kTax).toList == [99, 97, 116, 101, 103, 111, 114, 121]) = false := by rw [q2]; decide
        have p3 : ((st kTax).toList == [99, 97, 112]) = false := by rw [q3]; decide
        have p4 : ((st kTax).toList == [109, 105, 110, 105, 109, 117, 109]) = false := by rw [q4]; decide
        have p5 : ((st kTax).toList == [116, 97, 120]) = true := by rw [q5]; decide
        have p6 : ((st kTax).toList == [114, 101, 115, 101, 114, 118, 101]) = false := by rw [q6]; decide
        clear q1 q2 q3 q4 q5 q6 h
        go_wp2
        go_meet
        exact ⟨by rw [HX.out]; rfl, rfl⟩
      · have HX : Hid (W = [114, 107]) := by show _ = _; rw [HWW.out, h]; rfl
        subst e
        have p1 : ((st kRes).toList == [116, 105, 101, 114]) = false := by rw [q1]; decide
        have p2 : ((st kRes).toList == [99, 97, 116, 101, 103, 111, 114, 121]) = false := by rw [q2]; decide
        have p3 : ((st kRes).toList == [99, 97, 112]) = false := by rw [q3]; decide
        have p4 : ((st kRes).toList == [109, 105, 110, 105, 109, 117, 109]) = false := by rw [q4]; decide
        have p5 : ((st kRes).toList == [116, 97, 120]) = false := by rw [q5]; decide
        have p6 : ((st kRes).toList == [114, 101, 115, 101, 114, 118, 101]) = true := by rw [q6]; decide
        clear q1 q2 q3 q4 q5 q6 h
        go_wp2
        go_meet
        exact ⟨by rw [HX.out]; rfl, rfl⟩
      · have HX : Hid (W = []) := by show _ = _; rw [HWW.out, h]; rfl
        have p1 : ((st kk).toList == [116, 105, 101, 114]) = false := by rw [q1]; exact decide_eq_false g1
        have p2 : ((st kk).toList == [99, 97, 116, 101, 103, 111, 114, 121]) = false := by rw [q2]; exact decide_eq_false g2
        have p3 : ((st kk).toList == [99, 97, 112]) = false := by rw [q3]; exact decide_eq_false g3
        have p4 : ((st kk).toList == [109, 105, 110, 105, 109, 117, 109]) = false := by rw [q4]; exact decide_eq_false g4
        have p5 : ((st kk).toList == [116, 97, 120]) = false := by rw [q5]; exact decide_eq_false g5
        have p6 : ((st kk).toList == [114, 101, 115, 101, 114, 118, 101]) = false := by rw [q6]; exact decide_eq_false g6
        clear q1 q2 q3 q4 q5 q6 h g1 g2 g3 g4 g5 g6
        go_wp2
        go_meet
        exact ⟨by rw [HX.out]; rfl, rfl⟩
    case rest =>
      obtain ⟨rfl, rfl⟩ := hcut
      have f0 := HZ1r.out.frozen 0
      have f1 := HZ1r.out.frozen 1
      have f2 := HZ1r.out.frozen 2
      have f3 := HZ1r.out.frozen 3
      have d0 := HZ1r.out.cell 0
      have d1 := HZ1r.out.cell 1
      have d2 := HZ1r.out.cell 2
      have d3 := HZ1r.out.cell 3
      cases hf : formL kk with
      | none =>
        have HX : Hid (W = []) := by show _ = _; rw [HWW.out, hf]; rfl
        have HRES : Hid (ruleD ts = none) := by show _ = _; rw [HRD.out]; unfold ruleL; rw [← HKK.out, hf]
        have hem : (st W).toList.isEmpty = true := by rw [HX.out, Go.Lib.toList_data, st_toList]; rfl
        clear hf
        go_wp2
        refine bodyPost_ret (rule_ret rfl w.heap.size rfl ([], [], 0, 0) _ false ((((HZ1r.out.set 0 _).set 1 _).set 2 _).set 3 _) rfl) rfl ⟨?_, ?_⟩
        · rw [HRES.out]; rfl
        · exact (((HB3.out.setCell (Nat.le_refl _) _).setCell (Nat.le_refl _) _).setCell (Nat.le_refl _) _).setCell (Nat.le_refl _) _
      | some f =>
        have hfl := formL_len hf
        have HX : Hid (W = f.map chr) := by show _ = _; rw [HWW.out, hf]; rfl
        have hem : (st W).toList.isEmpty = false := by
          rw [HX.out, Go.Lib.toList_data, st_toList]
          cases f with
          | nil => simp at hfl
          | cons x g => rfl
        have HRES0 : Hid (ruleD ts = if (ts.drop 1).map (·.1.1) = f then some (((ts.drop 1).map (·.1)).foldl fill (kk, [], 0, 0)) else none) := by
          show _ = _
          rw [HRD.out]
          unfold ruleL
          rw [← HKK.out, hf]
          simp only [List.map_map]
          rfl
        have HIN : Hid (K = W ↔ (ts.drop 1).map (·.1.1) = f) := by
          show _ ↔ _
          rw [← HK2.out, HX.out]
          constructor
          · intro h
            refine chrs_inj (fun x hx => ?_) (fun x hx => Nat.le_trans (hfl.2.2.1 x hx) (by decide)) h
            obtain ⟨y, hy, rfl⟩ := List.mem_map.1 hx
            obtain ⟨i', hi', hy2⟩ := List.getElem_of_mem (List.mem_of_mem_drop hy)
            exact HOK.out.le i' y (by rw [← hy2]; exact List.getElem?_eq_getElem hi')
          · intro h; rw [h]
        have HFL := Lib.hid hfl
        clear hf hfl
        by_cases hKW : K = W
        case' neg =>
          have HRES : Hid (ruleD ts = none) := by show _ = _; rw [HRES0.out, if_neg (fun h => hKW (HIN.out.2 h))]
          have hne := st_neb hKW
          clear hKW
          go_wp2
          refine bodyPost_ret (rule_ret rfl w.heap.size rfl ([], [], 0, 0) _ false ((((HZ1r.out.set 0 _).set 1 _).set 2 _).set 3 _) rfl) rfl ⟨?_, ?_⟩
          · rw [HRES.out]; rfl
          · exact (((HB3.out.setCell (Nat.le_refl _) _).setCell (Nat.le_refl _) _).setCell (Nat.le_refl _) _).setCell (Nat.le_refl _) _
        case' pos =>
          have hFf := HIN.out.1 hKW
          have HRES : Hid (ruleD ts = some (((ts.drop 1).map (·.1)).foldl fill (kk, [], 0, 0))) := by show _ = _; rw [HRES0.out, if_pos hFf]
          have HKD : Hid (KindsLe (ts.drop 1)) := by
            intro i' x hx
            refine HFL.out.2.2.1 _ ?_
            rw [← hFf]
            exact List.mem_map.2 ⟨x, List.mem_of_getElem? hx, rfl⟩
          subst hKW
          clear hFf HX HRES0 HIN HK2 HWW f0 f1 f2 f3 d0 d1 d2 d3 r0
          go_wp2
          go_loopg [8] n (fun gk iv wr2 => ∃ (i2 : Nat) (k2 nm : List UInt8) (N R : Int), 1 ≤ i2 ∧ i2 ≤ n ∧ iv = .int .i64 i2 ∧ n - i2 ≤ gk ∧ Hid ((((ts.drop 1).map (·.1)).take (i2 - 1)).foldl fill (kk, [], 0, 0) = (k2, nm, N, R)) ∧ Hid (Blk wr2 (w.heap.size + 1) 24 #[.string (st k2), .string (st nm), .int .i64 N, .int .i64 R]) ∧ Hid (Blk wr2 w.heap.size 24 #[.string ⟨#[]⟩, .string ⟨#[]⟩, .int .i64 0, .int .i64 0]) ∧ Hid (Below w.heap.size w wr2))
          case atStart => exact ⟨1, kk, [], 0, 0, Nat.le_refl _, hn1, rfl, by omega, rfl, HZ2r, HZ1r, HB3⟩
          case round =>
            clear HZ2r HZ1r HB3
            obtain ⟨i2, k2, nm, N, R, hi1, hin, rfl, hgk, HFD, HBR, HRCr, HBr⟩ := hrel
            by_cases hlt : i2 < n
            case' pos =>
              obtain ⟨y, hy⟩ : ∃ y, ts[i2]? = some y := ⟨_, List.getElem?_eq_getElem (by rw [← HN.out]; exact hlt)⟩
              have hcs := (HR.out.keep HBr.out).at hy
              have hkz : (0 : Int) ≤ (i2 : Int) := by omega
              have hkn : (i2 : Int) < (n : Int) := by omega
              have hq3 : y.1.1 = 0 ∨ y.1.1 = 1 ∨ y.1.1 = 2 := by have := HKD.out (i2 - 1) y (by rw [List.getElem?_drop, show 1 + (i2 - 1) = i2 by omega]; exact hy); omega
              rcases hq3 with hq | hq | hq
            case' pos.inl =>
              have c0 : wr.cell? ⟨b, off + i2 * 4, none⟩ = some (.int .i64 0) := by have := hcs 0 _ rfl; rw [hq] at this; simpa using this
              have c1 := hcs 1 _ rfl
              have c2 := hcs 2 _ rfl
              have dj := HBR.out.cell 1
              have gj := HBR.out.frozen 1
              have HF2 : Hid ((((ts.drop 1).map (·.1)).take (i2 + 1 - 1)).foldl fill (kk, [], 0, 0) = (k2, y.1.2.1, N, R)) := by
                have := fill_step HFD.out (t := y.1) (by rw [List.getElem?_map, List.getElem?_drop, show 1 + (i2 - 1) = i2 by omega, hy]; rfl)
                rw [show i2 - 1 + 1 = i2 + 1 - 1 by omega] at this
                show _ = _
                rw [this]
                unfold fill
                rw [hq]
                rfl
              clear hcs hq hy
              go_wp2
              go_roundg (n - (i2 + 1))
              case measure => omega
              case rel => exact ⟨i2 + 1, k2, y.1.2.1, N, R, by omega, by omega, by go_num, by omega, HF2, Lib.hid (HBR.out.set 1 _), Lib.hid (HRCr.out.other (by show w.heap.size ≠ w.heap.size + 1; omega) _), Lib.hid (HBr.out.setCell (Nat.le_succ _) _)⟩
            case' pos.inr.inl =>
              have c0 : wr.cell? ⟨b, off + i2 * 4, none⟩ = some (.int .i64 1) := by have := hcs 0 _ rfl; rw [hq] at this; simpa using this
              have c1 := hcs 1 _ rfl
              have c2 := hcs 2 _ rfl
              have dj := HBR.out.cell 2
              have gj := HBR.out.frozen 2
              have HF2 : Hid ((((ts.drop 1).map (·.1)).take (i2 + 1 - 1)).foldl fill (kk, [], 0, 0) = (k2, nm, (y.1.2.2 : Int), R)) := by
                have := fill_step HFD.out (t := y.1) (by rw [List.getElem?_map, List.getElem?_drop, show 1 + (i2 - 1) = i2 by omega, hy]; rfl)
                rw [show i2 - 1 + 1 = i2 + 1 - 1 by omega] at this
                show _ = _
                rw [this]
                unfold fill
                rw [hq]
                rfl
              clear hcs hq hy
              go_wp2
              go_roundg (n - (i2 + 1))
              case measure => omega
              case rel => exact ⟨i2 + 1, k2, nm, (y.1.2.2 : Int), R, by omega, by omega, by go_num, by omega, HF2, Lib.hid (HBR.out.set 2 _), Lib.hid (HRCr.out.other (by show w.heap.size ≠ w.heap.size + 1; omega) _), Lib.hid (HBr.out.setCell (Nat.le_succ _) _)⟩
            case' pos.inr.inr =>
              have c0 : wr.cell? ⟨b, off + i2 * 4, none⟩ = some (.int .i64 2) := by have := hcs 0 _ rfl; rw [hq] at this; simpa using this
              have c1 := hcs 1 _ rfl
              have c2 := hcs 2 _ rfl
              have dj := HBR.out.cell 3
              have gj := HBR.out.frozen 3
              have HF2 : Hid ((((ts.drop 1).map (·.1)).take (i2 + 1 - 1)).foldl fill (kk, [], 0, 0) = (k2, nm, N, (y.1.2.2 : Int))) := by
                have := fill_step HFD.out (t := y.1) (by rw [List.getElem?_map, List.getElem?_drop, show 1 + (i2 - 1) = i2 by omega, hy]; rfl)
                rw [show i2 - 1 + 1 = i2 + 1 - 1 by omega] at this
                show _ = _
                rw [this]
                unfold fill
                rw [hq]
                rfl
              clear hcs hq hy
              go_wp2
              go_roundg (n - (i2 + 1))
              case measure => omega
              case rel => exact ⟨i2 + 1, k2, nm, N, (y.1.2.2 : Int), by omega, by omega, by go_num, by omega, HF2, Lib.hid (HBR.out.set 3 _), Lib.hid (HRCr.out.other (by show w.heap.size ≠ w.heap.size + 1; omega) _), Lib.hid (HBr.out.setCell (Nat.le_succ _) _)⟩
            case neg =>
              have e : i2 = n := by omega
              have HFD2 : Hid (((ts.drop 1).map (·.1)).foldl fill (kk, [], 0, 0) = (k2, nm, N, R)) := by
                have := HFD.out
                rw [List.take_of_length_le (by rw [List.length_map, List.length_drop, ← HN.out, e]; exact Nat.le_refl _)] at this
                exact this
              have hkn : ¬ ((i2 : Int) < (n : Int)) := by omega
              have c0 := HBR.out.cell 0
              have c1 := HBR.out.cell 1
              have c2 := HBR.out.cell 2
              have c3 := HBR.out.cell 3
              have d0 := HRCr.out.cell 0
              have d1 := HRCr.out.cell 1
              have d2 := HRCr.out.cell 2
              have d3 := HRCr.out.cell 3
              have f0 := HRCr.out.frozen 0
              have f1 := HRCr.out.frozen 1
              have f2 := HRCr.out.frozen 2
              have f3 := HRCr.out.frozen 3
              clear HFD e
              go_wp2
              refine bodyPost_ret (rule_ret rfl w.heap.size rfl (k2, nm, N, R) _ true ((((HRCr.out.set 0 _).set 1 _).set 2 _).set 3 _) rfl) rfl ⟨?_, ?_⟩
              · rw [HRES.out, HFD2.out]; rfl
              · exact (((HBr.out.setCell (Nat.le_refl _) _).setCell (Nat.le_refl _) _).setCell (Nat.le_refl _) _).setCell (Nat.le_refl _) _
end Go.Proofs.YtjegfoeempojiaaDoor
