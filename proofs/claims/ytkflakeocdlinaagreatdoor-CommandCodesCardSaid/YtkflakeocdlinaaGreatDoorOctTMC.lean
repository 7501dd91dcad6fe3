/-
  Contract of soukref03.Take.
-/
import Derived.Test.YtkflakeocdlinaaGreatDoorOctEMC
import Derived.SizedLaws
import Derived.Laws.OwnMore
import Derived.Test.YtkflakeocdlinaaGreatDoorMC03
namespace Go.Proofs.YtkflakeocdlinaaGreatDoor
open Go.RowKit

/-- one asking: what it answers, what is left, whether there are too few -/
def vI (t : Bool) (l : List UInt8) : Itm := if t then ⟨true, 0, tt l⟩ else ⟨false, sg (numL (tk 8 l)), []⟩
def vL (t : Bool) (l : List UInt8) : List UInt8 := if t then tl l else lf 8 l
def vC (t : Bool) (l : List UInt8) : Bool := if t then tc l else decide (l.length < 8)

def stS (l0 : List UInt8) (ts : List Bool) : List UInt8 × Bool := ts.foldl (fun s t => (vL t s.1, s.2 || vC t s.1)) (l0, false)
def itS (l0 : List UInt8) (ts : List Bool) : List Itm := (List.range ts.length).map fun k => vI (ts.getD k false) (stS l0 (ts.take k)).1

theorem stS_succ {l0 : List UInt8} {ts : List Bool} {k : Nat} {t : Bool} (h : ts[k]? = some t) : stS l0 (ts.take (k + 1)) = (vL t (stS l0 (ts.take k)).1, (stS l0 (ts.take k)).2 || vC t (stS l0 (ts.take k)).1) := by
  obtain ⟨hlt, he⟩ := List.getElem?_eq_some_iff.1 h
  unfold stS
  rw [List.take_succ_eq_append_getElem hlt, List.foldl_append, he]
  rfl

theorem itS_length (l0 : List UInt8) (ts : List Bool) : (itS l0 ts).length = ts.length := by simp [itS]
theorem itS_get {l0 : List UInt8} {ts : List Bool} {k : Nat} {t : Bool} (h : ts[k]? = some t) : (itS l0 ts)[k]? = some (vI t (stS l0 (ts.take k)).1) := by
  obtain ⟨hlt, he⟩ := List.getElem?_eq_some_iff.1 h
  simp [itS, List.getElem?_map, List.getElem?_range hlt, List.getD, h]

/-- an item's cells -/
def cI (x : Itm) : List Value := [.bool x.t, .int .i64 x.n, .string (st x.s)]

theorem take_flat {l : List Itm} {k : Nat} {x : Itm} (h : l[k]? = some x) : (l.take (k + 1)).flatMap cI = (l.take k).flatMap cI ++ cI x := by
  obtain ⟨hlt, he⟩ := List.getElem?_eq_some_iff.1 h
  rw [List.take_succ_eq_append_getElem hlt, he]
  simp

theorem infoItem : (Tryz.prog.info? 74).map (fun i => (i.zero, i.size, i.bytes)) = some (some (.agg #[.bool false, .int .i64 0, .string ⟨#[]⟩]), 3, 32) := by kernel_rfl

/-- a row of bools -/
def RowB (w : World) (a : Option Addr) (ts : List Bool) : Prop :=
  0 < ts.length → ∃ b off, a = some ⟨b, off, none⟩ ∧ ∀ i x, ts[i]? = some x → w.cell? ⟨b, off + i, none⟩ = some (.bool x)

theorem RowB.keep {w w' : World} {a : Option Addr} {ts : List Bool} (h : RowB w a ts) (hb : Below w.heap.size w w') : RowB w' a ts := by
  intro h0
  obtain ⟨b, off, e, hc⟩ := h h0
  refine ⟨b, off, e, fun i x hx => ?_⟩
  have c0 := hc i x hx
  rw [hb.cell (p := ⟨b, off + i, none⟩) (World.block_lt_of_cell? w _ c0)]; exact c0

/-- what is left, if there never were too few -/
def lfS : Bool → List UInt8 → List UInt8
  | true, _ => []
  | false, l => l

def howV (l : List UInt8) (c : Bool) : Int := if c then 1 else if l = [] then 0 else 2

theorem wrap_one (x : Nat) (h : x < 65536) : wrap64 (x : Int) = (x : Int) := w64 (by omega) (by omega)
theorem wrap_two (x : Nat) (h : x < 65536) : wrap64 (2 + (x : Int)) = 2 + (x : Int) := w64 (z := 2 + (x : Int)) (by omega) (by omega)
theorem le_int {x n : Nat} (h : 2 + x ≤ n) : 2 + (x : Int) ≤ (n : Int) := by omega

theorem short_t {a x : Nat} (h : a < 2 + x) : decide ((a : Int) < 2 + (x : Int)) = true := decide_eq_true (by omega)
theorem short_f {a x : Nat} (h : ¬ a < 2 + x) : decide ((a : Int) < 2 + (x : Int)) = false := decide_eq_false (by omega)

theorem num_two (l : List UInt8) : numL (l.take 2) < 65536 := by
  have hn := numL_lt (l.take 2)
  have hp : 256 ^ (l.take 2).length ≤ 256 ^ 2 := Nat.pow_le_pow_right (by decide) (by simp; omega)
  rw [show 256 ^ 2 = 65536 from by decide] at hp
  omega

theorem step_false_short (l : List UInt8) (h : l.length < 8) : vI false l = ⟨false, 0, []⟩ ∧ vL false l = [] ∧ vC false l = true := by
  have e1 : tk 8 l = [] := if_pos h
  refine ⟨?_, if_pos h, by simp [vC, h]⟩
  show (⟨false, sg (numL (tk 8 l)), []⟩ : Itm) = _
  rw [e1]; rfl

theorem step_false_long (l : List UInt8) (h : ¬ l.length < 8) : vI false l = ⟨false, sg (numL (l.take 8)), []⟩ ∧ vL false l = l.drop 8 ∧ vC false l = false := by
  have e1 : tk 8 l = l.take 8 := if_neg h
  refine ⟨?_, if_neg h, by simp [vC]; omega⟩
  show (⟨false, sg (numL (tk 8 l)), []⟩ : Itm) = _
  rw [e1]

theorem step_true_short (l : List UInt8) (h : l.length < 2) : vI true l = ⟨true, 0, []⟩ ∧ vL true l = [] ∧ vC true l = true := by
  have e1 : tk 2 l = [] := if_pos h
  have e2 : lf 2 l = [] := if_pos h
  refine ⟨?_, ?_, by simp [vC, tc, h]⟩
  · show (⟨true, 0, tt l⟩ : Itm) = _
    rw [tt, e1, e2]; rfl
  · show tl l = _
    rw [tl, e1, e2]; rfl

theorem step_true_mid (l : List UInt8) (h : ¬ l.length < 2) (h2 : l.length < 2 + numL (l.take 2)) : vI true l = ⟨true, 0, []⟩ ∧ vL true l = [] ∧ vC true l = true := by
  have e1 : tk 2 l = l.take 2 := if_neg h
  have e2 : lf 2 l = l.drop 2 := if_neg h
  have h3 : (l.drop 2).length < numL (l.take 2) := by rw [List.length_drop]; omega
  refine ⟨?_, ?_, ?_⟩
  · show (⟨true, 0, tt l⟩ : Itm) = _
    rw [tt, e1, e2, tk, if_pos h3]
  · show tl l = _
    rw [tl, e1, e2, lf, if_pos h3]
  · show tc l = true
    rw [tc, e1, e2, decide_eq_true h3]; simp

theorem step_true_long (l : List UInt8) (h : ¬ l.length < 2) (h2 : ¬ l.length < 2 + numL (l.take 2)) : vI true l = ⟨true, 0, (l.drop 2).take (numL (l.take 2))⟩ ∧ vL true l = l.drop (2 + numL (l.take 2)) ∧ vC true l = false := by
  have e1 : tk 2 l = l.take 2 := if_neg h
  have e2 : lf 2 l = l.drop 2 := if_neg h
  have h3 : ¬ (l.drop 2).length < numL (l.take 2) := by rw [List.length_drop]; omega
  refine ⟨?_, ?_, ?_⟩
  · show (⟨true, 0, tt l⟩ : Itm) = _
    rw [tt, e1, e2, tk, if_neg h3]
  · show tl l = _
    rw [tl, e1, e2, lf, if_neg h3, List.drop_drop]
  · show tc l = false
    rw [tc, e1, e2, decide_eq_false h3, decide_eq_false h]; rfl

set_option maxHeartbeats 4000000 in
set_option maxRecDepth 100000 in
theorem rTake_any (a : Option Addr) (c : Nat) (ts : List Bool) (l0 : List UInt8) (w : World) (hr : RowB w a ts) (hl : ts.length ≤ 200) (hl0 : l0.length ≤ 5000) :
    Calls Tryz.prog 44 #[.string (st l0), .slice a ts.length c] w fun e w' => ∃ v, e = .returned (.tuple #[v, .int .i64 (howV (stS l0 ts).1 (stS l0 ts).2)]) ∧ w'.ownsRow w.heap.size 74 3 v ts.length ((itS l0 ts).flatMap cI) ∧ Below w.heap.size w w' := by
  obtain ⟨n, hn⟩ : ∃ n, n = ts.length := ⟨_, rfl⟩
  have HN := Lib.hid hn
  have HR := Lib.hid hr
  obtain ⟨B, hB⟩ : ∃ B, B = w.heap.size := ⟨_, rfl⟩
  have HBE := Lib.hid hB
  rw [← hn] at hl ⊢
  rw [← hB]
  have HO := Lib.hid (World.ownsRow_nil w B 74 3)
  clear hn hr hB
  go_enter Tryz.func44, Tryz.ntmps44
  go_wp2
  go_loopg [0, 6, 7, 8] n (fun gk s o cc i wr => ∃ (k : Nat) (sl : List UInt8) (cb : Bool) (v : Value), k ≤ n ∧ i = .int .i64 k ∧ s = .string (st sl) ∧ cc = .bool cb ∧ v = o ∧ n - k ≤ gk ∧ sl.length ≤ 5000 ∧ Hid ((stS l0 (ts.take k)) = (lfS cb sl, cb)) ∧ Hid (wr.ownsRow B 74 3 v k (((itS l0 ts).take k).flatMap cI)) ∧ Hid (Below B w wr))
  case atStart => exact ⟨0, l0, false, _, Nat.zero_le _, rfl, rfl, rfl, rfl, by omega, hl0, rfl, HO.out, Below.refl _ _⟩
  case round =>
    obtain ⟨k, sl, cb, v, hk, rfl, rfl, rfl, rfl, hgk, hsl, HST, HOW, HB⟩ := hrel
    by_cases hlt : k < n
    · obtain ⟨t, ht⟩ : ∃ t, ts[k]? = some t := ⟨ts[k]'(by have := HN.out; omega), List.getElem?_eq_getElem _⟩
      obtain ⟨b, off, rfl, hc⟩ := HR.out (by have := HN.out; omega)
      have c0 : wr.cell? ⟨b, off + k, none⟩ = some (.bool t) := by rw [HB.out.cell (p := ⟨b, off + k, none⟩) (by rw [HBE.out]; exact World.block_lt_of_cell? w _ (hc k t ht))]; exact hc k t ht
      have c1 : ∀ ob : Obj, (wr.alloc ob).cell? ⟨b, off + k, none⟩ = some (.bool t) := fun ob => by rw [World.cell?_alloc_lt _ _ _ (World.block_lt_of_cell? wr _ c0)]; exact c0
      have hkz : (0 : Int) ≤ (k : Int) := by omega
      have hkn : (k : Int) < (n : Int) := by omega
      have hsz := st_size sl
      have HT := Lib.hid ht
      clear hc ht
      cases t with
      | false =>
        cases cb with
        | true =>
          have HF := Lib.hid (step_false_short [] (by decide))
          go_wp2_with (at_builtin; refine wpList_append_struct rfl (.tmp 78) (.tmp 80) 76 rfl B 74 _ 3 32 Tryz.underlying76 infoItem rfl (by decide) _ _ rfl (by simp [Value.oneCell']) v k _ rfl (new_at _ _) (HOW.out.alloc _) (Nat.le_trans (Nat.le_trans (Nat.le_of_eq HBE.out) HB.out.size) (by simp)) (by unfold maxLen; omega) (by omega) ?_; intro v' w' h1 h2; have H1 := Lib.hid h1; have H2 := Lib.hid (((Below.refl B wr).alloc (Nat.le_trans (Nat.le_of_eq HBE.out) HB.out.size) _).trans h2); clear h1 h2)
          go_roundg (n - (k + 1))
          case measure => omega
          case rel =>
            obtain ⟨f1, f2, f3⟩ := HF.out
            have hst := stS_succ (l0 := l0) HT.out
            have hit := itS_get (l0 := l0) HT.out
            rw [HST.out] at hst hit
            refine ⟨k + 1, sl, true, v', by omega, by go_num, rfl, rfl, rfl, by omega, hsl, ?_, ?_, HB.out.trans H2.out⟩
            · refine Eq.trans hst ?_
              show (vL false [], true || vC false []) = _
              rw [f2, f3]; rfl
            · have := H1.out
              rw [take_flat hit]
              rw [show vI false (lfS true sl) = _ from f1]
              exact this
        | false =>
          by_cases h8 : sl.length < 8
          · have t8 : decide ((sl.length : Int) < 8) = true := decide_eq_true (by omega)
            have HF := Lib.hid (step_false_short sl h8)
            go_wp2_with (at_builtin; refine wpList_append_struct rfl (.tmp 78) (.tmp 80) 76 rfl B 74 _ 3 32 Tryz.underlying76 infoItem rfl (by decide) _ _ rfl (by simp [Value.oneCell']) v k _ rfl (new_at _ _) (HOW.out.alloc _) (Nat.le_trans (Nat.le_trans (Nat.le_of_eq HBE.out) HB.out.size) (by simp)) (by unfold maxLen; omega) (by omega) ?_; intro v' w' h1 h2; have H1 := Lib.hid h1; have H2 := Lib.hid (((Below.refl B wr).alloc (Nat.le_trans (Nat.le_of_eq HBE.out) HB.out.size) _).trans h2); clear h1 h2)
            go_roundg (n - (k + 1))
            case measure => omega
            case rel =>
              obtain ⟨f1, f2, f3⟩ := HF.out
              have hst := stS_succ (l0 := l0) HT.out
              have hit := itS_get (l0 := l0) HT.out
              rw [HST.out] at hst hit
              refine ⟨k + 1, sl, true, v', by omega, by go_num, rfl, rfl, rfl, by omega, hsl, ?_, ?_, HB.out.trans H2.out⟩
              · refine Eq.trans hst ?_
                show (vL false sl, false || vC false sl) = _
                rw [f2, f3]; rfl
              · have := H1.out
                rw [take_flat hit]
                rw [show vI false (lfS false sl) = _ from f1]
                exact this
          · have t8 : decide ((sl.length : Int) < 8) = false := decide_eq_false (by omega)
            have HF0 := Lib.hid (step_false_long sl h8)
            have HF := Lib.hid (step_false_long sl h8)
            have e1 := st_take sl 8
            have e2 := st_dropN sl 8
            have hn8 := numL_lt (sl.take 8)
            have hp8 : 256 ^ (sl.take 8).length ≤ 256 ^ 8 := Nat.pow_le_pow_right (by decide) (by simp; omega)
            rw [pow_256_8] at hp8
            have HNU := Lib.hid (fun W => s3Num_any (sl.take 8) W (by simp; omega))
            obtain ⟨x, hx⟩ : ∃ x, x = numL (sl.take 8) := ⟨_, rfl⟩
            have HX := Lib.hid hx
            rw [← hx] at HNU hn8
            have hxw := wrap_sg x (by omega)
            have h8' : (8 : Int) ≤ (sl.length : Int) := by omega
            have h8n : 8 ≤ sl.length := by omega
            rw [hsz] at e2
            clear hx hn8 hp8
            go_wp2_with fail
            refine (HNU.out _).mono ?_
            rintro e w' ⟨rfl, rfl⟩
            rw [← HX.out] at HF
            go_wp2_with (at_builtin; refine wpList_append_struct rfl (.tmp 78) (.tmp 80) 76 rfl B 74 _ 3 32 Tryz.underlying76 infoItem rfl (by decide) _ _ rfl (by simp [Value.oneCell']) v k _ rfl (new_at _ _) (HOW.out.alloc _) (Nat.le_trans (Nat.le_trans (Nat.le_of_eq HBE.out) HB.out.size) (by simp)) (by unfold maxLen; omega) (by omega) ?_; intro v' w' h1 h2; have H1 := Lib.hid h1; have H2 := Lib.hid (((Below.refl B wr).alloc (Nat.le_trans (Nat.le_of_eq HBE.out) HB.out.size) _).trans h2); clear h1 h2)
            go_roundg (n - (k + 1))
            case measure => omega
            case rel =>
              obtain ⟨f1, f2, f3⟩ := HF.out
              have hst := stS_succ (l0 := l0) HT.out
              have hit := itS_get (l0 := l0) HT.out
              rw [HST.out] at hst hit
              refine ⟨k + 1, sl.drop 8, false, v', by omega, by go_num, rfl, rfl, rfl, by omega, (by rw [List.length_drop]; omega), ?_, ?_, HB.out.trans H2.out⟩
              · refine Eq.trans hst ?_
                show (vL false sl, false || vC false sl) = _
                rw [f2, f3]; rfl
              · have := H1.out
                rw [take_flat hit]
                rw [show vI false (lfS false sl) = _ from f1]
                exact this
      | true =>
        by_cases h2 : sl.length < 2
        · have t2 : decide ((2 : Int) ≤ (sl.length : Int)) = false := decide_eq_false (by omega)
          have t3 : decide ((sl.length : Int) < 2) = true := decide_eq_true (by omega)
          cases cb with
          | true =>
            have HF := Lib.hid (step_true_short [] (by decide))
            go_wp2_with (at_builtin; refine wpList_append_struct rfl (.tmp 78) (.tmp 80) 76 rfl B 74 _ 3 32 Tryz.underlying76 infoItem rfl (by decide) _ _ rfl (by simp [Value.oneCell']) v k _ rfl (new_at _ _) (HOW.out.alloc _) (Nat.le_trans (Nat.le_trans (Nat.le_of_eq HBE.out) HB.out.size) (by simp)) (by unfold maxLen; omega) (by omega) ?_; intro v' w' h1 h2; have H1 := Lib.hid h1; have H2 := Lib.hid (((Below.refl B wr).alloc (Nat.le_trans (Nat.le_of_eq HBE.out) HB.out.size) _).trans h2); clear h1 h2)
            go_roundg (n - (k + 1))
            case measure => omega
            case rel =>
              obtain ⟨f1, f2, f3⟩ := HF.out
              have hst := stS_succ (l0 := l0) HT.out
              have hit := itS_get (l0 := l0) HT.out
              rw [HST.out] at hst hit
              refine ⟨k + 1, sl, true, v', by omega, by go_num, rfl, rfl, rfl, by omega, hsl, ?_, ?_, HB.out.trans H2.out⟩
              · refine Eq.trans hst ?_
                show (vL true [], true || vC true []) = _
                rw [f2, f3]; rfl
              · have := H1.out
                rw [take_flat hit]
                rw [show vI true (lfS true sl) = _ from f1]
                exact this
          | false =>
            have HF := Lib.hid (step_true_short sl h2)
            go_wp2_with (at_builtin; refine wpList_append_struct rfl (.tmp 78) (.tmp 80) 76 rfl B 74 _ 3 32 Tryz.underlying76 infoItem rfl (by decide) _ _ rfl (by simp [Value.oneCell']) v k _ rfl (new_at _ _) (HOW.out.alloc _) (Nat.le_trans (Nat.le_trans (Nat.le_of_eq HBE.out) HB.out.size) (by simp)) (by unfold maxLen; omega) (by omega) ?_; intro v' w' h1 h2; have H1 := Lib.hid h1; have H2 := Lib.hid (((Below.refl B wr).alloc (Nat.le_trans (Nat.le_of_eq HBE.out) HB.out.size) _).trans h2); clear h1 h2)
            go_roundg (n - (k + 1))
            case measure => omega
            case rel =>
              obtain ⟨f1, f2, f3⟩ := HF.out
              have hst := stS_succ (l0 := l0) HT.out
              have hit := itS_get (l0 := l0) HT.out
              rw [HST.out] at hst hit
              refine ⟨k + 1, sl, true, v', by omega, by go_num, rfl, rfl, rfl, by omega, hsl, ?_, ?_, HB.out.trans H2.out⟩
              · refine Eq.trans hst ?_
                show (vL true sl, false || vC true sl) = _
                rw [f2, f3]; rfl
              · have := H1.out
                rw [take_flat hit]
                rw [show vI true (lfS false sl) = _ from f1]
                exact this
        · have t2 : decide ((2 : Int) ≤ (sl.length : Int)) = true := decide_eq_true (by omega)
          have e1 := st_take sl 2
          have hx2 := num_two sl
          have HNU := Lib.hid (fun W => s3Num_any (sl.take 2) W (by simp; omega))
          obtain ⟨x, hx⟩ : ∃ x, x = numL (sl.take 2) := ⟨_, rfl⟩
          have HX := Lib.hid hx
          rw [← hx] at HNU hx2
          have h2' : (2 : Int) ≤ (sl.length : Int) := by omega
          have h2n : 2 ≤ sl.length := by omega
          have hb3 : (2 : Int) ≤ 2 + (x : Int) := by omega
          have hb4 : (0 : Int) ≤ 2 + (x : Int) := by omega
          have hxw := wrap_one x hx2
          have hxN := wrap_two x hx2
          cases cb with
          | true =>
            clear hx
            have HF := Lib.hid (step_true_short [] (by decide))
            go_wp2_with fail
            refine (HNU.out _).mono ?_
            rintro e w' ⟨rfl, rfl⟩
            go_wp2_with (at_builtin; refine wpList_append_struct rfl (.tmp 78) (.tmp 80) 76 rfl B 74 _ 3 32 Tryz.underlying76 infoItem rfl (by decide) _ _ rfl (by simp [Value.oneCell']) v k _ rfl (new_at _ _) (HOW.out.alloc _) (Nat.le_trans (Nat.le_trans (Nat.le_of_eq HBE.out) HB.out.size) (by simp)) (by unfold maxLen; omega) (by omega) ?_; intro v' w' h1 h2; have H1 := Lib.hid h1; have H2 := Lib.hid (((Below.refl B wr).alloc (Nat.le_trans (Nat.le_of_eq HBE.out) HB.out.size) _).trans h2); clear h1 h2)
            go_roundg (n - (k + 1))
            case measure => omega
            case rel =>
              obtain ⟨f1, f2, f3⟩ := HF.out
              have hst := stS_succ (l0 := l0) HT.out
              have hit := itS_get (l0 := l0) HT.out
              rw [HST.out] at hst hit
              refine ⟨k + 1, sl, true, v', by omega, by go_num, rfl, rfl, rfl, by omega, hsl, ?_, ?_, HB.out.trans H2.out⟩
              · refine Eq.trans hst ?_
                show (vL true [], true || vC true []) = _
                rw [f2, f3]; rfl
              · have := H1.out
                rw [take_flat hit]
                rw [show vI true (lfS true sl) = _ from f1]
                exact this
          | false =>
            by_cases h3 : sl.length < 2 + x
            · have t3 := short_t h3
              have h3' : sl.length < 2 + numL (sl.take 2) := by rw [← hx]; exact h3
              clear hx
              have HF := Lib.hid (step_true_mid sl h2 h3')
              go_wp2_with fail
              refine (HNU.out _).mono ?_
              rintro e w' ⟨rfl, rfl⟩
              go_wp2_with (at_builtin; refine wpList_append_struct rfl (.tmp 78) (.tmp 80) 76 rfl B 74 _ 3 32 Tryz.underlying76 infoItem rfl (by decide) _ _ rfl (by simp [Value.oneCell']) v k _ rfl (new_at _ _) (HOW.out.alloc _) (Nat.le_trans (Nat.le_trans (Nat.le_of_eq HBE.out) HB.out.size) (by simp)) (by unfold maxLen; omega) (by omega) ?_; intro v' w' h1 h2; have H1 := Lib.hid h1; have H2 := Lib.hid (((Below.refl B wr).alloc (Nat.le_trans (Nat.le_of_eq HBE.out) HB.out.size) _).trans h2); clear h1 h2)
              go_roundg (n - (k + 1))
              case measure => omega
              case rel =>
                obtain ⟨f1, f2, f3⟩ := HF.out
                have hst := stS_succ (l0 := l0) HT.out
                have hit := itS_get (l0 := l0) HT.out
                rw [HST.out] at hst hit
                refine ⟨k + 1, sl, true, v', by omega, by go_num, rfl, rfl, rfl, by omega, hsl, ?_, ?_, HB.out.trans H2.out⟩
                · refine Eq.trans hst ?_
                  show (vL true sl, false || vC true sl) = _
                  rw [f2, f3]; rfl
                · have := H1.out
                  rw [take_flat hit]
                  rw [show vI true (lfS false sl) = _ from f1]
                  exact this
            · have t3 := short_f h3
              have h3' : ¬ sl.length < 2 + numL (sl.take 2) := by rw [← hx]; exact h3
              have HF := Lib.hid (step_true_long sl h2 h3')
              have e3 : (st sl).extract 2 (2 + x) = st ((sl.drop 2).take x) := by rw [st_extract, Nat.add_sub_cancel_left]
              have e4 := st_dropN sl (2 + x)
              rw [hsz] at e4
              have h3n : 2 + x ≤ sl.length := Nat.le_of_not_lt h3
              have h3i : 2 + (x : Int) ≤ (sl.length : Int) := le_int h3n
              clear hx
              go_wp2_with fail
              refine (HNU.out _).mono ?_
              rintro e w' ⟨rfl, rfl⟩
              rw [← HX.out] at HF
              go_wp2_with (at_builtin; refine wpList_append_struct rfl (.tmp 78) (.tmp 80) 76 rfl B 74 _ 3 32 Tryz.underlying76 infoItem rfl (by decide) _ _ rfl (by simp [Value.oneCell']) v k _ rfl (new_at _ _) (HOW.out.alloc _) (Nat.le_trans (Nat.le_trans (Nat.le_of_eq HBE.out) HB.out.size) (by simp)) (by unfold maxLen; omega) (by omega) ?_; intro v' w' h1 h2; have H1 := Lib.hid h1; have H2 := Lib.hid (((Below.refl B wr).alloc (Nat.le_trans (Nat.le_of_eq HBE.out) HB.out.size) _).trans h2); clear h1 h2)
              go_roundg (n - (k + 1))
              case measure => omega
              case rel =>
                obtain ⟨f1, f2, f3⟩ := HF.out
                have hst := stS_succ (l0 := l0) HT.out
                have hit := itS_get (l0 := l0) HT.out
                rw [HST.out] at hst hit
                refine ⟨k + 1, (sl.drop (2 + x)), false, v', by omega, by go_num, rfl, rfl, rfl, by omega, (by rw [List.length_drop]; omega), ?_, ?_, HB.out.trans H2.out⟩
                · refine Eq.trans hst ?_
                  show (vL true sl, false || vC true sl) = _
                  rw [f2, f3]; rfl
                · have := H1.out
                  rw [take_flat hit]
                  rw [show vI true (lfS false sl) = _ from f1]
                  exact this
    · have e : k = n := by omega
      subst e
      have hst := HST.out
      have how := HOW.out
      rw [List.take_of_length_le (by have := HN.out; omega)] at hst
      rw [List.take_of_length_le (by rw [itS_length]; have := HN.out; omega)] at how
      have HST2 := Lib.hid hst
      have HOW2 := Lib.hid how
      clear hst how
      cases cb with
      | true =>
        go_wp2
        go_ret2
        rw [HST2.out]
        exact ⟨v, rfl, HOW2.out, HB.out⟩
      | false =>
        cases sl with
        | nil =>
          have e0 : st [] = (⟨#[]⟩ : ByteArray) := rfl
          go_wp2
          go_ret2
          rw [HST2.out]
          exact ⟨v, rfl, HOW2.out, HB.out⟩
        | cons x r =>
          have e0 := st_ne x r
          go_wp2
          go_ret2
          rw [HST2.out]
          exact ⟨v, rfl, HOW2.out, HB.out⟩
end Go.Proofs.YtkflakeocdlinaaGreatDoor
