/-
  Contract of soukref07.even.
-/
import Derived.Test.YteclhcjfnmkkjaaBkB
import Derived.Test.YteclhcjfnmkkjaaOwn
import Derived.Test.YteclhcjfnmkkjaaStrs
import Derived.BigQuiet
import Derived.Deep.LoopGhost
namespace Go.Proofs.Yteclhcjfnmkkjaa
open Go.RowKit Go.Lib

theorem infoI64e : (Try.prog.info? 2).map (fun i => (i.zero, i.size, i.bytes)) = some (some (.int .i64 0), 1, 8) := by kernel_rfl

theorem amts_take_same {l : List Ln} {k : Nat} {x : Ln} (hx : l[k]? = some x) : amts x.1.2.2 (l.take (k + 1)) = amts x.1.2.2 (l.take k) ++ [x.2] := by
  obtain ⟨h1, h2⟩ := List.getElem?_eq_some_iff.1 hx
  rw [List.take_succ_eq_append_getElem h1, h2, amts_append, amts_same]
theorem amts_take_other {l : List Ln} {k : Nat} {x : Ln} {c : List UInt8} (hx : l[k]? = some x) (h : x.1.2.2 ≠ c) : amts c (l.take (k + 1)) = amts c (l.take k) := by
  obtain ⟨h1, h2⟩ := List.getElem?_eq_some_iff.1 hx
  rw [List.take_succ_eq_append_getElem h1, h2, amts_append, amts_other h, List.append_nil]
theorem amts_len (c : List UInt8) (l : List Ln) : (amts c l).length ≤ l.length := by
  unfold amts
  rw [List.length_map]
  exact List.length_filter_le _ _
theorem amts_amt {c : List UInt8} {l : List Ln} (h : OkLs l) : ∀ z ∈ amts c l, Amt z := by
  intro z hz
  unfold amts at hz
  obtain ⟨x, hx, rfl⟩ := List.mem_map.1 hz
  exact (h x (List.mem_filter.1 hx).1).2.2.2

/-- an own row of amounts, as Sum and Add have it -/
theorem own_ints {w : World} {B : Nat} {e : TypeId} {v : Value} {n : Nat} {zs : List Int} (h : w.ownsRow B e 1 v n (zs.map (Value.int .i64))) (hn : n = zs.length) : ∃ a c, v = .slice a zs.length c ∧ RowI .i64 w a zs := by
  obtain ⟨a, c, e1⟩ := own_slice h
  rw [e1] at h
  refine ⟨a, c, by rw [e1, hn], fun hp => ?_⟩
  obtain ⟨b, off, e2, hc⟩ := Cells.of_own h (by rw [List.length_map]; exact hp)
  refine ⟨b, off, e2, fun i hi => hc i _ ?_⟩
  rw [List.getElem?_map, List.getElem?_eq_getElem hi]
  simp [List.getD_eq_getElem?_getD, hi]

theorem allEven_step {l : List Ln} {k : Nat} {x : Ln} (hx : l[k]? = some x) (h : ∀ y ∈ l.take k, curSum y.1.2.2 l = some 0) (e : curSum x.1.2.2 l = some 0) : ∀ y ∈ l.take (k + 1), curSum y.1.2.2 l = some 0 := by
  obtain ⟨h1, h2⟩ := List.getElem?_eq_some_iff.1 hx
  intro y hy
  rw [List.take_succ_eq_append_getElem h1, h2, List.mem_append, List.mem_singleton] at hy
  rcases hy with hy | hy
  · exact h y hy
  · rw [hy]; exact e
theorem evenL_no {l : List Ln} {k : Nat} {x : Ln} (hx : l[k]? = some x) (e : curSum x.1.2.2 l ≠ some 0) : evenL l = false := by
  unfold evenL
  rw [List.all_eq_false]
  exact ⟨x, List.mem_of_getElem? hx, by simpa using e⟩
theorem evenL_yes {l : List Ln} (h : ∀ y ∈ l, curSum y.1.2.2 l = some 0) : evenL l = true := by
  unfold evenL
  rw [List.all_eq_true]
  intro y hy
  rw [h y hy]; simp

/-- those up to here are even -/
def EvUp (l : List Ln) (k : Nat) : Prop := ∀ y ∈ l.take k, curSum y.1.2.2 l = some 0

set_option maxHeartbeats 8000000 in
set_option maxRecDepth 100000 in
theorem reven_any (a : Option Addr) (c : Nat) (l : List Ln) (w : World) (hr : RowL w a l) (hl : l.length ≤ 2097152) (hk : OkLs l) :
    Calls Try.prog 25 #[.slice a l.length c] w fun e w' => e = .returned (.bool (evenL l)) ∧ Below w.heap.size w w' := by
  obtain ⟨n, hn⟩ : ∃ n, n = l.length := ⟨_, rfl⟩
  have HN := Lib.hid hn
  have HR := Lib.hid hr
  have HK := Lib.hid hk
  rw [← hn] at hl ⊢
  clear hn hr hk
  go_enter Try.func25, Try.ntmps25
  go_wp2
  go_loopg [3, 4, 5, 6, 7] n (fun gk i _ _ _ _ wr => ∃ k : Nat, k ≤ n ∧ i = .int .i64 k ∧ n - k ≤ gk ∧ Hid (EvUp l k) ∧ Hid (Below w.heap.size w wr))
  case atStart => exact ⟨0, Nat.zero_le _, rfl, by omega, (fun y hy => by simp at hy), Below.refl _ _⟩
  case round =>
    obtain ⟨k, hk, rfl, hgk, HE, HB⟩ := hrel
    by_cases hlt : k < n
    · obtain ⟨x, hx⟩ : ∃ x, l[k]? = some x := ⟨_, List.getElem?_eq_getElem (by rw [← HN.out]; exact hlt)⟩
      obtain ⟨b, off, rfl, hc0⟩ := HR.out (by rw [← HN.out]; omega)
      have HRW : Hid (∀ W, Below w.heap.size w W → ∀ j y, l[j]? = some y → (W.cell? ⟨b, off + j * 4 + 2, none⟩ = some (.string (st y.1.2.2)) ∧ W.cell? ⟨b, off + j * 4 + 3, none⟩ = some (.int .i64 y.2))) := fun W hb j y hy => by
        obtain ⟨b', off', e, hc'⟩ := (HR.out.keep hb) (by rw [← HN.out]; omega)
        simp only [Option.some.injEq, Addr.mk.injEq, and_true] at e
        obtain ⟨rfl, rfl⟩ := e
        exact ⟨hc' j y hy 2 _ rfl, hc' j y hy 3 _ rfl⟩
      have hkz : (0 : Int) ≤ (k : Int) := by omega
      have hkn : (k : Int) < (n : Int) := by omega
      have HX := Lib.hid hx
      have HO0 := Lib.hid (World.ownsRow_nil wr w.heap.size 2 1)
      clear hc0 hx
      go_wp2
      go_loopg [4, 5] n (fun gj v i wq => ∃ (j : Nat) (v0 : Value), j ≤ n ∧ i = .int .i64 j ∧ v0 = v ∧ n - j ≤ gj ∧ Hid (wq.ownsRow w.heap.size 2 1 v0 (amts x.1.2.2 (l.take j)).length ((amts x.1.2.2 (l.take j)).map (Value.int .i64))) ∧ Hid (Below w.heap.size w wq))
      case atStart => exact ⟨0, _, Nat.zero_le _, rfl, rfl, by omega, HO0.out, HB.out⟩
      case round =>
        clear HO0 HB
        obtain ⟨j, v, hj, rfl, rfl, hgj, HOW, HB⟩ := hrel
        by_cases hjt : j < n
        · obtain ⟨y, hy⟩ : ∃ y, l[j]? = some y := ⟨_, List.getElem?_eq_getElem (by rw [← HN.out]; exact hjt)⟩
          have f1 := (HRW.out _ HB.out j y hy).1
          have f2 := (HRW.out _ HB.out k x HX.out).1
          have f3 := (HRW.out _ HB.out j y hy).2
          have hjz : (0 : Int) ≤ (j : Int) := by omega
          have hjn : (j : Int) < (n : Int) := by omega
          obtain ⟨ln, hln⟩ : ∃ ln, ln = (amts x.1.2.2 (l.take j)).length := ⟨_, rfl⟩
          have hll : ln ≤ j := by rw [hln]; exact Nat.le_trans (amts_len _ _) (by rw [List.length_take]; omega)
          by_cases hcc : y.1.2.2 = x.1.2.2
          · have HAM := Lib.hid (amts_take_same hy)
            have t1 : ((st y.1.2.2).toList == (st x.1.2.2).toList) = true := by rw [hcc]; simp
            rw [hcc] at HAM
            have HOW2 : Hid (wr.ownsRow w.heap.size 2 1 v ln ((amts x.1.2.2 (l.take j)).map (Value.int .i64))) := by rw [hln]; exact HOW.out
            have HLN := Lib.hid hln
            clear hy hcc hln HOW
            go_wp2
            go_quiet (fail)
            have HOd : Hid ((wr.drewN nq).ownsRow w.heap.size 2 1 v ln ((amts x.1.2.2 (l.take j)).map (Value.int .i64))) := HOW2.out
            have HBd : Hid (Below w.heap.size w (wr.drewN nq)) := ⟨HB.out.os, HB.out.tape, HB.out.output, HB.out.size, HB.out.block⟩
            have g3 : (wr.drewN nq).cell? ⟨b, off + j * 4 + 3, none⟩ = some (.int .i64 y.2) := f3
            clear f1 f2 f3 HOW2 HB
            generalize wr.drewN nq = wd at HOd HBd g3 ⊢
            go_wp2_with (first | (at_builtin; refine wpList_append_one rfl (.tmp 31) (.tmp 37) 46 rfl w.heap.size 2 _ 8 Try.underlying46 infoI64e rfl _ _ rfl v ln _ rfl rfl HOd.out HBd.out.size (by unfold maxLen; omega) (by omega) ?_; intro v' w' h1 h2; have H1 := Lib.hid h1; have HB2 : Hid (Below w.heap.size w w') := HBd.out.trans h2; clear h1 h2) | fail)
            go_roundg (n - (j + 1))
            case measure => omega
            case rel => exact ⟨j + 1, v', by omega, by go_num, rfl, by omega, by rw [HAM.out, List.length_append, ← HLN.out, List.map_append]; exact H1.out, HB2.out⟩
          · have HAM := Lib.hid (amts_take_other hy hcc)
            have t1 := st_neb hcc
            clear hy hcc hln
            go_wp2
            go_quiet (fail)
            go_wp2
            go_roundg (n - (j + 1))
            case measure => omega
            case rel => exact ⟨j + 1, v, by omega, by go_num, rfl, by omega, by rw [HAM.out]; exact HOW.out, ⟨HB.out.os, HB.out.tape, HB.out.output, HB.out.size, HB.out.block⟩⟩
        · have e : j = n := by omega
          subst e
          have how := HOW.out
          rw [List.take_of_length_le (by rw [← HN.out]; exact Nat.le_refl _)] at how
          obtain ⟨a1, c1, hv, hrow⟩ := own_ints how rfl
          have H1 := rSum_any a1 c1 (amts x.1.2.2 l) wr hrow (amts_amt HK.out) (by have := amts_len x.1.2.2 l; unfold maxLen; rw [← HN.out] at this; omega)
          rw [← hv] at H1
          cases hs : curSum x.1.2.2 l with
          | none =>
            have h2 : sumTo 0 (amts x.1.2.2 l) = none := hs
            rw [h2] at H1
            have H1 := Lib.hid H1
            have HF := Lib.hid (evenL_no HX.out (by rw [hs]; simp))
            clear how hv hrow hs h2
            go_wp2_with fail
            refine H1.out.mono ?_
            rintro e w1 ⟨rfl, rfl⟩
            go_wp2
            go_ret
            exact ⟨by rw [HF.out]; rfl, HB.out⟩
          | some s =>
            have h2 : sumTo 0 (amts x.1.2.2 l) = some s := hs
            rw [h2] at H1
            have H1 := Lib.hid H1
            by_cases hs0 : s = 0
            · subst hs0
              have HT := Lib.hid (allEven_step HX.out HE.out hs)
              clear how hv hrow hs h2
              go_wp2_with fail
              refine H1.out.mono ?_
              rintro e w1 ⟨rfl, rfl⟩
              go_wp2
              go_roundg (j - (k + 1))
              case measure => omega
              case rel => exact ⟨k + 1, by omega, by go_num, by omega, HT.out, HB.out⟩
            · have HF := Lib.hid (evenL_no HX.out (by rw [hs]; simpa using hs0))
              have hsb : (s == 0) = false := by simpa using hs0
              clear how hv hrow hs h2 hs0
              go_wp2_with fail
              refine H1.out.mono ?_
              rintro e w1 ⟨rfl, rfl⟩
              go_wp2
              go_ret
              exact ⟨by rw [HF.out]; rfl, HB.out⟩
    · have e : k = n := by omega
      subst e
      have HY : Hid (evenL l = true) := evenL_yes (by have := HE.out; unfold EvUp at this; rw [List.take_of_length_le (by rw [← HN.out]; exact Nat.le_refl _)] at this; exact this)
      go_wp2
      go_ret
      exact ⟨by rw [HY.out]; rfl, HB.out⟩
end Go.Proofs.Yteclhcjfnmkkjaa
