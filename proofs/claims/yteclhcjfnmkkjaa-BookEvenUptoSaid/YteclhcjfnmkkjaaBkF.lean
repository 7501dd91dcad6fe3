/-
  Contract of book.even.
-/
import Derived.Test.YteclhcjfnmkkjaaBkB
import Derived.Test.YteclhcjfnmkkjaaBkM
namespace Go.Proofs.Yteclhcjfnmkkjaa
open Go.RowKit Go.Lib

theorem add2_any (s z : Int) (W : World) (N : Nat) (hN : N = W.heap.size) (hs : Amt s) (hz : Amt z) (t : TypeId) :
    Calls Try.prog 18 #[.slice (some ⟨N, 0, none⟩) 2 2] (W.alloc (.cells #[.int .i64 s, .int .i64 z] t)) fun e w' => e = .returned (.tuple #[.int .i64 (sumV s z), .int .i64 (overE (sumB s z))]) ∧ W.alloc (.cells #[.int .i64 s, .int .i64 z] t) = w' := by
  subst hN
  have h := Add_any (some ⟨W.heap.size, 0, none⟩) 2 [s, z] (W.alloc (.cells #[.int .i64 s, .int .i64 z] t)) (fun _ => ⟨_, 0, rfl, fun i hi => by
    have hb := Blk.new W t #[.int .i64 s, .int .i64 z]
    match i, hi with
    | 0, _ => exact hb.cell 0
    | 1, _ => exact hb.cell 1⟩) (fun y hy => by
    simp only [List.mem_cons, List.not_mem_nil, or_false] at hy
    rcases hy with rfl | rfl
    · exact hs
    · exact hz) (by unfold maxLen; simp)
  have e : sumTo 0 [s, z] = if Amt (s + z) then some (s + z) else none := by
    simp only [sumTo, Int.zero_add, if_pos hs]
  rw [e] at h
  refine h.mono fun e' w' ⟨h1, h2⟩ => ⟨?_, h2⟩
  rw [h1]
  unfold sumV sumB
  by_cases ha : Amt (s + z) <;> simp [ha]
/-- two amounts, in a row of their own -/
theorem add2_yes (s z : Int) (W : World) (N : Nat) (hN : N = W.heap.size) (hs : Amt s) (hz : Amt z) (ha : Amt (s + z)) (t : TypeId) :
    Calls Try.prog 18 #[.slice (some ⟨N, 0, none⟩) 2 2] (W.alloc (.cells #[.int .i64 s, .int .i64 z] t)) fun e w' => e = .returned (.tuple #[.int .i64 (s + z), .int .i64 0]) ∧ W.alloc (.cells #[.int .i64 s, .int .i64 z] t) = w' := by
  have h := add2_any s z W N hN hs hz t
  rw [show sumV s z = s + z from if_pos ha, show sumB s z = true from decide_eq_true ha] at h
  exact h
theorem add2_no (s z : Int) (W : World) (N : Nat) (hN : N = W.heap.size) (hs : Amt s) (hz : Amt z) (ha : ¬ Amt (s + z)) (t : TypeId) :
    Calls Try.prog 18 #[.slice (some ⟨N, 0, none⟩) 2 2] (W.alloc (.cells #[.int .i64 s, .int .i64 z] t)) fun e w' => e = .returned (.tuple #[.int .i64 0, .int .i64 2]) ∧ W.alloc (.cells #[.int .i64 s, .int .i64 z] t) = w' := by
  have h := add2_any s z W N hN hs hz t
  rw [show sumV s z = 0 from if_neg ha, show sumB s z = false from decide_eq_false ha] at h
  exact h

set_option maxHeartbeats 4000000 in
set_option maxRecDepth 100000 in
theorem bkeven_any (a : Option Addr) (c : Nat) (l : List Ln) (w : World) (hr : RowL w a l) (hl : l.length ≤ 2097152) (hk : OkLs l) :
    Calls Try.prog 21 #[.slice a l.length c] w fun e w' => e = .returned (.bool (evenL l)) ∧ Below w.heap.size w w' := by
  obtain ⟨n, hn⟩ : ∃ n, n = l.length := ⟨_, rfl⟩
  have HN := Lib.hid hn
  have HR := Lib.hid hr
  have HK := Lib.hid hk
  rw [← hn] at hl ⊢
  have HM0 : Hid (MC (w.alloc (.map #[] 0)) w.heap.size 0 (fun _ => none)) := MapF.made w
  have hmm := @run_makeMap Try.prog
  clear hn hr hk
  go_enter Try.func21, Try.ntmps21
  go_wp2
  go_loopg [5, 6, 7, 13] n (fun gk _ _ _ i wr => ∃ (k : Nat) (g : List UInt8 → Option Int), k ≤ n ∧ i = .int .i64 k ∧ n - k ≤ gk ∧ Hid (EvAt l k g) ∧ Hid (MC wr w.heap.size k g) ∧ Hid (Below w.heap.size w wr))
  case atStart => exact ⟨0, fun _ => none, Nat.zero_le _, rfl, by omega, EvAt.start l, HM0.out, (Below.refl _ _).alloc (Nat.le_refl _) _⟩
  case round =>
    clear HM0 hmm
    obtain ⟨k, g, hk, rfl, hgk, HE, HM, HB⟩ := hrel
    by_cases hlt : k < n
    · obtain ⟨x, hx⟩ : ∃ x, l[k]? = some x := ⟨_, List.getElem?_eq_getElem (by rw [← HN.out]; exact hlt)⟩
      obtain ⟨b, off, rfl, hc⟩ := (HR.out.keep HB.out) (by rw [← HN.out]; omega)
      have c0 : wr.cell? ⟨b, off + k * 4, none⟩ = some (.string (st x.1.1)) := by simpa using hc k x hx 0 _ rfl
      have c1 := hc k x hx 1 _ rfl
      have c2 := hc k x hx 2 _ rfl
      have c3 := hc k x hx 3 _ rfl
      have hkz : (0 : Int) ≤ (k : Int) := by omega
      have hkn : (k : Int) < (n : Int) := by omega
      have HX := Lib.hid hx
      have hok := HK.out x (List.mem_of_getElem? hx)
      have HC : Hid (OkC x.1.2.2) := by have := hok.2.2.1; show _ ≤ maxLen; unfold maxLen; omega
      obtain ⟨s, hs⟩ : ∃ s, s = (g x.1.2.2).getD 0 := ⟨_, rfl⟩
      have HS := Lib.hid hs
      have HAS : Hid (Amt s) := by rw [hs]; exact HM.out.amt _
      have HAZ : Hid (Amt x.2) := hok.2.2.2
      clear hc hx hok hs
      by_cases ha : Amt (s + x.2)
      · have HA := Lib.hid ha
        have H1 : Hid (∀ (W : World) (N : Nat), N = W.heap.size → Calls Try.prog 18 #[.slice (some ⟨N, 0, none⟩) 2 2] (W.alloc (.cells #[.int .i64 s, .int .i64 x.2] 2)) fun e w' => e = .returned (.tuple #[.int .i64 (s + x.2), .int .i64 0]) ∧ W.alloc (.cells #[.int .i64 s, .int .i64 x.2] 2) = w') := fun W N hN => add2_yes s x.2 W N hN HAS.out HAZ.out ha _
        clear ha
        go_wp2_with (first | (at_lookup; refine wpList_lookF _ KC rfl (.tmp 18) (.tmp 21) rfl w.heap.size k g rfl (HM.out.alloc _) x.1.2.2 rfl HC.out s HS.out.symm ?_) | fail)
        refine (H1.out _ _ (by simp)).mono ?_
        rintro e w1 ⟨rfl, rfl⟩
        clear H1
        go_wp2_with (first | (at_mapUpdate; refine wpList_storeF _ KC rfl (.tmp 31) (.tmp 34) (.tmp 35) rfl w.heap.size k g rfl ((HM.out.alloc _).alloc _) (by unfold maxLen; omega) x.1.2.2 rfl HC.out (s + x.2) rfl HA.out ?_; intro w5 hm5 hs5; have HM5 := Lib.hid hm5; have HS5 := Lib.hid hs5; clear hm5 hs5; go_frame) | fail)
        go_roundg (n - (k + 1))
        case measure => omega
        case rel =>
          refine ⟨k + 1, _, by omega, by go_num, by omega, ?_, HM5.out, ?_⟩
          · have := HE.out.step HX.out (by rw [← HS.out]; exact HA.out)
            rw [← HS.out] at this
            exact this
          · exact ((HB.out.alloc HB.out.size _).alloc (by have := HB.out.size; simp; omega) _).trans (HS5.out.below (by simp) (by have := HB.out.size; simp; omega))
      · have HA := Lib.hid (HE.out.fail HX.out (by rw [← HS.out]; exact ha))
        have H1 : Hid (∀ (W : World) (N : Nat), N = W.heap.size → Calls Try.prog 18 #[.slice (some ⟨N, 0, none⟩) 2 2] (W.alloc (.cells #[.int .i64 s, .int .i64 x.2] 2)) fun e w' => e = .returned (.tuple #[.int .i64 0, .int .i64 2]) ∧ W.alloc (.cells #[.int .i64 s, .int .i64 x.2] 2) = w') := fun W N hN => add2_no s x.2 W N hN HAS.out HAZ.out ha _
        clear ha
        go_wp2_with (first | (at_lookup; refine wpList_lookF _ KC rfl (.tmp 18) (.tmp 21) rfl w.heap.size k g rfl (HM.out.alloc _) x.1.2.2 rfl HC.out s HS.out.symm ?_) | fail)
        refine (H1.out _ _ (by simp)).mono ?_
        rintro e w1 ⟨rfl, rfl⟩
        clear H1
        go_wp2
        go_ret
        exact ⟨by rw [HA.out]; rfl, (HB.out.alloc HB.out.size _).alloc (by have := HB.out.size; simp; omega) _⟩
    · have e : k = n := by omega
      subst e
      go_wp2_with (first | (at_range; refine wpList_rangeF _ KC rfl (.tmp 37) rfl w.heap.size k g rfl HM.out ?_; intro w1 cnt hrg hcn hb1; have HRG := Lib.hid hrg; have HB1 := Lib.hid hb1; clear hrg hb1; go_frame) | fail)
      have HB2 : Hid (Below w.heap.size w w1) := below_on HB.out HB.out.size HB1.out
      have HBW : Hid (w.heap.size ≤ wr.heap.size) := HB.out.size
      clear HB1
      generalize wr.heap.size = r0 at HRG HBW ⊢
      go_loopg [9] cnt (fun gk _ w2 => ∃ (left : List UInt8 → Bool) (cn : Nat), cn ≤ gk ∧ Hid (RC w2 w.heap.size r0 k g left cn) ∧ Hid (∀ c v, g c = some v → left c = false → v = 0) ∧ Hid (Below w.heap.size w w2))
      case atStart => exact ⟨_, cnt, Nat.le_refl _, HRG.out, (fun c v hg hl => by rw [hg] at hl; cases hl), HB2.out⟩
      case round =>
        clear HRG HB2 HM HB
        obtain ⟨left, cn, hcg, HRG2, HZ, HB3⟩ := hrel
        go_wp2_with (first | (at_next; refine wpList_nextF _ KC rfl (.tmp 38) rfl w.heap.size r0 k g left cn rfl HRG2.out ?_ ?_) | fail)
        · intro _ hl0
          have HY : Hid (evenL l = true) := EvAt.yes (g := g) (by rw [← HN.out]; exact HE.out) (fun c v hg => HZ.out c v hg (hl0 c))
          clear hl0
          go_wp2
          go_ret
          exact ⟨by rw [HY.out]; rfl, HB3.out⟩
        · intro c v w3 cn2 hc hlc hgc hav hrg3 hlt3 hs3 hen
          have HRG3 := Lib.hid hrg3
          have HB4 : Hid (Below w.heap.size w w3) := HB3.out.trans (hs3.below (by intro q hq; rw [List.mem_singleton] at hq; rw [hq]; exact HBW.out) HB3.out.size)
          have HG := Lib.hid hgc
          clear hrg3 hs3 hgc hav hlc hc
          by_cases hv : v = 0
          · subst hv
            go_wp2
            go_roundg cn2
            case measure => omega
            case rel =>
              refine ⟨_, cn2, Nat.le_refl _, HRG3.out, (fun d u hd hl => ?_), HB4.out⟩
              by_cases e : d = c
              · rw [e, HG.out] at hd; injection hd with hd; exact hd.symm
              · simp only [e, decide_false, Bool.not_false, Bool.and_true] at hl
                exact HZ.out d u hd hl
          · have hvb : (v == 0) = false := by simpa using hv
            have HF : Hid (evenL l = false) := EvAt.no (g := g) (by rw [← HN.out]; exact HE.out) HG.out hv
            clear hv
            go_wp2
            go_ret
            exact ⟨by rw [HF.out]; rfl, HB4.out⟩
end Go.Proofs.Yteclhcjfnmkkjaa
