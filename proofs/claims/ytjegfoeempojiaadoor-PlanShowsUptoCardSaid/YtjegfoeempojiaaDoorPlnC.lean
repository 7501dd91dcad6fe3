/-
  Contract of the document's Tokens.
-/
import Derived.Test.YtjegfoeempojiaaDoorPlnB
import Derived.Test.YtjegfoeempojiaaDoorPlnT
namespace Go.Proofs.YtjegfoeempojiaaDoor
open Go.RowKit

/-- what the document's Tokens answers -/
def TokD (B : Nat) (r : Toks) (e : Ending) (w : World) : Prop :=
  match r with
  | .error (p, x) => e = .returned (.tuple #[.slice none 0 0, .int .i64 (p : Int), .int .i64 (x : Int)])
  | .ok ts => ∃ v, e = .returned (.tuple #[v, .int .i64 0, .int .i64 0]) ∧ w.ownsRow B 66 4 v ts.length (ts.flatMap tkC)

theorem infoRTok : (Tryd.prog.info? 66).map (fun i => (i.zero, i.size, i.bytes)) = some (some (.agg #[.int .i64 0, .string ⟨#[]⟩, .int .i64 0, .int .i64 0]), 4, 40) := by kernel_rfl

theorem tok_ownD {w : World} {B : Nat} {v : Value} {ts : Tks} {k N p : Nat} {T : List UInt8} {m : Nat} (h : w.ownsRow B 66 4 v (m + 1) (ts.flatMap tkC ++ #[.int .i64 (k : Int), .string (st T), .int .i64 (N : Int), .int .i64 (p : Int)].toList)) (hm : m = ts.length) :
    w.ownsRow B 66 4 v (ts ++ [((k, T, N), p)]).length ((ts ++ [((k, T, N), p)]).flatMap tkC) := by
  subst hm
  rw [List.length_append, List.flatMap_append]
  exact h

set_option maxHeartbeats 4000000 in
set_option maxRecDepth 100000 in
theorem rtokens_any (l : List UInt8) (w : World) (hl : l.length ≤ 1099511627776) :
    Calls Tryd.prog 26 #[.string (st l)] w fun e w' => TokD w.heap.size (tokL l) e w' ∧ Below w.heap.size w w' := by
  have hsl := st_size l
  obtain ⟨n, hn⟩ : ∃ n, n = l.length := ⟨_, rfl⟩
  have HN := Lib.hid hn
  rw [← hn] at hsl hl
  clear hn
  obtain ⟨B, hB⟩ : ∃ B, B = w.heap.size := ⟨_, rfl⟩
  have HB0 := Lib.hid hB
  rw [← hB]
  clear hB
  go_enter Tryd.func26, Tryd.ntmps26
  go_wp2
  go_loopg [5, 6, 7, 8, 9] n (fun gk v i _ _ _ wr => ∃ (p m : Nat) (ts : Tks), p ≤ n ∧ m ≤ p ∧ m = ts.length ∧ i = .int .i64 p ∧ n - p ≤ gk ∧ Hid (wr.ownsRow B 66 4 v m (ts.flatMap tkC)) ∧ Hid (Below B w wr) ∧ Hid (tokL l = prep ts (tk (l.drop p) p)))
  case atStart => exact ⟨0, 0, [], Nat.zero_le _, Nat.le_refl _, rfl, rfl, by omega, World.ownsRow_nil _ _ _ _, Below.refl _ _, tok_start l⟩
  case round =>
    obtain ⟨p, m, ts, hp, hts, hm, rfl, hgk, HO, HW, HT⟩ := hrel
    have HM := Lib.hid hm
    have HBs : Hid (B ≤ wr.heap.size) := by have := HW.out.size; have := HB0.out; show _ ≤ _; omega
    clear hm
    by_cases hlt : p < n
    case neg =>
      have e : p = n := by omega
      have HR : Hid (tokL l = .ok ts) := by
        have := HT.out
        rw [e, HN.out] at this
        exact tok_end this
      have hpn : ¬ ((p : Int) < (n : Int)) := by omega
      go_wp2
      go_ret3
      refine ⟨?_, HW.out⟩
      rw [HR.out]
      exact ⟨_, rfl, by rw [← HM.out]; exact HO.out⟩
    have hpk : p < (st l).size := by omega
    have hat := st_at l p hpk
    have hpz : (0 : Int) ≤ (p : Int) := by omega
    have hpn : (p : Int) < (n : Int) := by omega
    have HPL : Hid (p < l.length) := by show _ < _; rw [← HN.out]; exact hlt
    have hex : (st l).extract p n = st (l.drop p) := st_drop_to l p n HN.out
    obtain ⟨c, hc⟩ : ∃ c, c = l.getD p 0 := ⟨_, rfl⟩
    have HC := Lib.hid hc
    rw [← hc] at hat
    clear hc
    obtain ⟨d, hd⟩ : ∃ d, d = c.toNat := ⟨_, rfl⟩
    have HD := Lib.hid hd
    rw [← hd] at hat
    clear hd
    have HBk : Hid (isBlk c = (decide (d = 32) || (decide (d = 10) || decide (d = 9)))) := by show _ = _; rw [HD.out]; rfl
    by_cases hbl : d = 32 ∨ d = 10 ∨ d = 9
    · have HR : Hid (tokL l = prep ts (tk (l.drop (p + 1)) (p + 1))) := tok_blank HT.out HPL.out (by rw [← HC.out, HBk.out]; simpa using hbl)
      rcases hbl with hbl | hbl | hbl
      all_goals
        subst hbl
        clear HBk
        go_wp2
        go_roundg (n - (p + 1))
        case measure => omega
        case rel => exact ⟨p + 1, m, ts, by omega, by omega, HM.out, by go_num, by omega, HO, HW, HR⟩
    · have HNB : Hid (isBlk (l.getD p 0) = false) := by show _ = _; rw [← HC.out, HBk.out]; simpa using hbl
      have n1 : ((d : Int) == 32) = false := by rw [beq_eq_false_iff_ne]; omega
      have n2 : ((d : Int) == 10) = false := by rw [beq_eq_false_iff_ne]; omega
      have n3 : ((d : Int) == 9) = false := by rw [beq_eq_false_iff_ne]; omega
      have H1 : ∀ W, Hid (Calls Tryd.prog 37 #[.string (st (l.drop p))] W fun e w' => e = .returned (oneV (oneL (l.getD p 0) (l.drop p))) ∧ Below W.heap.size W w') := fun W => by
        have := rone_any (l.drop p) W (by rw [List.length_drop]; have := HPL.out; omega) (by rw [List.length_drop, ← HN.out]; omega)
        have e0 : (l.drop p).getD 0 0 = l.getD p 0 := by rw [List.getD_eq_getElem?_getD, List.getD_eq_getElem?_getD, List.getElem?_drop]; rfl
        rw [e0] at this
        exact this
      clear hbl HBk
      cases ho : oneL (l.getD p 0) (l.drop p) with
      | error x =>
        have HR := Lib.hid (tok_err HT.out HPL.out HNB.out ho)
        have hx : x ≠ 0 := oneL_errno ho
        have hx2 : ¬ ((x : Int) = 0) := by omega
        have H1e : ∀ W, Hid (Calls Tryd.prog 37 #[.string (st (l.drop p))] W fun e w' => e = .returned (.tuple #[.agg #[.int .i64 0, .string ⟨#[]⟩, .int .i64 0, .int .i64 0], .int .i64 0, .int .i64 (x : Int)]) ∧ Below W.heap.size W w') := fun W => by
          have := (H1 W).out
          rw [ho] at this
          exact this
        clear ho hx H1
        go_wp2_with (first | (go_at_call 37; with_reducible refine (H1e _).out.mono ?_; rintro e w1 ⟨rfl, hb⟩; have HB1 := Lib.hid (bel_on HW.out HBs.out hb); clear hb) | fail)
        go_ret3
        refine ⟨?_, HB1.out.alloc (by have := HB1.out.size; have := HB0.out; omega) _⟩
        rw [HR.out]
        rfl
      | ok t =>
        obtain ⟨k, T, N⟩ := t
        have HOK := Lib.hid (tok_ok HT.out HPL.out HNB.out ho)
        obtain ⟨tl, htl⟩ : ∃ tl, tl = T.length := ⟨_, rfl⟩
        have HTL := Lib.hid htl
        have H1e : ∀ W, Hid (Calls Tryd.prog 37 #[.string (st (l.drop p))] W fun e w' => e = .returned (.tuple #[.agg #[.int .i64 (k : Int), .string (st T), .int .i64 (N : Int), .int .i64 0], .int .i64 (tl : Int), .int .i64 0]) ∧ Below W.heap.size W w') := fun W => by
          have := (H1 W).out
          rw [ho] at this
          rw [htl]
          exact this
        obtain ⟨q, hq⟩ : ∃ q, q = p + tl := ⟨_, rfl⟩
        have hok := HOK.out
        have hqn : q ≤ n := by rw [HN.out, hq, htl]; exact hok.2.2
        have hpq : p + 1 ≤ q := by rw [hq, htl]; exact Nat.add_le_add_left hok.2.1 p
        have HQ := Lib.hid hq
        have i1 : IntKind.i64.wrap ((p : Int) + (tl : Int)) = (q : Int) := by rw [IntWalk.i64_in _ (by omega)]; omega
        clear ho hok htl hq H1
        go_wp2_with (first
          | (go_at_call 37; (with_reducible refine (H1e _).out.mono ?_); rintro e w1 ⟨rfl, hb⟩; have HB1 := Lib.hid (bel_on HW.out HBs.out hb); have HO1 := Lib.hid (own_stp (fp := []) HO.out (Stp.of_below hb) (fun _ _ h => by cases h)); clear hb)
          | (at_builtin; refine wpList_append_struct rfl (.tmp 46) (.tmp 48) 62 rfl B 66 _ 4 40 Tryd.underlying62 infoRTok rfl (by decide) _ _ rfl (by simp [Value.oneCell']) u5 m _ rfl (new_at _ _) (HO1.out.alloc _) (by have := HB1.out.size; have := HB0.out; simp; omega) (by unfold maxLen; omega) (by omega) ?_
             intro v' w' h1 h2
             have H2 := Lib.hid h1
             have H3 := Lib.hid h2
             clear h1 h2)
          | fail)
        go_roundg (n - q)
        case measure => omega
        case rel =>
          refine ⟨q, m + 1, ts ++ [((k, T, N), p)], hqn, by omega, by rw [List.length_append, ← HM.out]; rfl, by go_num, Nat.le_refl _, ?_, ?_, ?_⟩
          · have := tok_ownD H2.out HM.out
            rw [List.length_append, ← HM.out] at this
            exact this
          · exact (HB1.out.alloc (by have := HB1.out.size; have := HB0.out; omega) _).trans H3.out
          · have := HOK.out.1
            show _ = _
            rw [HQ.out, HTL.out]
            exact this
end Go.Proofs.YtjegfoeempojiaaDoor
