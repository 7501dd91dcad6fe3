/-
  Contract of lex.Tokens.
-/
import Derived.Test.YtjegfoeempojiaaDoorLexE
import Derived.Test.YtjegfoeempojiaaDoorOwnS
import Derived.Test.YtjegfoeempojiaaDoorLexQ
import Derived.ScopeJumps
import Derived.WalkMore
namespace Go.Proofs.YtjegfoeempojiaaDoor
open Go.RowKit

/-- a scope out of whose first run the program jumps at most once, to a label behind which it jumps no more -/
theorem wp_scope_once {P : Program} {a : Act} {w : World} {Q : Exit → Act → World → Prop} {c rest : Code} (l : Nat) (hf : findLabel c l = some rest)
    (first : c.wp P (Exit.jump l (fun a w => rest.wp P (Exit.noGoto Q) a w) Q) a w) : (Code.scope c).wp P Q a w :=
  wp_scope_jumps l _ (fun _ _ => 0) hf first fun a w hJ => Code.wp_mono (fun e a w q => by cases e <;> first | exact q | exact q.elim) hJ

/-- a token's cells, and where it begins -/
def tkC (t : Tk × Nat) : List Value := [.int .i64 (t.1.1 : Int), .string (st t.1.2.1), .int .i64 (t.1.2.2 : Int), .int .i64 (t.2 : Int)]

/-- what Tokens answers -/
def TokP (B : Nat) (r : Toks) (e : Ending) (w : World) : Prop :=
  match r with
  | .error (p, x) => e = .returned (.tuple #[.slice none 0 0, .int .i64 (p : Int), .int .i64 (x : Int)])
  | .ok ts => ∃ v, e = .returned (.tuple #[v, .int .i64 0, .int .i64 0]) ∧ w.ownsRow B 55 4 v ts.length (ts.flatMap tkC)

theorem st_one (l : List UInt8) (p : Nat) (h : p < l.length) : (st l).extract p (p + 1) = st [l.getD p 0] := by
  rw [st_extract, drop_cons l p h]
  simp

theorem wpList_mark {P : Program} {ops : Array Oper} {Q : Exit → Act → World → Prop} {l : List Oper} {a : Act} (W : World) (h : wpList P ops Q l a W) : wpList P ops Q l a W := h

theorem new_set (w : World) (a : Addr) (u : Value) : Value.slice (some ⟨w.heap.size, 0, none⟩) 1 1 = Value.slice (some ⟨(w.setCell a u).heap.size, 0, none⟩) 1 1 := by rw [show (w.setCell a u).heap.size = w.heap.size from by simp [World.setCell]]

theorem infoToken : (Tryd.prog.info? 55).map (fun i => (i.zero, i.size, i.bytes)) = some (some (.agg #[.int .i64 0, .string ⟨#[]⟩, .int .i64 0, .int .i64 0]), 4, 40) := by kernel_rfl

/-- what an append keeps of a token's own block -/
theorem tok_kept {wr w1 w' : World} {B : Nat} {e : TypeId} {v : Value} {k : Nat} {xs : List Value} {t : TypeId} {cs : Array Value} (hb : Blk w1 wr.heap.size t cs) (ho : wr.ownsRow B e 4 v k xs) (h : w1.grownBy w' v.ownBlock) : Blk w' wr.heap.size t cs :=
  hb.kept h (fun e => by have := (ho.lt _ e.symm).2; omega)

theorem tok_below {w wr wa w' : World} {B : Nat} {e : TypeId} {v : Value} {k : Nat} {xs : List Value} (hw : Below B w wr) (hB : B ≤ wr.heap.size) (hs : Stp [] wr wa) (ho : wr.ownsRow B e 4 v k xs) (h : wa.grownBy w' v.ownBlock) : Below B w w' :=
  hw.trans ((hs.below (fun _ h => by cases h) hB).grown h (by have := hs.size; omega) (fun k hk => (ho.lt k hk).1))

theorem tok_own {w : World} {B p : Nat} {v : Value} {k N : Nat} {T : List UInt8} {ts : List (Tk × Nat)} (h : w.ownsRow B 55 4 v (ts.length + 1) (ts.flatMap tkC ++ [.int .i64 (k : Int), .string (st T), .int .i64 (N : Int), .int .i64 (p : Int)])) :
    w.ownsRow B 55 4 v (ts ++ [((k, T, N), p)]).length ((ts ++ [((k, T, N), p)]).flatMap tkC) := by
  rw [List.length_append, List.flatMap_append]
  exact h

theorem tok_at {p m q : Nat} (h : q = p + m) (hq : q ≤ 1099511627776) : wrap64 ((p : Int) + (m : Int)) = (q : Int) := by
  unfold wrap64; omega

theorem oneL_end (l : List UInt8) : oneL 59 l = .ok (3, [59], 0) := if_pos rfl
theorem oneL_letN {c : UInt8} {l : List UInt8} (h59 : ¬ c = 59) (hl : isLet c = true) (h : nmL l = none) : oneL c l = .error 2 := by
  unfold oneL; rw [if_neg h59, if_pos hl, h]
theorem oneL_letS {c : UInt8} {l : List UInt8} {t : Tk} (h59 : ¬ c = 59) (hl : isLet c = true) (h : nmL l = some t) : oneL c l = .ok t := by
  unfold oneL; rw [if_neg h59, if_pos hl, h]
theorem oneL_figN {c : UInt8} {l : List UInt8} (h59 : ¬ c = 59) (hl : isLet c = false) (hf : isFig c = true) (h : nrL l = none) : oneL c l = .error 2 := by
  unfold oneL; rw [if_neg h59, if_neg (by rw [hl]; simp), if_pos hf, h]
theorem oneL_figS {c : UInt8} {l : List UInt8} {t : Tk} (h59 : ¬ c = 59) (hl : isLet c = false) (hf : isFig c = true) (h : nrL l = some t) : oneL c l = .ok t := by
  unfold oneL; rw [if_neg h59, if_neg (by rw [hl]; simp), if_pos hf, h]
theorem oneL_else {c : UInt8} {l : List UInt8} (h59 : ¬ c = 59) (hl : isLet c = false) (hf : isFig c = false) : oneL c l = .error 3 := by
  unfold oneL; rw [if_neg h59, if_neg (by rw [hl]; simp), if_neg (by rw [hf]; simp)]

set_option maxHeartbeats 4000000 in
theorem tokens_any (l : List UInt8) (w : World) (hl : l.length ≤ 1099511627776) :
    Calls Tryd.prog 17 #[.string (st l)] w fun e w' => TokP w.heap.size (tokL l) e w' ∧ Below w.heap.size w w' := by
  have hsl := st_size l
  obtain ⟨n, hn⟩ : ∃ n, n = l.length := ⟨_, rfl⟩
  have HN := Lib.hid hn
  rw [← hn] at hsl hl
  clear hn
  obtain ⟨B, hB⟩ : ∃ B, B = w.heap.size := ⟨_, rfl⟩
  have H0 := Lib.hid (Below.refl B w)
  have HB0 := Lib.hid hB
  rw [← hB]
  clear hB
  have e1 : ∀ J Q a w, Exit.jump 1 J Q .ret a w = Q .ret a w := fun _ _ _ _ => rfl
  have e2 : ∀ J Q a w, Exit.jump 1 J Q .normal a w = Q .normal a w := fun _ _ _ _ => rfl
  go_enter Tryd.func17, Tryd.ntmps17
  go_wp2
  refine wp_scope_once 1 rfl ?_
  go_wp2
  go_step3
  go_wp2
  go_loopg [5, 6] n (fun gk v i wr => ∃ (p : Nat) (ts : List (Tk × Nat)), p ≤ n ∧ ts.length ≤ p ∧ i = .int .i64 p ∧ n - p ≤ gk ∧ Hid (wr.ownsRow B 55 4 v ts.length (ts.flatMap tkC)) ∧ Hid (Below B w wr) ∧ Hid (tokL l = prep ts (tk (l.drop p) p)))
  case atStart => exact ⟨0, [], Nat.zero_le _, Nat.le_refl _, rfl, by omega, World.ownsRow_nil _ _ _ _, H0.out, tok_start l⟩
  case round =>
    obtain ⟨p, ts, hp, hts, rfl, hgk, HO, HW, HT⟩ := hrel
    by_cases hlt : p < n
    case neg =>
      have e : p = n := by omega
      subst e
      have HR : Hid (tokL l = .ok ts) := by
        have := HT.out
        rw [HN.out] at this
        exact tok_end this
      go_wp2
      rw [e1]
      go_ret3
      refine ⟨?_, HW.out⟩
      rw [HR.out]
      exact ⟨_, rfl, HO.out⟩
    have hpk : p < (st l).size := by omega
    have hat := st_at l p hpk
    have hpz : (0 : Int) ≤ (p : Int) := by omega
    have hpn : (p : Int) < (n : Int) := by omega
    have hpl : p < l.length := by rw [← HN.out]; exact hlt
    have HPL := Lib.hid hpl
    have HBk : ∀ W, Hid (Calls Tryd.prog 28 #[.int .u8 (((l.getD p 0).toNat : Nat) : Int)] W fun e w' => e = .returned (.bool (isBlk (l.getD p 0))) ∧ W = w') := fun W => blank_any _ W
    have HLt : ∀ W, Hid (Calls Tryd.prog 29 #[.int .u8 (((l.getD p 0).toNat : Nat) : Int)] W fun e w' => e = .returned (.bool (isLet (l.getD p 0))) ∧ W = w') := fun W => letter_any _ W
    have HFg : ∀ W, Hid (Calls Tryd.prog 31 #[.int .u8 (((l.getD p 0).toNat : Nat) : Int)] W fun e w' => e = .returned (.bool (isFig (l.getD p 0))) ∧ W = w') := fun W => figure_any _ W
    have hd59 : l.getD p 0 = 59 → (l.getD p 0).toNat = 59 := fun h => by rw [h]; rfl
    have hdn : (l.getD p 0).toNat = 59 → l.getD p 0 = 59 := fun h => UInt8.toNat_inj.1 (by rw [h]; rfl)
    clear hpl
    have HBs : Hid (B ≤ wr.heap.size) := by have := HW.out.size; have := HB0.out; show _ ≤ _; omega
    obtain ⟨c, hc⟩ : ∃ c, c = l.getD p 0 := ⟨_, rfl⟩
    have HC := Lib.hid hc
    rw [← hc] at hat HBk HLt HFg hd59 hdn
    clear hc
    cases hbk : isBlk c with
    | true =>
      rw [hbk] at HBk
      have HR : Hid (tokL l = prep ts (tk (l.drop (p + 1)) (p + 1))) := tok_blank HT.out HPL.out (by rw [← HC.out]; exact hbk)
      clear HLt HFg hd59 hdn hbk
      go_wp2_with (first | (go_at_call 28; refine (HBk _).out.mono ?_; rintro e w' ⟨rfl, rfl⟩) | fail)
      go_roundg (n - (p + 1))
      case measure => omega
      case rel => exact ⟨p + 1, ts, by omega, by omega, by go_num, by omega, Lib.hid (HO.out.alloc _), Lib.hid (HW.out.alloc (by have := HW.out.size; have := HB0.out; omega) _), HR⟩
    | false =>
      have HNB : Hid (isBlk (l.getD p 0) = false) := by show _ = _; rw [← HC.out]; exact hbk
      rw [hbk] at HBk
      clear hbk
      by_cases h59 : c = 59
      · have hc59 := hd59 h59
        have hci : (c.toNat : Int) = 59 := by omega
        have HOK := Lib.hid (tok_ok (t := (3, [59], 0)) HT.out HPL.out HNB.out (by rw [← HC.out, h59]; exact oneL_end _))
        have hex : (st l).extract p (p + 1) = st [59] := by rw [st_one l p HPL.out, ← HC.out, h59]
        rw [hc59] at hat
        simp only [hci] at HBk
        obtain ⟨q, hq⟩ : ∃ q, q = p + 1 := ⟨_, rfl⟩
        have HQ := Lib.hid hq
        rw [← hq] at hex
        have i1 : IntKind.i64.wrap ((p : Int) + 1) = (q : Int) := by rw [IntWalk.i64_in _ (by omega)]; omega
        have b0 : (0 : Int) ≤ (q : Int) := by omega
        have b1 : (q : Int) ≤ (n : Int) := by omega
        have b2 : (p : Int) ≤ (q : Int) := by omega
        clear hd59 hdn HLt HFg h59 hc59 hci hq
        go_wp2_with (first
          | (go_at_call 28; with_reducible refine (HBk _).out.mono ?_; rintro e w' ⟨rfl, rfl⟩)
          | (at_builtin
             refine wpList_append_structG rfl (.tmp 57) (.tmp 59) 50 rfl B 55 _ 4 40 Tryd.underlying50 infoToken rfl (by decide) _ _ rfl (by simp [Value.oneCell']) u5 ts.length _ rfl (new_at _ _) (HO.out.alloc _) (by have := HW.out.size; have := HB0.out; simp; omega) (by unfold maxLen; omega) (by omega) ?_
             intro v' w' h1 h2
             have HK : Blk w' wr.heap.size 55 _ := tok_kept ((Blk.new wr 55 _).alloc _) HO.out h2
             have c1 := HK.cell 1
             have H1 := Lib.hid h1
             have H2 := Lib.hid h2
             clear h1 h2 HK)
          | fail)
        go_roundg (n - q)
        case measure => have := HQ.out; omega
        case rel =>
          have hq := HQ.out
          refine ⟨q, ts ++ [((3, [59], 0), p)], by omega, by simp; omega, ?_, Nat.le_refl _, ?_, ?_, ?_⟩
          · rw [st_size]
            exact congrArg _ (tok_at hq (by omega))
          · exact Lib.hid (tok_own H1.out)
          · exact Lib.hid (tok_below HW.out HBs.out (((Stp.refl [] wr).alloc _).alloc _) HO.out H2.out)
          · have := HOK.out.1
            rw [hq]
            exact Lib.hid this
      · have hne : ¬ (c.toNat : Int) = 59 := fun h => h59 (hdn (by omega))
        have hex : (st l).extract p n = st (l.drop p) := st_drop_to l p n HN.out
        clear hd59 hdn
        cases hlet : isLet c with
        | true =>
          rw [hlet] at HLt
          have hfig : True := trivial
          cases hr : nmL (l.drop p) with
          | none =>
            have HR := Lib.hid (tok_err (e := 2) HT.out HPL.out HNB.out (by rw [← HC.out]; exact oneL_letN h59 hlet hr))
            have HNm : ∀ W, Hid (Calls Tryd.prog 30 #[.string (st (l.drop p))] W fun e w' => e = .returned (.tuple #[.agg #[.int .i64 0, .string ⟨#[]⟩, .int .i64 0, .int .i64 0], .bool false]) ∧ Below W.heap.size W w') := fun W => by
              have := name_any (l.drop p) W (by rw [List.length_drop]; have := HN.out; omega)
              rw [hr] at this
              exact this
            clear hr hlet hfig
            go_wp2_with (first
              | (go_at_call 28; with_reducible refine (HBk _).out.mono ?_; rintro e w' ⟨rfl, rfl⟩)
              | (go_at_call 29; with_reducible refine (HLt _).out.mono ?_; rintro e w' ⟨rfl, rfl⟩)
              | (go_at_call 30
                 with_reducible refine (HNm _).out.mono ?_
                 rintro e w1 ⟨rfl, B1⟩
                 have HK : Blk w1 wr.heap.size 55 #[.int .i64 0, .string ⟨#[]⟩, .int .i64 0, .int .i64 0] := (Blk.new wr 55 _).since B1
                 have c0 := HK.cell 0
                 have c1 := HK.cell 1
                 have c2 := HK.cell 2
                 have c3 := HK.cell 3
                 have f0 := HK.frozen 0
                 have f1 := HK.frozen 1
                 have f2 := HK.frozen 2
                 have f3 := HK.frozen 3
                 have HS1 : Hid (Stp [] wr w1) := Stp.trans (fp' := []) ((Stp.refl [] wr).alloc _) (Stp.of_below B1) (fun _ h => by cases h)
                 have HKh := Lib.hid HK
                 clear HK B1)
              | fail)
            refine wp_goto (And.intro rfl ?_)
            show Code.wp _ _ _ _ _
            go_wp2
            rw [Exit.noGoto_ret]
            go_ret3
            refine ⟨?_, HW.out.trans (Stp.below (fp := []) (by repeat (first | exact HS1.out | refine Stp.setCell ?_ (Or.inr (Nat.le_refl _)) _ | refine Stp.drew ?_ | refine Stp.alloc ?_ _)) (fun _ h => by cases h) HBs.out)⟩
            rw [HR.out]
            rfl

          | some t =>
            obtain ⟨k, T, N⟩ := t
            have HOK := Lib.hid (tok_ok (t := (k, T, N)) HT.out HPL.out HNB.out (by rw [← HC.out]; exact oneL_letS h59 hlet hr))
            have HNm : ∀ W, Hid (Calls Tryd.prog 30 #[.string (st (l.drop p))] W fun e w' => e = .returned (.tuple #[.agg #[.int .i64 (k : Int), .string (st T), .int .i64 (N : Int), .int .i64 0], .bool true]) ∧ Below W.heap.size W w') := fun W => by
              have := name_any (l.drop p) W (by rw [List.length_drop]; have := HN.out; omega)
              rw [hr] at this
              exact this
            obtain ⟨q, hq⟩ : ∃ q, q = p + T.length := ⟨_, rfl⟩
            have hqn : q ≤ n := by rw [HN.out, hq]; exact HOK.out.2.2
            have hpq : p + 1 ≤ q := by rw [hq]; exact Nat.add_le_add_left HOK.out.2.1 p
            have HQ := Lib.hid hq
            clear hr hq hlet hfig
            go_wp2_with (first
              | (go_at_call 28; with_reducible refine (HBk _).out.mono ?_; rintro e w' ⟨rfl, rfl⟩)
              | (go_at_call 29; with_reducible refine (HLt _).out.mono ?_; rintro e w' ⟨rfl, rfl⟩)
              | (go_at_call 30
                 with_reducible refine (HNm _).out.mono ?_
                 rintro e w1 ⟨rfl, B1⟩
                 have HK : Blk w1 wr.heap.size 55 #[.int .i64 0, .string ⟨#[]⟩, .int .i64 0, .int .i64 0] := (Blk.new wr 55 _).since B1
                 have c0 := HK.cell 0
                 have c1 := HK.cell 1
                 have c2 := HK.cell 2
                 have c3 := HK.cell 3
                 have f0 := HK.frozen 0
                 have f1 := HK.frozen 1
                 have f2 := HK.frozen 2
                 have f3 := HK.frozen 3
                 have HS1 : Hid (Stp [] wr w1) := Stp.trans (fp' := []) ((Stp.refl [] wr).alloc _) (Stp.of_below B1) (fun _ h => by cases h)
                 have HKh := Lib.hid HK
                 clear HK B1)
              | (refine wpList_mark ((((w1.setCell ⟨wr.heap.size, 0, none⟩ (.int .i64 (k : Int))).setCell ⟨wr.heap.size, 1, none⟩ (.string (st T))).setCell ⟨wr.heap.size, 2, none⟩ (.int .i64 (N : Int))).setCell ⟨wr.heap.size, 3, none⟩ (.int .i64 0)) ?_
                 have HK2 : Blk ((((w1.setCell ⟨wr.heap.size, 0, none⟩ (.int .i64 (k : Int))).setCell ⟨wr.heap.size, 1, none⟩ (.string (st T))).setCell ⟨wr.heap.size, 2, none⟩ (.int .i64 (N : Int))).setCell ⟨wr.heap.size, 3, none⟩ (.int .i64 0)) wr.heap.size 55 #[.int .i64 (k : Int), .string (st T), .int .i64 (N : Int), .int .i64 0] := (((HKh.out.set 0 (.int .i64 (k : Int))).set 1 (.string (st T))).set 2 (.int .i64 (N : Int))).set 3 (.int .i64 0)
                 have HS2 : Stp [] wr ((((w1.setCell ⟨wr.heap.size, 0, none⟩ (.int .i64 (k : Int))).setCell ⟨wr.heap.size, 1, none⟩ (.string (st T))).setCell ⟨wr.heap.size, 2, none⟩ (.int .i64 (N : Int))).setCell ⟨wr.heap.size, 3, none⟩ (.int .i64 0)) := (((HS1.out.setCell (Or.inr (Nat.le_refl _)) _).setCell (Or.inr (Nat.le_refl _)) _).setCell (Or.inr (Nat.le_refl _)) _).setCell (Or.inr (Nat.le_refl _)) _
                 generalize (((w1.setCell ⟨wr.heap.size, 0, none⟩ (.int .i64 (k : Int))).setCell ⟨wr.heap.size, 1, none⟩ (.string (st T))).setCell ⟨wr.heap.size, 2, none⟩ (.int .i64 (N : Int))).setCell ⟨wr.heap.size, 3, none⟩ (.int .i64 0) = w2 at HK2 HS2 ⊢
                 have d0 := HK2.cell 0
                 have d1 := HK2.cell 1
                 have d2 := HK2.cell 2
                 have d3 := HK2.cell 3
                 have g0 := HK2.frozen 0
                 have g1 := HK2.frozen 1
                 have g2 := HK2.frozen 2
                 have g3 := HK2.frozen 3
                 have HKi := Lib.hid HK2
                 have HS3 := Lib.hid HS2
                 clear HK2 HS2 c0 c1 c2 c3 f0 f1 f2 f3)
              | (at_builtin
                 refine wpList_append_structG rfl (.tmp 57) (.tmp 59) 50 rfl B 55 _ 4 40 Tryd.underlying50 infoToken rfl (by decide) _ _ rfl (by simp [Value.oneCell']) u5 ts.length _ rfl (new_set _ _ _) (own_stp (fp := []) HO.out (by repeat (first | exact HS3.out | refine Stp.setCell ?_ (Or.inr (Nat.le_refl _)) _ | refine Stp.drew ?_ | refine Stp.alloc ?_ _)) (fun _ _ h => by cases h)) (by have := HS3.out.size; have := HBs.out; simp; omega) (by unfold maxLen; omega) (by omega) ?_
                 intro v' w' h1 h2
                 have HK0 := (HKi.out.set 3 (.int .i64 (p : Int))).alloc (.cells #[.int .i64 (k : Int), .string (st T), .int .i64 (N : Int), .int .i64 (p : Int)] 55)
                 have HK1 := tok_kept HK0 HO.out h2
                 have HK : Blk w' wr.heap.size 55 #[.int .i64 (k : Int), .string (st T), .int .i64 (N : Int), .int .i64 (p : Int)] := HK1
                 have c1 := HK.cell 1
                 have H1 := Lib.hid h1
                 have H2 := Lib.hid h2
                 clear h1 h2 HK HK0 HK1)
              | fail)
            go_roundg (n - q)
            case measure => omega
            case rel =>
              have hq := HQ.out
              refine ⟨q, ts ++ [((k, T, N), p)], by omega, by simp; omega, ?_, Nat.le_refl _, ?_, ?_, ?_⟩
              · rw [st_size, tok_at hq (by omega)]
              · exact Lib.hid (tok_own H1.out)
              · exact Lib.hid (tok_below HW.out HBs.out (by repeat (first | exact HS3.out | refine Stp.setCell ?_ (Or.inr (Nat.le_refl _)) _ | refine Stp.drew ?_ | refine Stp.alloc ?_ _)) HO.out H2.out)
              · have := HOK.out.1
                rw [hq]
                exact Lib.hid this

        | false =>
          rw [hlet] at HLt
          cases hfig : isFig c with
          | true =>
            rw [hfig] at HFg
            cases hr : nrL (l.drop p) with
            | none =>
              have HR := Lib.hid (tok_err (e := 2) HT.out HPL.out HNB.out (by rw [← HC.out]; exact oneL_figN h59 hlet hfig hr))
              have HNm : ∀ W, Hid (Calls Tryd.prog 32 #[.string (st (l.drop p))] W fun e w' => e = .returned (.tuple #[.agg #[.int .i64 0, .string ⟨#[]⟩, .int .i64 0, .int .i64 0], .bool false]) ∧ Below W.heap.size W w') := fun W => by
                have := number_any (l.drop p) W (by rw [List.length_drop]; have := HN.out; omega)
                rw [hr] at this
                exact this
              clear hr hlet hfig
              go_wp2_with (first
                | (go_at_call 28; with_reducible refine (HBk _).out.mono ?_; rintro e w' ⟨rfl, rfl⟩)
                | (go_at_call 29; with_reducible refine (HLt _).out.mono ?_; rintro e w' ⟨rfl, rfl⟩)
                | (go_at_call 31; with_reducible refine (HFg _).out.mono ?_; rintro e w' ⟨rfl, rfl⟩)
                | (go_at_call 32
                   with_reducible refine (HNm _).out.mono ?_
                   rintro e w1 ⟨rfl, B1⟩
                   have HK : Blk w1 wr.heap.size 55 #[.int .i64 0, .string ⟨#[]⟩, .int .i64 0, .int .i64 0] := (Blk.new wr 55 _).since B1
                   have c0 := HK.cell 0
                   have c1 := HK.cell 1
                   have c2 := HK.cell 2
                   have c3 := HK.cell 3
                   have f0 := HK.frozen 0
                   have f1 := HK.frozen 1
                   have f2 := HK.frozen 2
                   have f3 := HK.frozen 3
                   have HS1 : Hid (Stp [] wr w1) := Stp.trans (fp' := []) ((Stp.refl [] wr).alloc _) (Stp.of_below B1) (fun _ h => by cases h)
                   have HKh := Lib.hid HK
                   clear HK B1)
                | fail)
              refine wp_goto (And.intro rfl ?_)
              show Code.wp _ _ _ _ _
              go_wp2
              rw [Exit.noGoto_ret]
              go_ret3
              refine ⟨?_, HW.out.trans (Stp.below (fp := []) (by repeat (first | exact HS1.out | refine Stp.setCell ?_ (Or.inr (Nat.le_refl _)) _ | refine Stp.drew ?_ | refine Stp.alloc ?_ _)) (fun _ h => by cases h) HBs.out)⟩
              rw [HR.out]
              rfl
  
            | some t =>
              obtain ⟨k, T, N⟩ := t
              have HOK := Lib.hid (tok_ok (t := (k, T, N)) HT.out HPL.out HNB.out (by rw [← HC.out]; exact oneL_figS h59 hlet hfig hr))
              have HNm : ∀ W, Hid (Calls Tryd.prog 32 #[.string (st (l.drop p))] W fun e w' => e = .returned (.tuple #[.agg #[.int .i64 (k : Int), .string (st T), .int .i64 (N : Int), .int .i64 0], .bool true]) ∧ Below W.heap.size W w') := fun W => by
                have := number_any (l.drop p) W (by rw [List.length_drop]; have := HN.out; omega)
                rw [hr] at this
                exact this
              obtain ⟨q, hq⟩ : ∃ q, q = p + T.length := ⟨_, rfl⟩
              have hqn : q ≤ n := by rw [HN.out, hq]; exact HOK.out.2.2
              have hpq : p + 1 ≤ q := by rw [hq]; exact Nat.add_le_add_left HOK.out.2.1 p
              have HQ := Lib.hid hq
              clear hr hq hlet hfig
              go_wp2_with (first
                | (go_at_call 28; with_reducible refine (HBk _).out.mono ?_; rintro e w' ⟨rfl, rfl⟩)
                | (go_at_call 29; with_reducible refine (HLt _).out.mono ?_; rintro e w' ⟨rfl, rfl⟩)
                | (go_at_call 31; with_reducible refine (HFg _).out.mono ?_; rintro e w' ⟨rfl, rfl⟩)
                | (go_at_call 32
                   with_reducible refine (HNm _).out.mono ?_
                   rintro e w1 ⟨rfl, B1⟩
                   have HK : Blk w1 wr.heap.size 55 #[.int .i64 0, .string ⟨#[]⟩, .int .i64 0, .int .i64 0] := (Blk.new wr 55 _).since B1
                   have c0 := HK.cell 0
                   have c1 := HK.cell 1
                   have c2 := HK.cell 2
                   have c3 := HK.cell 3
                   have f0 := HK.frozen 0
                   have f1 := HK.frozen 1
                   have f2 := HK.frozen 2
                   have f3 := HK.frozen 3
                   have HS1 : Hid (Stp [] wr w1) := Stp.trans (fp' := []) ((Stp.refl [] wr).alloc _) (Stp.of_below B1) (fun _ h => by cases h)
                   have HKh := Lib.hid HK
                   clear HK B1)
                | (refine wpList_mark ((((w1.setCell ⟨wr.heap.size, 0, none⟩ (.int .i64 (k : Int))).setCell ⟨wr.heap.size, 1, none⟩ (.string (st T))).setCell ⟨wr.heap.size, 2, none⟩ (.int .i64 (N : Int))).setCell ⟨wr.heap.size, 3, none⟩ (.int .i64 0)) ?_
                   have HK2 : Blk ((((w1.setCell ⟨wr.heap.size, 0, none⟩ (.int .i64 (k : Int))).setCell ⟨wr.heap.size, 1, none⟩ (.string (st T))).setCell ⟨wr.heap.size, 2, none⟩ (.int .i64 (N : Int))).setCell ⟨wr.heap.size, 3, none⟩ (.int .i64 0)) wr.heap.size 55 #[.int .i64 (k : Int), .string (st T), .int .i64 (N : Int), .int .i64 0] := (((HKh.out.set 0 (.int .i64 (k : Int))).set 1 (.string (st T))).set 2 (.int .i64 (N : Int))).set 3 (.int .i64 0)
                   have HS2 : Stp [] wr ((((w1.setCell ⟨wr.heap.size, 0, none⟩ (.int .i64 (k : Int))).setCell ⟨wr.heap.size, 1, none⟩ (.string (st T))).setCell ⟨wr.heap.size, 2, none⟩ (.int .i64 (N : Int))).setCell ⟨wr.heap.size, 3, none⟩ (.int .i64 0)) := (((HS1.out.setCell (Or.inr (Nat.le_refl _)) _).setCell (Or.inr (Nat.le_refl _)) _).setCell (Or.inr (Nat.le_refl _)) _).setCell (Or.inr (Nat.le_refl _)) _
                   generalize (((w1.setCell ⟨wr.heap.size, 0, none⟩ (.int .i64 (k : Int))).setCell ⟨wr.heap.size, 1, none⟩ (.string (st T))).setCell ⟨wr.heap.size, 2, none⟩ (.int .i64 (N : Int))).setCell ⟨wr.heap.size, 3, none⟩ (.int .i64 0) = w2 at HK2 HS2 ⊢
                   have d0 := HK2.cell 0
                   have d1 := HK2.cell 1
                   have d2 := HK2.cell 2
                   have d3 := HK2.cell 3
                   have g0 := HK2.frozen 0
                   have g1 := HK2.frozen 1
                   have g2 := HK2.frozen 2
                   have g3 := HK2.frozen 3
                   have HKi := Lib.hid HK2
                   have HS3 := Lib.hid HS2
                   clear HK2 HS2 c0 c1 c2 c3 f0 f1 f2 f3)
                | (at_builtin
                   refine wpList_append_structG rfl (.tmp 57) (.tmp 59) 50 rfl B 55 _ 4 40 Tryd.underlying50 infoToken rfl (by decide) _ _ rfl (by simp [Value.oneCell']) u5 ts.length _ rfl (new_set _ _ _) (own_stp (fp := []) HO.out (by repeat (first | exact HS3.out | refine Stp.setCell ?_ (Or.inr (Nat.le_refl _)) _ | refine Stp.drew ?_ | refine Stp.alloc ?_ _)) (fun _ _ h => by cases h)) (by have := HS3.out.size; have := HBs.out; simp; omega) (by unfold maxLen; omega) (by omega) ?_
                   intro v' w' h1 h2
                   have HK0 := (HKi.out.set 3 (.int .i64 (p : Int))).alloc (.cells #[.int .i64 (k : Int), .string (st T), .int .i64 (N : Int), .int .i64 (p : Int)] 55)
                   have HK1 := tok_kept HK0 HO.out h2
                   have HK : Blk w' wr.heap.size 55 #[.int .i64 (k : Int), .string (st T), .int .i64 (N : Int), .int .i64 (p : Int)] := HK1
                   have c1 := HK.cell 1
                   have H1 := Lib.hid h1
                   have H2 := Lib.hid h2
                   clear h1 h2 HK HK0 HK1)
                | fail)
              go_roundg (n - q)
              case measure => omega
              case rel =>
                have hq := HQ.out
                refine ⟨q, ts ++ [((k, T, N), p)], by omega, by simp; omega, ?_, Nat.le_refl _, ?_, ?_, ?_⟩
                · rw [st_size, tok_at hq (by omega)]
                · exact Lib.hid (tok_own H1.out)
                · exact Lib.hid (tok_below HW.out HBs.out (by repeat (first | exact HS3.out | refine Stp.setCell ?_ (Or.inr (Nat.le_refl _)) _ | refine Stp.drew ?_ | refine Stp.alloc ?_ _)) HO.out H2.out)
                · have := HOK.out.1
                  rw [hq]
                  exact Lib.hid this
  
          | false =>
            rw [hfig] at HFg
            have HR := Lib.hid (tok_err (e := 3) HT.out HPL.out HNB.out (by rw [← HC.out]; exact oneL_else h59 hlet hfig))
            clear hlet hfig hex
            go_wp2_with (first
              | (go_at_call 28; with_reducible refine (HBk _).out.mono ?_; rintro e w' ⟨rfl, rfl⟩)
              | (go_at_call 29; with_reducible refine (HLt _).out.mono ?_; rintro e w' ⟨rfl, rfl⟩)
              | (go_at_call 31; with_reducible refine (HFg _).out.mono ?_; rintro e w' ⟨rfl, rfl⟩)
              | fail)
            rw [e1]
            go_ret3
            refine ⟨?_, HW.out.alloc HBs.out _⟩
            rw [HR.out]
            rfl
end Go.Proofs.YtjegfoeempojiaaDoor
