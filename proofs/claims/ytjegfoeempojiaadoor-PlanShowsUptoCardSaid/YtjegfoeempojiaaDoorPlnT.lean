/-
  Contract of plan.Parse.
-/
import Derived.Test.YtjegfoeempojiaaDoorPlnS
import Derived.Test.YtjegfoeempojiaaDoorOwnS
import Derived.BigQuiet
namespace Go.Proofs.YtjegfoeempojiaaDoor
open Go.RowKit Go.Maps

theorem tksL_len : ∀ (f : Nat) (l : List UInt8) (a : Nat) (ts : Tks), tksL f l a = .ok ts → ts.length ≤ f ∧ ∀ t ∈ ts, t.1.2.1.length ≤ l.length := by
  intro f
  induction f with
  | zero => intro l a ts h; injection h with h; subst h; exact ⟨Nat.le_refl _, fun t ht => by cases ht⟩
  | succ f ih =>
    intro l a ts h
    cases l with
    | nil => injection h with h; subst h; exact ⟨Nat.zero_le _, fun t ht => by cases ht⟩
    | cons c r =>
      simp only [tksL] at h
      split at h
      · obtain ⟨h1, h2⟩ := ih _ _ _ h
        exact ⟨by omega, fun t ht => by have := h2 t ht; rw [List.length_cons]; omega⟩
      · split at h
        · cases h
        · rename_i t ho
          split at h
          · cases h
          · rename_i us hu
            injection h with h
            subst h
            obtain ⟨h1, h2⟩ := ih _ _ _ hu
            have h3 := oneL_len c r t ho
            refine ⟨by rw [List.length_cons]; omega, fun x hx => ?_⟩
            rcases List.mem_cons.1 hx with e | hx
            · rw [e]; exact h3.2
            · have := h2 x hx
              rw [List.length_drop] at this
              omega
theorem tokL_len {l : List UInt8} {ts : Tks} (h : tokL l = .ok ts) : ts.length ≤ l.length ∧ ∀ t ∈ ts, t.1.2.1.length ≤ l.length := tksL_len _ _ _ _ h

theorem oneL_errno {c : UInt8} {l : List UInt8} {x : Nat} (h : oneL c l = .error x) : x ≠ 0 := by
  unfold oneL at h
  split at h
  · cases h
  · split at h
    · split at h
      · cases h
      · injection h with h; omega
    · split at h
      · split at h
        · cases h
        · injection h with h; omega
      · injection h with h; omega
theorem tksL_errno : ∀ (f : Nat) (l : List UInt8) (a p x : Nat), tksL f l a = .error (p, x) → x ≠ 0 := by
  intro f
  induction f with
  | zero => intro l a p x h; cases h
  | succ f ih =>
    intro l a p x h
    cases l with
    | nil => cases h
    | cons c r =>
      simp only [tksL] at h
      split at h
      · exact ih _ _ _ _ h
      · split at h
        · rename_i e ho
          injection h with h
          injection h with _ h
          rw [← h]
          exact oneL_errno ho
        · split at h
          · rename_i e he
            injection h with h
            rw [h] at he
            exact ih _ _ _ _ he
          · cases h
theorem tokL_errno {l : List UInt8} {p x : Nat} (h : tokL l = .error (p, x)) : x ≠ 0 := tksL_errno _ _ _ _ _ h

/-- what Parse answers -/
def PrsP (B : Nat) (r : Rls) (e : Ending) (w : World) : Prop :=
  match r with
  | .error (p, x) => e = .returned (.tuple #[.slice none 0 0, .int .i64 (p : Int), .int .i64 (x : Int)])
  | .ok l => ∃ v, e = .returned (.tuple #[v, .int .i64 0, .int .i64 0]) ∧ w.ownsRow B 24 4 v l.length (l.flatMap cR)

theorem infoRule : (Tryd.prog.info? 24).map (fun i => (i.zero, i.size, i.bytes)) = some (some (.agg #[.string ⟨#[]⟩, .string ⟨#[]⟩, .int .i64 0, .int .i64 0]), 4, 48) := by kernel_rfl

theorem bel_drewN {B n : Nat} {w w' : World} (h : Below B w w') : Below B w (w'.drewN n) := ⟨h.os, h.tape, h.output, h.size, h.block⟩

theorem own_mono {w : World} {base base' : Nat} {e : TypeId} {size : Nat} {v : Value} {n : Nat} {xs : List Value} (h : w.ownsRow base e size v n xs) (hb : base' ≤ base) : w.ownsRow base' e size v n xs := by
  obtain ⟨h1, h2⟩ := h
  rcases h2 with h2 | ⟨g, cap, cur, q1, q2, q3⟩
  · exact ⟨h1, .inl h2⟩
  · exact ⟨h1, .inr ⟨g, cap, cur, q1, Nat.le_trans hb q2, q3⟩⟩
theorem own_snoc {w : World} {B ln : Nat} {v : Value} {x : Rl} {rs : List Rl} (h : w.ownsRow B 24 4 v (ln + 1) (rs.flatMap cR ++ #[.string (st x.1), .string (st x.2.1), .int .i64 x.2.2.1, .int .i64 x.2.2.2].toList)) (hl : ln = rs.length) :
    w.ownsRow B 24 4 v (rs ++ [x]).length ((rs ++ [x]).flatMap cR) := by
  subst hl
  rw [List.length_append, List.flatMap_append]
  exact h
theorem RowK.none' {α : Type} {c : α → List Value} {w : World} {a : Option Addr} {xs : List α} (h : xs.length = 0) : RowK c w a xs := fun h0 => absurd h0 (by omega)

theorem keep4 {w : World} {b g : Nat} {t : TypeId} {cs : Array Value} (h : Blk w b t cs) (hne : b ≠ g) (v0 v1 v2 v3 : Value) : Blk ((((w.setCell ⟨g, 0, none⟩ v0).setCell ⟨g, 1, none⟩ v1).setCell ⟨g, 2, none⟩ v2).setCell ⟨g, 3, none⟩ v3) b t cs :=
  (((h.other (a := ⟨g, 0, none⟩) hne v0).other (a := ⟨g, 1, none⟩) hne v1).other (a := ⟨g, 2, none⟩) hne v2).other (a := ⟨g, 3, none⟩) hne v3
theorem tok4 {w : World} {b : Nat} {t : TypeId} {a0 a1 a2 a3 : Value} (h : Blk w b t #[a0, a1, a2, a3]) : w.cell? ⟨b, 0, none⟩ = some a0 ∧ w.cell? ⟨b, 1, none⟩ = some a1 ∧ w.cell? ⟨b, 2, none⟩ = some a2 ∧ w.cell? ⟨b, 3, none⟩ = some a3 :=
  ⟨h.cell 0, h.cell 1, h.cell 2, h.cell 3⟩

/-- no token's text is long -/
def Shorts (ts : Tks) : Prop := ∀ (i : Nat) (t : Tk × Nat), ts[i]? = some t → t.1.2.1.length ≤ 1000000000

theorem dropT_at {ts : Tks} {p : Nat} {t : Tk × Nat} (h : ts[p]? = some t) : (ts.drop p)[0]? = some t := by rw [List.getElem?_drop]; exact h

set_option maxHeartbeats 4000000 in
set_option maxRecDepth 100000 in
theorem parse_any (s : List UInt8) (w : World) (hl : s.length ≤ 1000000000) :
    Calls Tryd.prog 9 #[.string (st s)] w fun e w' => PrsP w.heap.size (prL s) e w' ∧ Below w.heap.size w w' := by
  obtain ⟨B, hB⟩ : ∃ B, B = w.heap.size := ⟨_, rfl⟩
  have HB0 := Lib.hid hB
  have HT : ∀ W, Hid (Calls Tryd.prog 17 #[.string (st s)] W fun e w' => TokP W.heap.size (tokL s) e w' ∧ Below W.heap.size W w') := fun W => tokens_any s W (by omega)
  cases htk : tokL s with
  | error px =>
    obtain ⟨p, x⟩ := px
    have HT2 : ∀ W, Hid (Calls Tryd.prog 17 #[.string (st s)] W fun e w' => e = .returned (.tuple #[.slice none 0 0, .int .i64 (p : Int), .int .i64 (x : Int)]) ∧ Below W.heap.size W w') := fun W => by
      refine (HT W).out.mono ?_
      rintro e w' ⟨h, hb⟩
      rw [htk] at h
      exact ⟨h, hb⟩
    have hx : x ≠ 0 := tokL_errno htk
    have hx2 : ¬ ((x : Int) = 0) := by omega
    have HPR : Hid (prL s = .error (p, x)) := by show _ = _; unfold prL; rw [htk]
    rw [HPR.out]
    clear HT htk hl hx
    go_enter Tryd.func9, Tryd.ntmps9
    go_wp2_with (first | (go_at_call 17; with_reducible refine (HT2 _).out.mono ?_; rintro e w1 ⟨rfl, hb⟩; have HB1 := Lib.hid hb; clear hb) | fail)
    go_ret3
    exact ⟨rfl, HB1.out⟩
  | ok ts =>
    have HPR : Hid (prL s = prs ts 0) := by show _ = _; unfold prL; rw [htk]
    have hlen := tokL_len htk
    have HLN : Hid (ts.length ≤ 1000000000) := Nat.le_trans hlen.1 hl
    have HTX : Hid (Shorts ts) := fun i t ht => Nat.le_trans (hlen.2 t (List.mem_of_getElem? ht)) hl
    obtain ⟨n, hn⟩ : ∃ n, n = ts.length := ⟨_, rfl⟩
    have HN := Lib.hid hn
    have hnl : n ≤ 1000000000 := by rw [hn]; exact HLN.out
    have HT2 : ∀ W, Hid (Calls Tryd.prog 17 #[.string (st s)] W fun e w' => ∃ a c, e = .returned (.tuple #[.slice a n c, .int .i64 0, .int .i64 0]) ∧ RowK tkC w' a ts ∧ n ≤ c ∧ Below W.heap.size W w') := fun W => by
      refine (HT W).out.mono ?_
      rintro e w' ⟨h, hb⟩
      rw [htk] at h
      obtain ⟨v, he, ho⟩ := h
      obtain ⟨a, c, hv, hr, _, hc⟩ := RowK.own tkC_len ho rfl
      exact ⟨a, c, by rw [he, hv, hn], hr, by rw [hn]; exact hc, hb⟩
    rw [HPR.out]
    rw [← hB]
    clear HT htk hlen hn hl hB
    go_enter Tryd.func9, Tryd.ntmps9
    go_wp2_with (first | (go_at_call 17; with_reducible refine (HT2 _).out.mono ?_; rintro e w1 ⟨a1, c1, rfl, hr, hc1, hb⟩; have HR := Lib.hid hr; have HB1 := Lib.hid hb; clear hr hb) | fail)
    have HBW : Hid (Below B w w1) := by rw [HB0.out]; exact HB1.out
    obtain ⟨B1, hB1⟩ : ∃ B1, B1 = w1.heap.size := ⟨_, rfl⟩
    have HB1E := Lib.hid hB1
    have HBB1 : Hid (B ≤ B1) := by rw [hB1, HB0.out]; exact HB1.out.size
    have HBX : Hid (∀ W, Below B1 w1 W → Below B w W) := fun W h => HBW.out.trans (bel_less h HBB1.out)
    have hcap : n ≤ c1 := hc1
    clear HB1 HT2 hc1 hB1 HBW
    have hn0 : n - 0 = n := Nat.sub_zero n
    have HST : Hid (RowK tkC w1 a1 (ts.drop 0)) := HR.out
    clear HR
    go_loopg [5, 8, 9, 10, 11, 12] n (fun gk tv v _ _ _ _ wr => ∃ (p q c : Nat) (a : Option Addr) (rs : List Rl) (v0 : Value), p + q = n ∧ tv = .slice a q c ∧ v0 = v ∧ q ≤ c ∧ q ≤ gk ∧ rs.length ≤ 40 ∧ Hid (RowK tkC w1 a (ts.drop p)) ∧ Hid (wr.ownsRow B1 24 4 v0 rs.length (rs.flatMap cR)) ∧ Hid (prs ts 0 = prepR rs (prs (ts.drop p) rs.length)) ∧ Hid (Below B1 w1 wr))
    case atStart => exact ⟨0, n, c1, a1, [], _, by omega, rfl, rfl, hcap, Nat.le_refl _, by simp, HST, World.ownsRow_nil _ _ _ _, (by show _ = _; rw [prepR_nil]; rfl), Below.refl _ _⟩
    case round =>
      clear HST hcap
      obtain ⟨p, q, c, a, rs, v, hpq, rfl, rfl, hqc, hgk, hrs, HRW1, HOW, HE, HB⟩ := hrel
      have HBs : Hid (B1 ≤ wr.heap.size) := by have := HB.out.size; have := HB1E.out; show _ ≤ _; omega
      have HRW : Hid (RowK tkC wr a (ts.drop p)) := HRW1.out.keep (HB1E.out ▸ HB.out)
      obtain ⟨ln, hln⟩ : ∃ ln, ln = rs.length := ⟨_, rfl⟩
      have HLNr := Lib.hid hln
      rw [← hln] at hrs HOW HE
      clear hln
      obtain ⟨av, cv, rfl⟩ : ∃ av cv, v = .slice av ln cv := by
        obtain ⟨a', c', h, _⟩ := RowK.own cR_len HOW.out HLNr.out
        exact ⟨a', c', by rw [h, ← HLNr.out]⟩
      by_cases hlt : 0 < q
      case' neg =>
        have hq0 : q = 0 := by omega
        subst hq0
        have HRES : Hid (prs ts 0 = .ok rs) := by
          have h := HE.out
          rw [show p = ts.length by rw [← HN.out]; omega] at h
          exact prs_end h
        go_wp2
        go_ret3
        refine ⟨?_, HBX.out _ HB.out⟩
        rw [HRES.out]
        exact ⟨_, rfl, by rw [← HLNr.out]; exact own_mono HOW.out HBB1.out⟩
      case' pos =>
        obtain ⟨t, ht⟩ : ∃ t, ts[p]? = some t := ⟨_, List.getElem?_eq_getElem (by rw [← HN.out]; omega)⟩
        have hdl : (ts.drop p).length = q := by rw [List.length_drop, ← HN.out]; omega
        obtain ⟨b, off, rfl, hc⟩ := HRW.out (by rw [hdl]; exact hlt)
        have c0 : wr.cell? ⟨b, off, none⟩ = some (.int .i64 (t.1.1 : Int)) := by simpa using hc 0 t (dropT_at ht) 0 _ rfl
        have c1 : wr.cell? ⟨b, off + 1, none⟩ = some (.string (st t.1.2.1)) := by simpa using hc 0 t (dropT_at ht) 1 _ rfl
        have c2 : wr.cell? ⟨b, off + 2, none⟩ = some (.int .i64 (t.1.2.2 : Int)) := by simpa using hc 0 t (dropT_at ht) 2 _ rfl
        have c3 : wr.cell? ⟨b, off + 3, none⟩ = some (.int .i64 (t.2 : Int)) := by simpa using hc 0 t (dropT_at ht) 3 _ rfl
        have hq0 : (0 : Int) < (q : Int) := by omega
        obtain ⟨E, hE⟩ : ∃ E, E = endI (ts.drop p) := ⟨_, rfl⟩
        have HEE := Lib.hid hE
        obtain ⟨I, hI⟩ : ∃ I : Int, I = if E < q then (E : Int) else -1 := ⟨_, rfl⟩
        have HIX : Hid (∀ o : Obj, Calls Tryd.prog 18 #[.slice (some ⟨b, off, none⟩) q c, .func (.func 19) #[] #[]] (wr.alloc o) fun e w' => e = .returned (.int .i64 I) ∧ Below (wr.alloc o).heap.size (wr.alloc o) w') := by
          intro o
          have := index_any (some ⟨b, off, none⟩) c (ts.drop p) (wr.alloc o) (HRW.out.alloc o) (by rw [hdl]; omega)
          rw [hdl, ← hE, ← hI] at this
          exact this
        have HHT := Lib.hid ht
        clear hE hc ht
        by_cases hbad : E = 0 ∨ q ≤ E
        case' pos =>
          have hI1 : I < 1 := by
            rw [hI]
            split
            · omega
            · omega
          have HRES : Hid (prs ts 0 = .error (t.2, 3)) := prs_noEnd HE.out HHT.out (by rw [← HEE.out, ← HN.out]; omega)
          clear hI hbad
          go_wp2_with (first | (go_at_call 18; with_reducible refine (HIX.out _).mono ?_; rintro e w2 ⟨rfl, hb2⟩; have HBK := Lib.hid ((Blk.new wr 55 #[.int .i64 (t.1.1 : Int), .string (st t.1.2.1), .int .i64 (t.1.2.2 : Int), .int .i64 (t.2 : Int)]).since hb2); have HB2 := Lib.hid (bel_on (HB.out.alloc HBs.out _) (Nat.le_trans HBs.out (by simp)) hb2); clear hb2) | fail)
          have d3 := HBK.out.cell 3
          go_quiet (fail)
          go_wp2
          go_ret3
          refine ⟨?_, bel_drewN (HBX.out _ HB2.out)⟩
          rw [HRES.out]
          rfl
        case' neg =>
          have hE1 : 1 ≤ E := by omega
          have hE2 : E < q := by omega
          have hIE : I = (E : Int) := by rw [hI, if_pos hE2]
          subst hIE
          clear hI hbad
          have i1 : (1 : Int) ≤ (E : Int) := by omega
          have i2 : ¬ ((E : Int) < 1) := by omega
          have i3 : (E : Int) ≤ (c : Int) := by omega
          have i4 : (E : Int) ≤ (q : Int) := by omega
          have i5 : ¬ c = 1 := by omega
          go_wp2_with (first | (go_at_call 18; with_reducible refine (HIX.out _).mono ?_; rintro e w2 ⟨rfl, hb2⟩; have HBK := Lib.hid ((Blk.new wr 55 #[.int .i64 (t.1.1 : Int), .string (st t.1.2.1), .int .i64 (t.1.2.2 : Int), .int .i64 (t.2 : Int)]).since hb2); have HB2 := Lib.hid (bel_on ((Below.refl _ wr).alloc (Nat.le_refl _) _) (by simp) hb2); clear hb2) | fail)
          have hdr : ((ts.drop (p + 1)).take (E - 1)).length = E - 1 := by rw [List.length_take, List.length_drop, ← HN.out]; omega
          have HRU : Hid (∀ W, Below wr.heap.size wr W → Calls Tryd.prog 20 #[.agg #[.int .i64 (t.1.1 : Int), .string (st t.1.2.1), .int .i64 (t.1.2.2 : Int), .int .i64 (t.2 : Int)], .slice (some ⟨b, off + 4, none⟩) (E - 1) (c - 1)] W fun e w' => e = .returned (rlR (ruleL t.1 (((ts.drop (p + 1)).take (E - 1)).map (·.1)))) ∧ Below W.heap.size W w') := by
            intro W hW
            have hrw : RowK tkC W (some ⟨b, off + 4, none⟩) ((ts.drop (p + 1)).take (E - 1)) := by
              have := ((HRW.out.keep hW).drop 1).take (E - 1)
              rw [List.drop_drop] at this
              exact this
            have := rule_any t (some ⟨b, off + 4, none⟩) (c - 1) _ W hrw (by rw [hdr]; omega) (HTX.out p t HHT.out)
            rw [hdr] at this
            exact this
          have HPS : Hid (1 ≤ endI (ts.drop p) ∧ p + endI (ts.drop p) < ts.length) := by rw [← HEE.out, ← HN.out]; show _ ∧ _; omega
          rw [HEE.out] at HRU
          generalize hru : ruleL t.1 (((ts.drop (p + 1)).take (endI (ts.drop p) - 1)).map (·.1)) = ru at HRU
          rw [← HEE.out] at HRU
          have HRUd := Lib.hid (HRU.out w2.drew HB2.out.drew)
          have HBKd : Hid (Blk w2.drew wr.heap.size 55 #[.int .i64 (t.1.1 : Int), .string (st t.1.2.1), .int .i64 (t.1.2.2 : Int), .int .i64 (t.2 : Int)]) := HBK.out
          have d0 : w2.drew.cell? ⟨wr.heap.size, 0, none⟩ = some (.int .i64 (t.1.1 : Int)) := HBK.out.cell 0
          have d1 : w2.drew.cell? ⟨wr.heap.size, 1, none⟩ = some (.string (st t.1.2.1)) := HBK.out.cell 1
          have d2 : w2.drew.cell? ⟨wr.heap.size, 2, none⟩ = some (.int .i64 (t.1.2.2 : Int)) := HBK.out.cell 2
          have d3 : w2.drew.cell? ⟨wr.heap.size, 3, none⟩ = some (.int .i64 (t.2 : Int)) := HBK.out.cell 3
          obtain ⟨wa, hwa⟩ : ∃ wa, wa = (w2.alloc (.cells #[.string ⟨#[]⟩, .string ⟨#[]⟩, .int .i64 0, .int .i64 0] 24)).drew := ⟨_, rfl⟩
          have HBa : Hid (Below wr.heap.size wr wa) := by rw [hwa]; exact (HB2.out.alloc HB2.out.size _).drew
          have HRUa := Lib.hid (HRU.out wa HBa.out)
          have HBKa : Hid (Blk wa wr.heap.size 55 #[.int .i64 (t.1.1 : Int), .string (st t.1.2.1), .int .i64 (t.1.2.2 : Int), .int .i64 (t.2 : Int)]) := by rw [hwa]; exact HBK.out.alloc _
          have HRSa : Hid (Blk wa w2.heap.size 24 #[.string ⟨#[]⟩, .string ⟨#[]⟩, .int .i64 0, .int .i64 0]) := by rw [hwa]; exact Blk.new w2 _ _
          have ka : wa.cell? ⟨wr.heap.size, 0, none⟩ = some (.int .i64 (t.1.1 : Int)) ∧ wa.cell? ⟨wr.heap.size, 1, none⟩ = some (.string (st t.1.2.1)) ∧ wa.cell? ⟨wr.heap.size, 2, none⟩ = some (.int .i64 (t.1.2.2 : Int)) ∧ wa.cell? ⟨wr.heap.size, 3, none⟩ = some (.int .i64 (t.2 : Int)) := ⟨HBKa.out.cell 0, HBKa.out.cell 1, HBKa.out.cell 2, HBKa.out.cell 3⟩
          rw [hwa] at ka HRUa
          have HNE : Hid (wr.heap.size ≠ w2.heap.size) := by have := HBK.out.lt; show _ ≠ _; omega
          clear c0 c1 c2 c3 HRU HIX
          cases ru with
          | none =>
            have HRES : Hid (prs ts 0 = .error (t.2, 3)) := prs_none HE.out HHT.out HPS.out.1 HPS.out.2 hru
            clear hru d0 d1 d2 d3
            unfold rlR rlV at HRUd HRUa
            go_region_held3 (fun w' => w'.cell? ⟨wr.heap.size, 0, none⟩ = some (.int .i64 (t.1.1 : Int)) ∧ w'.cell? ⟨wr.heap.size, 1, none⟩ = some (.string (st t.1.2.1)) ∧ w'.cell? ⟨wr.heap.size, 2, none⟩ = some (.int .i64 (t.1.2.2 : Int)) ∧ w'.cell? ⟨wr.heap.size, 3, none⟩ = some (.int .i64 (t.2 : Int)))
              (first | with_reducible exact k1 | with_reducible exact ka | with_reducible exact tok4 (hk3.alloc _) | with_reducible exact tok4 (keep4 hk3 HNE.out _ _ _ _) | with_reducible exact tok4 hk3 | with_reducible exact tok4 HBKd.out | go_keep)
              (first
                | (go_at_call 20; ((with_reducible refine HRUd.out.mono ?_); rintro e w3 ⟨rfl, hb3⟩; have hk3 := HBKd.out.since hb3; have k1 := And.intro (hk3.cell 0) (And.intro (hk3.cell 1) (And.intro (hk3.cell 2) (hk3.cell 3)))))
                | (go_at_call 20; ((with_reducible refine HRUa.out.mono ?_); rintro e w3 ⟨rfl, hb3⟩; rw [← hwa] at hb3; have hk3 := HBKa.out.since hb3; have hs3 := HRSa.out.since hb3; have f0 := hs3.frozen 0; have f1 := hs3.frozen 1; have f2 := hs3.frozen 2; have f3 := hs3.frozen 3; have e0 := hs3.cell 0; have e1 := hs3.cell 1; have e2 := hs3.cell 2; have e3 := hs3.cell 3; have k1 := And.intro (hk3.cell 0) (And.intro (hk3.cell 1) (And.intro (hk3.cell 2) (hk3.cell 3))))))
            all_goals first
              | (have hz1 := keep4 hk3 HNE.out (.string (st [])) (.string (st [])) (.int .i64 0) (.int .i64 0)
                 have hz2 : Blk ((((w3.setCell ⟨w2.heap.size, 0, none⟩ (.string (st []))).setCell ⟨w2.heap.size, 1, none⟩ (.string (st []))).setCell ⟨w2.heap.size, 2, none⟩ (.int .i64 0)).setCell ⟨w2.heap.size, 3, none⟩ (.int .i64 0)) w2.heap.size 24 #[.string (st []), .string (st []), .int .i64 0, .int .i64 0] := (((hs3.set 0 (.string (st []))).set 1 (.string (st []))).set 2 (.int .i64 0)).set 3 (.int .i64 0)
                 have hz3 : Stp [] wr ((((w3.setCell ⟨w2.heap.size, 0, none⟩ (.string (st []))).setCell ⟨w2.heap.size, 1, none⟩ (.string (st []))).setCell ⟨w2.heap.size, 2, none⟩ (.int .i64 0)).setCell ⟨w2.heap.size, 3, none⟩ (.int .i64 0)) := ((((Stp.of_below (bel_on HBa.out HBa.out.size hb3)).setCell (.inr HB2.out.size) _).setCell (.inr HB2.out.size) _).setCell (.inr HB2.out.size) _).setCell (.inr HB2.out.size) _
                 clear hb3 hk3 k1 hs3 f0 f1 f2 f3 e0 e1 e2 e3
                 generalize (((w3.setCell ⟨w2.heap.size, 0, none⟩ (.string (st []))).setCell ⟨w2.heap.size, 1, none⟩ (.string (st []))).setCell ⟨w2.heap.size, 2, none⟩ (.int .i64 0)).setCell ⟨w2.heap.size, 3, none⟩ (.int .i64 0) = wz at hz1 hz2 hz3 ⊢
                 generalize w2.heap.size = rb at hz2 ⊢)
              | (have hz1 : Blk (w3.alloc (.cells #[.string (st []), .string (st []), .int .i64 0, .int .i64 0] 24)) wr.heap.size 55 #[.int .i64 (t.1.1 : Int), .string (st t.1.2.1), .int .i64 (t.1.2.2 : Int), .int .i64 (t.2 : Int)] := hk3.alloc _
                 have hz2 : Blk (w3.alloc (.cells #[.string (st []), .string (st []), .int .i64 0, .int .i64 0] 24)) w3.heap.size 24 #[.string (st []), .string (st []), .int .i64 0, .int .i64 0] := Blk.new w3 _ _
                 have hz3 : Stp [] wr (w3.alloc (.cells #[.string (st []), .string (st []), .int .i64 0, .int .i64 0] 24)) := Stp.alloc (Stp.of_below (bel_on HB2.out.drew HB2.out.size hb3)) _
                 clear hb3 hk3 k1
                 generalize w3.alloc (.cells #[.string (st []), .string (st []), .int .i64 0, .int .i64 0] 24) = wz at hz1 hz2 hz3 ⊢
                 generalize w3.heap.size = rb at hz2 ⊢)
            all_goals
              have HKz := Lib.hid hz1
              have HRz := Lib.hid hz2
              have HSz := Lib.hid hz3
              have HBz := Lib.hid (HB.out.trans (hz3.below (B := B1) (fun _ h => by cases h) HBs.out))
              have d3 := HKz.out.cell 3
              clear hz1 hz2 hz3 ka HRUd HRUa HBKd HBKa HRSa hwa HNE HBa
              go_wp2
              go_quiet (fail)
              go_wp2
              go_ret3
              refine ⟨?_, bel_drewN (HBX.out _ HBz.out)⟩
              rw [HRES.out]
              rfl
          | some x =>
            have HRX : Hid (ruleL t.1 (((ts.drop (p + 1)).take (endI (ts.drop p) - 1)).map (·.1)) = some x) := hru
            clear hru d0 d1 d2 d3
            unfold rlR rlV at HRUd HRUa
            go_region_held3 (fun w' => w'.cell? ⟨wr.heap.size, 0, none⟩ = some (.int .i64 (t.1.1 : Int)) ∧ w'.cell? ⟨wr.heap.size, 1, none⟩ = some (.string (st t.1.2.1)) ∧ w'.cell? ⟨wr.heap.size, 2, none⟩ = some (.int .i64 (t.1.2.2 : Int)) ∧ w'.cell? ⟨wr.heap.size, 3, none⟩ = some (.int .i64 (t.2 : Int)))
              (first | with_reducible exact k1 | with_reducible exact ka | with_reducible exact tok4 (hk3.alloc _) | with_reducible exact tok4 (keep4 hk3 HNE.out _ _ _ _) | with_reducible exact tok4 hk3 | with_reducible exact tok4 HBKd.out | go_keep)
              (first
                | (go_at_call 20; ((with_reducible refine HRUd.out.mono ?_); rintro e w3 ⟨rfl, hb3⟩; have hk3 := HBKd.out.since hb3; have k1 := And.intro (hk3.cell 0) (And.intro (hk3.cell 1) (And.intro (hk3.cell 2) (hk3.cell 3)))))
                | (go_at_call 20; ((with_reducible refine HRUa.out.mono ?_); rintro e w3 ⟨rfl, hb3⟩; rw [← hwa] at hb3; have hk3 := HBKa.out.since hb3; have hs3 := HRSa.out.since hb3; have f0 := hs3.frozen 0; have f1 := hs3.frozen 1; have f2 := hs3.frozen 2; have f3 := hs3.frozen 3; have e0 := hs3.cell 0; have e1 := hs3.cell 1; have e2 := hs3.cell 2; have e3 := hs3.cell 3; have k1 := And.intro (hk3.cell 0) (And.intro (hk3.cell 1) (And.intro (hk3.cell 2) (hk3.cell 3))))))
            all_goals first
              | (have hz1 := keep4 hk3 HNE.out (.string (st x.1)) (.string (st x.2.1)) (.int .i64 x.2.2.1) (.int .i64 x.2.2.2)
                 have hz2 : Blk ((((w3.setCell ⟨w2.heap.size, 0, none⟩ (.string (st x.1))).setCell ⟨w2.heap.size, 1, none⟩ (.string (st x.2.1))).setCell ⟨w2.heap.size, 2, none⟩ (.int .i64 x.2.2.1)).setCell ⟨w2.heap.size, 3, none⟩ (.int .i64 x.2.2.2)) w2.heap.size 24 #[.string (st x.1), .string (st x.2.1), .int .i64 x.2.2.1, .int .i64 x.2.2.2] := (((hs3.set 0 (.string (st x.1))).set 1 (.string (st x.2.1))).set 2 (.int .i64 x.2.2.1)).set 3 (.int .i64 x.2.2.2)
                 have hz3 : Stp [] wr ((((w3.setCell ⟨w2.heap.size, 0, none⟩ (.string (st x.1))).setCell ⟨w2.heap.size, 1, none⟩ (.string (st x.2.1))).setCell ⟨w2.heap.size, 2, none⟩ (.int .i64 x.2.2.1)).setCell ⟨w2.heap.size, 3, none⟩ (.int .i64 x.2.2.2)) := ((((Stp.of_below (bel_on HBa.out HBa.out.size hb3)).setCell (.inr HB2.out.size) _).setCell (.inr HB2.out.size) _).setCell (.inr HB2.out.size) _).setCell (.inr HB2.out.size) _
                 clear hb3 hk3 k1 hs3 f0 f1 f2 f3 e0 e1 e2 e3
                 generalize (((w3.setCell ⟨w2.heap.size, 0, none⟩ (.string (st x.1))).setCell ⟨w2.heap.size, 1, none⟩ (.string (st x.2.1))).setCell ⟨w2.heap.size, 2, none⟩ (.int .i64 x.2.2.1)).setCell ⟨w2.heap.size, 3, none⟩ (.int .i64 x.2.2.2) = wz at hz1 hz2 hz3 ⊢
                 generalize w2.heap.size = rb at hz2 ⊢)
              | (have hz1 : Blk (w3.alloc (.cells #[.string (st x.1), .string (st x.2.1), .int .i64 x.2.2.1, .int .i64 x.2.2.2] 24)) wr.heap.size 55 #[.int .i64 (t.1.1 : Int), .string (st t.1.2.1), .int .i64 (t.1.2.2 : Int), .int .i64 (t.2 : Int)] := hk3.alloc _
                 have hz2 : Blk (w3.alloc (.cells #[.string (st x.1), .string (st x.2.1), .int .i64 x.2.2.1, .int .i64 x.2.2.2] 24)) w3.heap.size 24 #[.string (st x.1), .string (st x.2.1), .int .i64 x.2.2.1, .int .i64 x.2.2.2] := Blk.new w3 _ _
                 have hz3 : Stp [] wr (w3.alloc (.cells #[.string (st x.1), .string (st x.2.1), .int .i64 x.2.2.1, .int .i64 x.2.2.2] 24)) := Stp.alloc (Stp.of_below (bel_on HB2.out.drew HB2.out.size hb3)) _
                 clear hb3 hk3 k1
                 generalize w3.alloc (.cells #[.string (st x.1), .string (st x.2.1), .int .i64 x.2.2.1, .int .i64 x.2.2.2] 24) = wz at hz1 hz2 hz3 ⊢
                 generalize w3.heap.size = rb at hz2 ⊢)
            all_goals
              have HKz := Lib.hid hz1
              have HRz := Lib.hid hz2
              have HSz := Lib.hid hz3
              have HBz := Lib.hid (HB.out.trans (hz3.below (B := B1) (fun _ h => by cases h) HBs.out))
              have d3 := HKz.out.cell 3
              clear hz1 hz2 hz3 ka HRUd HRUa HBKd HBKa HRSa hwa HNE HBa
              have HOz := Lib.hid (own_stp (fp := []) HOW.out HSz.out (fun _ _ h => by cases h))
              by_cases h40 : ln = 40
              · have hl40 : (ln : Int) = 40 := by omega
                have HRES : Hid (prs ts 0 = .error (t.2, 2)) := by
                  have h := HE.out
                  rw [h40] at h
                  exact prs_over h HHT.out HPS.out.1 HPS.out.2 HRX.out
                clear h40
                go_wp2
                go_quiet (fail)
                go_wp2
                go_ret3
                refine ⟨?_, bel_drewN (HBX.out _ HBz.out)⟩
                rw [HRES.out]
                rfl
              · have hl40 : ¬ (ln : Int) = 40 := by omega
                have HRES := Lib.hid (prs_one HE.out h40 HHT.out HPS.out.1 HPS.out.2 HRX.out)
                rw [← HEE.out] at HRES
                have r0 := HRz.out.cell 0
                have r1 := HRz.out.cell 1
                have r2 := HRz.out.cell 2
                have r3 := HRz.out.cell 3
                have hbz : B1 ≤ wz.heap.size := Nat.le_trans HBs.out HSz.out.size
                obtain ⟨F, hF⟩ : ∃ F, F = E + 1 := ⟨_, rfl⟩
                rw [← hF] at HRES
                have i6 : IntKind.i64.wrap ((E : Int) + 1) = (F : Int) := by rw [IntWalk.i64_in _ (by omega)]; omega
                have i7 : (0 : Int) ≤ (F : Int) := by omega
                have i8 : (F : Int) ≤ (q : Int) := by omega
                have HF4 : Hid (RowK tkC w1 (some ⟨b, off + F * 4, none⟩) (ts.drop (p + F))) := by
                  have := HRW1.out.drop F
                  rw [List.drop_drop] at this
                  exact this
                have HF0 : Hid (c = F → (ts.drop (p + F)).length = 0) := by
                  intro h
                  rw [List.length_drop, ← HN.out]
                  omega
                have hFq : F ≤ q := by omega
                have hF1 : 1 ≤ F := by omega
                clear hF h40 d3
                by_cases hcF : c = F
                · go_wp2_with (first | (at_builtin; refine wpList_append_struct rfl (.tmp 54) (.tmp 56) 22 rfl B1 24 _ 4 48 Tryd.underlying22 infoRule rfl (by decide) _ _ rfl (by simp [Value.oneCell']) (.slice av ln cv) ln _ rfl rfl HOz.out hbz (by unfold maxLen; omega) (by omega) ?_; intro v' w' h1 h2; have H1 := Lib.hid h1; have H2 := Lib.hid h2; clear h1 h2 r0 r1 r2 r3) | fail)
                  go_roundg (q - F)
                  case measure => omega
                  case rel =>
                    refine ⟨p + F, q - F, 0, _, rs ++ [x], v', by omega, rfl, rfl, by omega, Nat.le_refl _, by rw [List.length_append, ← HLNr.out]; simp; omega, RowK.none' (HF0.out hcF), own_snoc H1.out HLNr.out, ?_, HBz.out.trans H2.out⟩
                    show _ = _
                    rw [HRES.out, List.length_append, ← HLNr.out]
                    rfl
                · go_wp2_with (first | (at_builtin; refine wpList_append_struct rfl (.tmp 54) (.tmp 56) 22 rfl B1 24 _ 4 48 Tryd.underlying22 infoRule rfl (by decide) _ _ rfl (by simp [Value.oneCell']) (.slice av ln cv) ln _ rfl rfl HOz.out hbz (by unfold maxLen; omega) (by omega) ?_; intro v' w' h1 h2; have H1 := Lib.hid h1; have H2 := Lib.hid h2; clear h1 h2 r0 r1 r2 r3) | fail)
                  go_roundg (q - F)
                  case measure => omega
                  case rel =>
                    refine ⟨p + F, q - F, c - F, _, rs ++ [x], v', by omega, rfl, rfl, by omega, Nat.le_refl _, by rw [List.length_append, ← HLNr.out]; simp; omega, HF4, own_snoc H1.out HLNr.out, ?_, HBz.out.trans H2.out⟩
                    show _ = _
                    rw [HRES.out, List.length_append, ← HLNr.out]
                    rfl
end Go.Proofs.YtjegfoeempojiaaDoor
