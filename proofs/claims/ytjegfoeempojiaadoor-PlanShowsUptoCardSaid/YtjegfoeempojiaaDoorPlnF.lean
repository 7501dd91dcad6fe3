/-
  Contract of the document's Rules: its walk.
-/
import Derived.Test.YtjegfoeempojiaaDoorPlnE
namespace Go.Proofs.YtjegfoeempojiaaDoor
open Go.RowKit Go.Maps

theorem wpList_append_tokG {P : Program} {ops : Array Oper} {rest : List Oper} {o : Oper} {a : Act} {Q : Exit → Act → World → Prop} (hgd : o.guard = none) (s x : Operand) (t : TypeId)
    (ho : o.op = .call { callee := .builtin .append, args := #[s, x], argTypes := #[t, t] })
    (base : Nat) (e : TypeId) (z : Value) (size bytes : Nat) (ht : P.underlying t = some (.slice e)) (hinfo : (P.info? e).map (fun i => (i.zero, i.size, i.bytes)) = some (some z, size, bytes)) (hzs : z.cells.size = size) (hsz : 0 < size)
    (W : World) (cs : Array Value) (hcs : cs.size = size) (hu : ∀ u ∈ cs.toList, u.oneCell' = true) (v : Value) (n : Nat) (xs : List Value) (hs : a.eval s = v) (hx : a.eval x = .slice (some ⟨W.heap.size, 0, none⟩) 1 1)
    (hown : W.ownsRow base e size v n xs) (hb : base ≤ W.heap.size) (h63 : n + 1 ≤ maxLen) (hbytes : (n + 1) * bytes ≤ 140737488355328)
    (h : ∀ v' w', w'.ownsRow base e size v' (n + 1) (xs ++ cs.toList) → (W.alloc (.cells cs e)).grownBy w' v.ownBlock → Below base W w' → wpList P ops Q rest (a.put o.dst v') w') : wpList P ops Q (o :: rest) a (W.alloc (.cells cs e)) :=
  wpList_append_structG hgd s x t ho base e z size bytes ht hinfo hzs hsz W cs hcs hu v n xs hs hx hown hb h63 hbytes
    (fun v' w' h1 h2 => h v' w' h1 h2 (((Below.refl base W).alloc hb _).grown h2 (by simp; omega) (fun k hk => (hown.lt k hk).1)))

set_option maxHeartbeats 4000000 in
set_option maxRecDepth 100000 in
theorem rrules_any (s : List UInt8) (w : World) (hl : s.length ≤ 1000000000) :
    Calls Tryd.prog 16 #[.string (st s)] w fun e w' => PrsP w.heap.size (prL s) e w' ∧ Below w.heap.size w w' := by
  obtain ⟨B, hB⟩ : ∃ B, B = w.heap.size := ⟨_, rfl⟩
  have HB0 := Lib.hid hB
  have HT : ∀ W, Hid (Calls Tryd.prog 26 #[.string (st s)] W fun e w' => TokD W.heap.size (tokL s) e w' ∧ Below W.heap.size W w') := fun W => rtokens_any s W (by omega)
  cases htk : tokL s with
  | error px =>
    obtain ⟨p, x⟩ := px
    have HT2 : ∀ W, Hid (Calls Tryd.prog 26 #[.string (st s)] W fun e w' => e = .returned (.tuple #[.slice none 0 0, .int .i64 (p : Int), .int .i64 (x : Int)]) ∧ Below W.heap.size W w') := fun W => by
      refine (HT W).out.mono ?_
      rintro e w' ⟨h, hb⟩
      rw [htk] at h
      exact ⟨h, hb⟩
    have hx : x ≠ 0 := tokL_errno htk
    have hx2 : ¬ ((x : Int) = 0) := by omega
    have HPR : Hid (prL s = .error (p, x)) := by show _ = _; unfold prL; rw [htk]
    rw [HPR.out]
    clear HT htk hl hx
    go_enter Tryd.func16, Tryd.ntmps16
    go_wp2_with (first | (go_at_call 26; with_reducible refine (HT2 _).out.mono ?_; rintro e w1 ⟨rfl, hb⟩; have HB1 := Lib.hid hb; clear hb) | fail)
    go_ret3
    exact ⟨rfl, HB1.out⟩
  | ok ts =>
    have HPR : Hid (prL s = prs ts 0) := by show _ = _; unfold prL; rw [htk]
    have hlen := tokL_len htk
    have HLN : Hid (ts.length ≤ 1000000000) := Nat.le_trans hlen.1 hl
    have HOK := Lib.hid (tokL_good htk hl)
    obtain ⟨n, hn⟩ : ∃ n, n = ts.length := ⟨_, rfl⟩
    have HN := Lib.hid hn
    have hnl : n ≤ 1000000000 := by rw [hn]; exact HLN.out
    have HT2 : ∀ W, Hid (Calls Tryd.prog 26 #[.string (st s)] W fun e w' => ∃ a c, e = .returned (.tuple #[.slice a n c, .int .i64 0, .int .i64 0]) ∧ RowK tkC w' a ts ∧ Below W.heap.size W w') := fun W => by
      refine (HT W).out.mono ?_
      rintro e w' ⟨h, hb⟩
      rw [htk] at h
      obtain ⟨v, he, ho⟩ := h
      obtain ⟨a, c, hv, hr, _, hc⟩ := RowK.own tkC_len ho rfl
      exact ⟨a, c, by rw [he, hv, hn], hr, hb⟩
    rw [HPR.out]
    rw [← hB]
    clear HT htk hlen hn hl hB
    go_enter Tryd.func16, Tryd.ntmps16
    go_wp2_with (first | (go_at_call 26; with_reducible refine (HT2 _).out.mono ?_; rintro e w1 ⟨a1, c1, rfl, hr, hb⟩; have HR := Lib.hid hr; have HB1 := Lib.hid hb; clear hr hb) | fail)
    have HBW : Hid (Below B w w1) := by rw [HB0.out]; exact HB1.out
    obtain ⟨B1, hB1⟩ : ∃ B1, B1 = w1.heap.size := ⟨_, rfl⟩
    have HB1E := Lib.hid hB1
    have HBB1 : Hid (B ≤ B1) := by rw [hB1, HB0.out]; exact HB1.out.size
    have HBX : Hid (∀ W, Below B1 w1 W → Below B w W) := fun W h => HBW.out.trans (bel_less h HBB1.out)
    clear HB1 HT2 hB1 HBW
    go_loopg [6, 8, 9, 10, 11, 12] n (fun gk _ ov rv iv _ _ wr => ∃ (i j m : Nat) (rs : List Rl) (ra : Option Addr) (rc : Nat) (oa : Option Addr) (oc : Nat), j + m = i ∧ i ≤ n ∧ iv = .int .i64 i ∧ n - i ≤ gk ∧ rs.length ≤ 40 ∧ rv = .slice ra m rc ∧ ov = .slice oa rs.length oc ∧
      Hid (wr.ownsRow B1 66 4 (.slice ra m rc) m ((seg ts j m).flatMap tkC)) ∧ Hid (wr.ownsRow B1 24 4 (.slice oa rs.length oc) rs.length (rs.flatMap cR)) ∧ Hid (NoE ts j m) ∧ Hid (prs ts 0 = prepR rs (prs (ts.drop j) rs.length)) ∧ Hid (Below B1 w1 wr))
    case atStart => exact ⟨0, 0, 0, [], none, 0, none, 0, rfl, Nat.zero_le _, rfl, by omega, by simp, rfl, rfl, World.ownsRow_nil _ _ _ _, World.ownsRow_nil _ _ _ _, NoEnd.start _, (by show _ = _; rw [prepR_nil]; rfl), Below.refl _ _⟩
    case round =>
      obtain ⟨i, j, m, rs, ra, rc, oa, oc, hji, hin, rfl, hgk, hrs, rfl, rfl, HRO, HOO, HNE, HE, HB⟩ := hrel
      obtain ⟨ln, hln⟩ : ∃ ln, ln = rs.length := ⟨_, rfl⟩
      have HLNr := Lib.hid hln
      rw [← hln] at hrs HOO HE
      rw [← hln]
      clear hln
      have HBs : Hid (B1 ≤ wr.heap.size) := by have := HB.out.size; have := HB1E.out; show _ ≤ _; omega
      have HBS := Lib.hid hji
      by_cases hlt : i < n
      case' neg =>
        have e : i = n := by omega
        have hin' : ¬ ((i : Int) < (n : Int)) := by omega
        clear e
        by_cases hm : m = 0
        · have HRES : Hid (prs ts 0 = .ok rs) := by
            have h := HE.out
            rw [show j = ts.length by rw [← HN.out]; omega] at h
            exact prs_end h
          subst hm
          go_wp2
          go_ret3
          refine ⟨?_, HBX.out _ HB.out⟩
          rw [HRES.out]
          exact ⟨_, rfl, by rw [← HLNr.out]; exact own_mono HOO.out HBB1.out⟩
        · obtain ⟨t, ht⟩ : ∃ t, ts[j]? = some t := ⟨_, List.getElem?_eq_getElem (by rw [← HN.out]; omega)⟩
          have HRES : Hid (prs ts 0 = .error (t.2, 3)) := prs_noEnd HE.out ht (by rw [HNE.out.all (by rw [← HN.out]; omega), ← HN.out]; omega)
          have hsl : (seg ts j m).length = m := seg_len (by rw [← HN.out]; omega)
          obtain ⟨ra', rc', hv, hrk, _, _⟩ := RowK.own tkC_len HRO.out hsl.symm
          obtain ⟨b, off, hra⟩ := hrk.form (by rw [hsl]; omega)
          injection hv with hv1 hv2 hv3
          rw [← hv1] at hra hrk
          subst hra
          have d3 : wr.drew.cell? ⟨b, off + 3, none⟩ = some (.int .i64 (t.2 : Int)) := by
            have := hrk.at (i := 0) (x := t) (by obtain ⟨m', rfl⟩ : ∃ m', m = m' + 1 := ⟨m - 1, by omega⟩; rw [seg_cons ht]; rfl) 3 _ rfl
            simpa using this
          have d3' : wr.cell? ⟨b, off + 3, none⟩ = some (.int .i64 (t.2 : Int)) := d3
          have hm0 : (0 : Int) < (m : Int) := by omega
          clear hm hv2 hv3 hrk hsl ht hv1
          go_wp2
          go_quiet (fail)
          go_wp2
          go_ret3
          refine ⟨?_, bel_drewN (HBX.out _ HB.out)⟩
          rw [HRES.out]
          rfl
      case' pos =>
        obtain ⟨t, ht⟩ : ∃ t, ts[i]? = some t := ⟨_, List.getElem?_eq_getElem (by rw [← HN.out]; exact hlt)⟩
        obtain ⟨b0, off0, rfl⟩ := HR.out.form (by rw [← HN.out]; omega)
        have hcs := (HR.out.keep (HB1E.out ▸ HB.out)).at ht
        have hiz : (0 : Int) ≤ (i : Int) := by omega
        have hin' : (i : Int) < (n : Int) := by omega
        have c0 : wr.cell? ⟨b0, off0 + i * 4, none⟩ = some (.int .i64 (t.1.1 : Int)) := by simpa using hcs 0 _ rfl
        have c1 := hcs 1 _ rfl
        have c2 := hcs 2 _ rfl
        have c3 := hcs 3 _ rfl
        have HT := Lib.hid ht
        have HTJ : Hid (ts[j + m]? = some t) := by show _ = _; rw [hji]; exact ht
        have HCI : Hid (∀ W, Below B1 w1 W → W.cell? ⟨b0, off0 + i * 4 + 3, none⟩ = some (.int .i64 (t.2 : Int))) := fun W hW => (HR.out.keep (HB1E.out ▸ hW)).at ht 3 _ rfl
        clear hcs ht
        by_cases hq : t.1.1 = 3
        case' neg =>
          have k2 : ((t.1.1 : Int) == 3) = false := by rw [beq_eq_false_iff_ne]; omega
          have HNE2 := Lib.hid (HNE.out.succ HTJ.out hq)
          have HSG := Lib.hid (seg_snoc HTJ.out)
          have HDJ := Lib.hid (own_ne HOO.out HRO.out (by decide))
          clear hq
          go_wp2_with (first | (at_builtin; refine wpList_append_tokG rfl (.tmp 35) (.tmp 40) 62 rfl B1 66 _ 4 40 Tryd.underlying62 infoRTok rfl (by decide) _ _ rfl (by simp [Value.oneCell']) (.slice ra m rc) m _ rfl rfl HRO.out HBs.out (by unfold maxLen; omega) (by omega) ?_; intro v' w' h1 h2 h3; have H1 := Lib.hid h1; have H2 := Lib.hid h2; have H3 := Lib.hid h3; clear h1 h2 h3 c0 c1 c2 c3) | fail)
          have HO3 : Hid (w'.ownsRow B1 66 4 v' (m + 1) ((seg ts j (m + 1)).flatMap tkC)) := by
            show World.ownsRow _ _ _ _ _ _ _
            rw [HSG.out, List.flatMap_append]
            exact H1.out
          obtain ⟨ra2, rc2, hv, _⟩ := RowK.own tkC_len HO3.out (by rw [seg_len (by have := HBS.out; rw [← HN.out]; omega)])
          rw [seg_len (by have := HBS.out; rw [← HN.out]; omega)] at hv
          subst hv
          have HOO2 := Lib.hid (own_grown (own_stp (fp := []) HOO.out ((Stp.refl [] wr).alloc _) (fun _ _ h => by cases h)) H2.out HDJ.out)
          go_roundg (n - (i + 1))
          case measure => omega
          case rel => exact ⟨i + 1, j, m + 1, rs, ra2, rc2, oa, oc, by omega, by omega, by go_num, by omega, by rw [← HLNr.out]; exact hrs, rfl, by rw [← HLNr.out], HO3, by rw [← HLNr.out]; exact HOO2, HNE2, by rw [← HLNr.out]; exact HE, HB.out.trans H3.out⟩
        case' pos =>
          rw [hq] at c0
          have HEN := Lib.hid (HNE.out.found HTJ.out hq)
          have hsl : (seg ts j m).length = m := seg_len (by have := HBS.out; rw [← HN.out]; omega)
          have HRU0 : Hid (Calls Tryd.prog 27 #[.slice ra m rc] wr fun e w' => e = .returned (rlR (ruleD (seg ts j m))) ∧ Below wr.heap.size wr w') := by
            obtain ⟨ra', rc', hv, hrk, _, _⟩ := RowK.own tkC_len HRO.out hsl.symm
            injection hv with hv1 hv2 hv3
            rw [← hv1] at hrk
            have := rrule_any ra rc (seg ts j m) wr hrk (by rw [hsl]; omega) (HOK.out.seg j m)
            rw [hsl] at this
            exact this
          clear c1 c2 c3 hq
          by_cases hm : m = 0
          case' pos =>
            subst hm
            have HRES : Hid (prs ts 0 = .error (t.2, 3)) := prs_noEnd HE.out HTJ.out (.inl HEN.out)
            have HRU : Hid (Calls Tryd.prog 27 #[.slice ra 0 rc] wr fun e w' => e = .returned (.tuple #[.agg #[.string ⟨#[]⟩, .string ⟨#[]⟩, .int .i64 0, .int .i64 0], .bool false]) ∧ Below wr.heap.size wr w') := by
              have := HRU0.out
              rw [seg_zero] at this
              exact this
            clear hsl HRU0
            go_wp2_with (first | (go_at_call 27; (with_reducible refine HRU.out.mono ?_); rintro e w2 ⟨rfl, hb⟩; have HB2 := Lib.hid (bel_on HB.out HBs.out hb); have HO2 := Lib.hid (own_stp (fp := []) HOO.out (Stp.of_below hb) (fun _ _ h => by cases h)); have c3z := (fun o => HCI.out (w2.alloc o) (HB2.out.alloc (Nat.le_trans HBs.out hb.size) o)); have HSB := Lib.hid hb; clear hb) | fail)
            go_ret3
            refine ⟨?_, HBX.out _ (HB2.out.alloc (Nat.le_trans HBs.out HSB.out.size) _)⟩
            rw [HRES.out]
            rfl
          case' neg =>
            obtain ⟨f, hf⟩ : ∃ f, ts[j]? = some f := ⟨_, List.getElem?_eq_getElem (by rw [← HN.out]; omega)⟩
            have HPS : Hid (1 ≤ endI (ts.drop j) ∧ j + endI (ts.drop j) < ts.length) := by rw [HEN.out, ← HN.out]; show _ ∧ _; omega
            have hrd := ruleD_seg (E := m) hf (by omega)
            rw [hrd, ← HEN.out] at HRU0
            generalize hru : ruleL f.1 (((ts.drop (j + 1)).take (endI (ts.drop j) - 1)).map (·.1)) = ru at HRU0
            rw [HEN.out] at HRU0
            obtain ⟨rb, roff, rfl⟩ : ∃ rb roff, ra = some ⟨rb, roff, none⟩ := by
              obtain ⟨ra', rc', hv, hrk, _, _⟩ := RowK.own tkC_len HRO.out hsl.symm
              obtain ⟨b, off, hra⟩ := hrk.form (by rw [hsl]; omega)
              injection hv with hv1 hv2 hv3
              exact ⟨b, off, by rw [hv1, hra]⟩
            have HCJ : Hid (∀ W, Below wr.heap.size wr W → W.cell? ⟨rb, roff + 3, none⟩ = some (.int .i64 (f.2 : Int))) := by
              obtain ⟨ra', rc', hv, hrk, _, _⟩ := RowK.own tkC_len HRO.out hsl.symm
              injection hv with hv1 hv2 hv3
              rw [← hv1] at hrk
              intro W hW
              have := (hrk.keep hW).at (i := 0) (x := f) (by obtain ⟨m', rfl⟩ : ∃ m', m = m' + 1 := ⟨m - 1, by omega⟩; rw [seg_cons hf]; rfl) 3 _ rfl
              simpa using this
            have HF := Lib.hid hf
            have hm0 : (0 : Int) < (m : Int) := by omega
            clear hsl hf hm hrd
            cases ru with
            | none =>
              have HRES : Hid (prs ts 0 = .error (f.2, 3)) := prs_none HE.out HF.out HPS.out.1 HPS.out.2 hru
              have HRU : Hid (Calls Tryd.prog 27 #[.slice (some ⟨rb, roff, none⟩) m rc] wr fun e w' => e = .returned (.tuple #[.agg #[.string ⟨#[]⟩, .string ⟨#[]⟩, .int .i64 0, .int .i64 0], .bool false]) ∧ Below wr.heap.size wr w') := HRU0.out
              clear hru HRU0
              go_wp2_with (first | (go_at_call 27; (with_reducible refine HRU.out.mono ?_); rintro e w2 ⟨rfl, hb⟩; have HB2 := Lib.hid (bel_on HB.out HBs.out hb); have HO2 := Lib.hid (own_stp (fp := []) HOO.out (Stp.of_below hb) (fun _ _ h => by cases h)); have c3z := (fun o => HCI.out (w2.alloc o) (HB2.out.alloc (Nat.le_trans HBs.out hb.size) o)); have r3z := (fun o => HCJ.out (w2.alloc o) (hb.alloc hb.size o)); have HSB := Lib.hid hb; clear hb) | fail)
              go_ret3
              refine ⟨?_, HBX.out _ (HB2.out.alloc (Nat.le_trans HBs.out HSB.out.size) _)⟩
              rw [HRES.out]
              rfl
            | some x =>
              have HRX : Hid (ruleL f.1 (((ts.drop (j + 1)).take (endI (ts.drop j) - 1)).map (·.1)) = some x) := hru
              have HRU : Hid (Calls Tryd.prog 27 #[.slice (some ⟨rb, roff, none⟩) m rc] wr fun e w' => e = .returned (.tuple #[.agg #[.string (st x.1), .string (st x.2.1), .int .i64 x.2.2.1, .int .i64 x.2.2.2], .bool true]) ∧ Below wr.heap.size wr w') := HRU0.out
              clear hru HRU0
              by_cases h40 : ln = 40
              case' pos =>
                have hl40 : (ln : Int) = 40 := by omega
                have HRES : Hid (prs ts 0 = .error (f.2, 2)) := by
                  have h := HE.out
                  rw [h40] at h
                  exact prs_over h HF.out HPS.out.1 HPS.out.2 HRX.out
                clear h40
                go_wp2_with (first | (go_at_call 27; (with_reducible refine HRU.out.mono ?_); rintro e w2 ⟨rfl, hb⟩; have HB2 := Lib.hid (bel_on HB.out HBs.out hb); have HO2 := Lib.hid (own_stp (fp := []) HOO.out (Stp.of_below hb) (fun _ _ h => by cases h)); have c3z := (fun o => HCI.out (w2.alloc o) (HB2.out.alloc (Nat.le_trans HBs.out hb.size) o)); have r3z := (fun o => HCJ.out (w2.alloc o) (hb.alloc hb.size o)); have HSB := Lib.hid hb; clear hb) | fail)
                go_quiet (fail)
                go_wp2
                go_ret3
                refine ⟨?_, bel_drewN (HBX.out _ (HB2.out.alloc (Nat.le_trans HBs.out HSB.out.size) _))⟩
                rw [HRES.out]
                rfl
              case' neg =>
                have hl40 : ((ln : Int) == 40) = false := by rw [beq_eq_false_iff_ne]; omega
                have hl41 : ln < 40 := by omega
                have HRES := Lib.hid (prs_one HE.out h40 HF.out HPS.out.1 HPS.out.2 HRX.out)
                rw [HEN.out] at HRES
                clear h40
                go_wp2_with (first
                  | (go_at_call 27; (with_reducible refine HRU.out.mono ?_); rintro e w2 ⟨rfl, hb⟩; have HB2 := Lib.hid (bel_on HB.out HBs.out hb); have HO2 := Lib.hid (own_stp (fp := []) HOO.out (Stp.of_below hb) (fun _ _ h => by cases h)); have c3z := (fun o => HCI.out (w2.alloc o) (HB2.out.alloc (Nat.le_trans HBs.out hb.size) o)); have r3z := (fun o => HCJ.out (w2.alloc o) (hb.alloc hb.size o)); have HSB := Lib.hid hb; clear hb)
                  | (at_builtin; refine wpList_append_tokG rfl (.tmp 69) (.tmp 71) 22 rfl B1 24 _ 4 48 Tryd.underlying22 infoRule rfl (by decide) _ _ rfl (by simp [Value.oneCell']) (.slice oa ln oc) ln _ rfl (new_at _ _) (HO2.out.alloc _) (by have := HB2.out.size; have := HB1E.out; simp; omega) (by unfold maxLen; omega) (by omega) ?_; intro v' w' h1 h2 h3; have H1 := Lib.hid h1; have H3 := Lib.hid h3; clear h1 h2 h3)
                  | fail)
                have HO3 := Lib.hid (own_snoc H1.out HLNr.out)
                obtain ⟨oa2, oc2, hv, _⟩ := RowK.own cR_len HO3.out rfl
                subst hv
                go_roundg (n - (i + 1))
                case measure => omega
                case rel =>
                  refine ⟨i + 1, i + 1, 0, rs ++ [x], none, 0, oa2, oc2, rfl, by omega, by go_num, by omega, by rw [List.length_append, ← HLNr.out]; simp; omega, rfl, rfl, World.ownsRow_nil _ _ _ _, HO3, NoEnd.start _, ?_, (HB2.out.alloc (Nat.le_trans HBs.out HSB.out.size) _).trans H3.out⟩
                  show _ = _
                  rw [HRES.out, List.length_append, ← HLNr.out, ← HBS.out, Nat.add_assoc]
                  rfl
end Go.Proofs.YtjegfoeempojiaaDoor
