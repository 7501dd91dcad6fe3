/-
  Contract of the document's Show.
-/
import Derived.Test.YtjegfoeempojiaaDoorPlnF
import Derived.Test.YtjegfoeempojiaaDoorPlnH
import Derived.Test.YtjegfoeempojiaaDoorPlnI
namespace Go.Proofs.YtjegfoeempojiaaDoor
open Go.RowKit Go.Maps

/-- what the document's Show answers -/
def showD (o : Option (List UInt8)) : Value :=
  match o with
  | some s => .tuple #[.string (st s), .bool true]
  | none => .tuple #[.string ⟨#[]⟩, .bool false]

set_option maxHeartbeats 8000000 in
set_option maxRecDepth 100000 in
theorem rshow_any (a : Option Addr) (c : Nat) (l : List Rl) (w : World) (hr : RowK cR w a l) (hok : OkRs l) :
    Calls Tryd.prog 8 #[.slice a l.length c] w fun e w' => e = .returned (showD (showL l)) ∧ Below w.heap.size w w' := by
  obtain ⟨n, hn⟩ : ∃ n, n = l.length := ⟨_, rfl⟩
  have HN := Lib.hid hn
  have HR := Lib.hid hr
  have HOK := Lib.hid hok
  obtain ⟨B, hB⟩ : ∃ B, B = w.heap.size := ⟨_, rfl⟩
  have HB0 := Lib.hid hB
  have hnl : n ≤ 1000000000 := by rw [hn]; exact hok.len
  rw [← hn, ← hB]
  clear hn hr hok hB
  go_enter Tryd.func8, Tryd.ntmps8
  go_wp2
  go_loopg [4, 5] n (fun gk sv iv wr => ∃ (k : Nat) (T : List UInt8), k ≤ n ∧ iv = .int .i64 k ∧ sv = .string (st T) ∧ n - k ≤ gk ∧ Hid (T = textI (l.take k)) ∧ Hid (Below B w wr))
  case atStart => exact ⟨0, [], Nat.zero_le _, rfl, rfl, by omega, rfl, Below.refl _ _⟩
  case round =>
    obtain ⟨k, T, hk, rfl, rfl, hgk, HTX, HB⟩ := hrel
    have HBs : Hid (B ≤ wr.heap.size) := by have := HB.out.size; have := HB0.out; show _ ≤ _; omega
    by_cases hlt : k < n
    case' pos =>
      obtain ⟨x, hx⟩ : ∃ x, l[k]? = some x := ⟨_, List.getElem?_eq_getElem (by rw [← HN.out]; exact hlt)⟩
      obtain ⟨b, off, rfl⟩ := HR.out.form (by rw [← HN.out]; omega)
      obtain ⟨c0, c1, c2, c3⟩ := cells4 (HR.out.keep (HB0.out ▸ HB.out)) hx rfl
      have hkz : (0 : Int) ≤ (k : Int) := by omega
      have hkn : (k : Int) < (n : Int) := by omega
      have hxm := List.mem_of_getElem? hx
      have HX := Lib.hid hx
      have HXM := Lib.hid hxm
      clear hx hxm
      by_cases hN : x.2.2.1 < 0
      case' pos =>
        have HSH : Hid (showL l = none) := showL_neg HXM.out (fun h => by have := h.1; omega)
        go_wp2
        go_ret2
        refine ⟨?_, HB.out⟩
        rw [HSH.out]
        rfl
      case' neg =>
        by_cases hR : x.2.2.2 < 0
        case' pos =>
          have HSH : Hid (showL l = none) := showL_neg HXM.out (fun h => by have := h.2; omega)
          go_wp2
          go_ret2
          refine ⟨?_, HB.out⟩
          rw [HSH.out]
          rfl
        case' neg =>
          obtain ⟨kk, nm, N, R⟩ := x
          simp only at hN hR c0 c1 c2 c3
          obtain ⟨p, rfl⟩ : ∃ p : Nat, N = (p : Int) := ⟨N.toNat, by omega⟩
          obtain ⟨q, rfl⟩ : ∃ q : Nat, R = (q : Int) := ⟨R.toNat, by omega⟩
          have hox := HOK.out.ok _ HXM.out
          have hl2 := HOK.out.one _ HXM.out
          have hl1 := HOK.out.txt k
          rw [← HTX.out] at hl1
          have hpa : (p : Int) ≤ 9223372036854775807 := hox.1.1.2
          have hqa : (q : Int) ≤ 9223372036854775807 := hox.1.2.2
          have HTX2 : Hid (T ++ lineI (kk, nm, (p : Int), (q : Int)) = textI (l.take (k + 1))) := by show _ = _; rw [textI_take HX.out, ← HTX.out]
          have H1 : ∀ W, Hid (Calls Tryd.prog 15 #[.agg #[.string (st kk), .string (st nm), .int .i64 (p : Int), .int .i64 (q : Int)]] W fun e w' => e = .returned (.string (st (lineI (kk, nm, (p : Int), (q : Int))))) ∧ Below W.heap.size W w') := fun W => rline_any kk nm p q W (by omega) (by omega) hox.2.1 hox.2.2
          obtain ⟨L, hL⟩ : ∃ L, L = lineI (kk, nm, (p : Int), (q : Int)) := ⟨_, rfl⟩
          simp only [← hL] at H1 HTX2 hl2
          have e1 := st_append T L
          have z1 := st_size T
          have z2 := st_size L
          have b1 : ¬ 9223372036854775807 < (st T).size + (st L).size := by omega
          obtain ⟨T', hT'⟩ : ∃ T', T' = T ++ L := ⟨_, rfl⟩
          rw [← hT'] at e1 HTX2
          clear hox hl2 hl1 z1 z2 hL hT'
          go_wp2_with (first | (go_at_call 15; with_reducible refine (H1 _).out.mono ?_; rintro e w2 ⟨rfl, hb⟩; have HB2 := Lib.hid (bel_on HB.out HBs.out hb); clear hb) | fail)
          go_roundg (n - (k + 1))
          case measure => omega
          case rel => exact ⟨k + 1, T', by omega, by go_num, rfl, by omega, HTX2, HB2⟩
    case' neg =>
      have e : k = n := by omega
      have hkn : ¬ ((k : Int) < (n : Int)) := by omega
      have HTE : Hid (T = textI l) := by
        have h := HTX.out
        rw [List.take_of_length_le (by rw [← HN.out, e]; exact Nat.le_refl _)] at h
        exact h
      have HTl : Hid (T.length ≤ 100000000) := by
        have h := HOK.out.txt n
        rw [List.take_of_length_le (by rw [← HN.out]; exact Nat.le_refl _), ← HTE.out] at h
        exact h
      clear e HTX
      cases hp : prL T with
      | error px =>
        obtain ⟨p, x⟩ := px
        have hx := prL_errno hp
        have hx2 : ¬ ((x : Int) = 0) := by omega
        have HSH : Hid (showL l = none) := showL_err (by rw [← HTE.out]; exact hp)
        have HP : ∀ W, Hid (Calls Tryd.prog 16 #[.string (st T)] W fun e w' => e = .returned (.tuple #[.slice none 0 0, .int .i64 (p : Int), .int .i64 (x : Int)]) ∧ Below W.heap.size W w') := fun W => by
          have := rrules_any T W (Nat.le_trans HTl.out (by decide))
          rw [hp] at this
          exact this
        clear hp hx
        go_wp2_with (first
          | (go_at_call 16; (refine (HP _).out.mono ?_); rintro e w3 ⟨rfl, hb⟩; have HB3 := Lib.hid (bel_on HB.out HBs.out hb); clear hb)
          | fail)
        go_ret2
        refine ⟨?_, HB3.out⟩
        rw [HSH.out]
        rfl
      | ok u =>
        obtain ⟨m, hm⟩ : ∃ m, m = u.length := ⟨_, rfl⟩
        have HP : ∀ W, Hid (Calls Tryd.prog 16 #[.string (st T)] W fun e w' => ∃ a2 c2, e = .returned (.tuple #[.slice a2 m c2, .int .i64 0, .int .i64 0]) ∧ RowK cR w' a2 u ∧ Below W.heap.size W w') := fun W => by
          refine (rrules_any T W (Nat.le_trans HTl.out (by decide))).mono ?_
          rintro e w' ⟨h, hb⟩
          rw [hp] at h
          obtain ⟨v, he, ho⟩ := h
          obtain ⟨a2, c2, hv, hrk, _⟩ := RowK.own cR_len ho rfl
          exact ⟨a2, c2, by rw [he, hv, hm], hrk, hb⟩
        have HM := Lib.hid hm
        have HSH : Hid (showL l = if u = l then some T else none) := by
          show _ = _
          by_cases hul : u = l
          · rw [if_pos hul, HTE.out]; exact showL_eq (by rw [← HTE.out, hp, hul])
          · rw [if_neg hul]; exact showL_ne (by rw [← HTE.out]; exact hp) hul
        clear hp hm
        by_cases hnm : m = n
        case' neg =>
          have HSH2 : Hid (showL l = none) := by
            show _ = _
            rw [HSH.out, if_neg]
            intro h
            apply hnm
            rw [HM.out, HN.out, h]
          have hne : ¬ ((m : Int) = (n : Int)) := by omega
          clear hnm
          go_wp2_with (first
            | (go_at_call 16; (refine (HP _).out.mono ?_); rintro e w3 ⟨a2, c2, rfl, hrk, hb⟩; have HB3 := Lib.hid (bel_on HB.out HBs.out hb); clear hb hrk)
            | fail)
          go_ret2
          refine ⟨?_, HB3.out⟩
          rw [HSH2.out]
          rfl
        case' pos =>
          subst hnm
          go_wp2_with (first
            | (go_at_call 16; (refine (HP _).out.mono ?_); rintro e w3 ⟨a2, c2, rfl, hrk, hb⟩; have HB3 := Lib.hid (bel_on HB.out HBs.out hb); have HRU := Lib.hid hrk; clear hb hrk)
            | fail)
          have HRL3 : Hid (RowK cR w3 a l) := HR.out.keep (HB0.out ▸ HB3.out)
          go_loopg [9] m (fun gk iv wr => ∃ k : Nat, k ≤ m ∧ iv = .int .i64 k ∧ m - k ≤ gk ∧ Hid (u.take k = l.take k) ∧ Hid (Below w3.heap.size w3 wr))
          case atStart => exact ⟨0, Nat.zero_le _, rfl, by omega, rfl, Below.refl _ _⟩
          case round =>
            obtain ⟨k, hk, rfl, hgk, HTK, HBk⟩ := hrel
            have HBF : Hid (Below B w wr) := bel_on HB3.out (by have := HB3.out.size; have := HB0.out; omega) HBk.out
            by_cases hlt : k < m
            case' pos =>
              obtain ⟨x, hx⟩ : ∃ x, u[k]? = some x := ⟨_, List.getElem?_eq_getElem (by rw [← HM.out]; exact hlt)⟩
              obtain ⟨y, hy⟩ : ∃ y, l[k]? = some y := ⟨_, List.getElem?_eq_getElem (by rw [← HN.out]; exact hlt)⟩
              obtain ⟨k1, n1, N1, R1⟩ := x
              obtain ⟨k2, n2, N2, R2⟩ := y
              obtain ⟨b1, off1, rfl⟩ := HRU.out.form (by rw [← HM.out]; omega)
              obtain ⟨b2, off2, rfl⟩ := HRL3.out.form (by rw [← HN.out]; omega)
              obtain ⟨f0, f1, f2, f3⟩ := cells4 (HRU.out.keep HBk.out) hx rfl
              obtain ⟨g0, g1, g2, g3⟩ := cells4 (HRL3.out.keep HBk.out) hy rfl
              have hkz : (0 : Int) ≤ (k : Int) := by omega
              have hkn : (k : Int) < (m : Int) := by omega
              have HX := Lib.hid hx
              have HY := Lib.hid hy
              clear hx hy
              have HNE : Hid ((k1, n1, N1, R1) ≠ (k2, n2, N2, R2) → showL l = none) := fun hne => by rw [HSH.out]; exact if_neg (ne_at HX.out HY.out hne)
              by_cases e1 : k1 = k2
              · subst e1
                by_cases e2 : n1 = n2
                · subst e2
                  by_cases e3 : N1 = N2
                  · subst e3
                    by_cases e4 : R1 = R2
                    · subst e4
                      have HS := Lib.hid (take_step HTK.out HX.out HY.out)
                      go_wp2
                      go_quiet (fail)
                      go_wp2
                      go_roundg (m - (k + 1))
                      case measure => omega
                      case rel => exact ⟨k + 1, by omega, by go_num, by omega, HS, bel_drewN' HBk.out⟩
                    · have HF : Hid (showL l = none) := HNE.out (by simp [e4])
                      have t4 : (R1 == R2) = false := by simpa using e4
                      go_wp2
                      go_quiet (fail)
                      go_wp2
                      go_ret2
                      exact ⟨by rw [HF.out]; rfl, bel_drewN' HBF.out⟩
                  · have HF : Hid (showL l = none) := HNE.out (by simp [e3])
                    have t3 : (N1 == N2) = false := by simpa using e3
                    go_wp2
                    go_quiet (fail)
                    go_wp2
                    go_ret2
                    exact ⟨by rw [HF.out]; rfl, bel_drewN' HBF.out⟩
                · have HF : Hid (showL l = none) := HNE.out (by simp [e2])
                  have t2 := st_neb e2
                  go_wp2
                  go_quiet (fail)
                  go_wp2
                  go_ret2
                  exact ⟨by rw [HF.out]; rfl, bel_drewN' HBF.out⟩
              · have HF : Hid (showL l = none) := HNE.out (by simp [e1])
                have t1 := st_neb e1
                go_wp2
                go_quiet (fail)
                go_wp2
                go_ret2
                exact ⟨by rw [HF.out]; rfl, bel_drewN' HBF.out⟩
            case' neg =>
              have e : k = m := by omega
              have hkn : ¬ ((k : Int) < (m : Int)) := by omega
              have HSH2 : Hid (showL l = some T) := by
                have h1 := HTK.out
                rw [List.take_of_length_le (by rw [← HM.out, e]; exact Nat.le_refl _), List.take_of_length_le (by rw [← HN.out, e]; exact Nat.le_refl _)] at h1
                show _ = _
                rw [HSH.out, if_pos h1]
              clear e
              go_wp2
              go_ret2
              refine ⟨?_, HBF.out⟩
              rw [HSH2.out]
              rfl
end Go.Proofs.YtjegfoeempojiaaDoor
