/-
  The walk of PlanShows.
-/
import Derived.Test.YtjegfoeempojiaaDoorPlnJ
import Derived.Test.YtjegfoeempojiaaDoorPlnK
namespace Go.Proofs.YtjegfoeempojiaaDoor
open Go.RowKit Go.Maps

theorem tok4c {w : World} {b : Nat} {t : TypeId} {a0 a1 a2 a3 : Value} (h : Blk w b t #[a0, a1, a2, a3]) : w.cell? ⟨b, 0, none⟩ = some a0 ∧ w.cell? ⟨b, 1, none⟩ = some a1 ∧ w.cell? ⟨b, 2, none⟩ = some a2 ∧ w.cell? ⟨b, 3, none⟩ = some a3 :=
  ⟨h.cell 0, h.cell 1, h.cell 2, h.cell 3⟩

theorem bel_le {B : Nat} {w X : World} (hB : B = w.heap.size) (h : Below B w X) : B ≤ X.heap.size := by have := h.size; omega

theorem bulkR_mem {l : List Rl} {r : Rl} (h : r ∈ l) : 1 + r.1.length + r.2.1.length ≤ bulkR l := by
  induction l with
  | nil => cases h
  | cons x l ih =>
    have e : bulkR (x :: l) = (1 + x.1.length + x.2.1.length) + bulkR l := by unfold bulkR; rw [List.map_cons, List.sum_cons]
    rcases List.mem_cons.1 h with rfl | h
    · omega
    · have := ih h; omega
theorem okRs_of {l : List Rl} (h : ∀ r ∈ l, OkR r) (hb : bulkR l ≤ 4000) : OkRs l where
  ok r hr := by have := bulkR_mem hr; exact ⟨h r hr, by omega, by omega⟩
  len := by have := bulkR_len l; omega
  txt k := by
    have h1 := textI_len _ (l.take k) rfl (fun r hr => h r (List.mem_of_mem_take hr))
    have h2 := bulkR_le l k
    omega
  one r hr := by
    have h1 := lineI_len (h r hr)
    have h2 := bulkR_mem hr
    omega

set_option maxHeartbeats 8000000 in
set_option maxRecDepth 100000 in
theorem shows_walk (a : Option Addr) (c : Nat) (l : List Rl) (w : World) (hr : RowK cR w a l) (hok : ∀ r ∈ l, OkR r) (hbl : bulkR l ≤ 1048576) (ht : Tab w) :
    Calls Tryd.prog 3 #[.slice a l.length c] w fun e w' => e = .returned (.bool true) ∧ Below w.heap.size w w' := by
  obtain ⟨n, hn⟩ : ∃ n, n = l.length := ⟨_, rfl⟩
  have HN := Lib.hid hn
  have HR := Lib.hid hr
  have HOK := Lib.hid hok
  have HTB := Lib.hid ht
  obtain ⟨B, hB⟩ : ∃ B, B = w.heap.size := ⟨_, rfl⟩
  have HB0 := Lib.hid hB
  have hnl : n ≤ 1048576 := by have := bulkR_len l; omega
  rw [← hn, ← hB]
  have HBL := Lib.hid hbl
  have HLv : ∀ W, Hid (Calls Tryd.prog 4 #[] W fun e w' => e = .returned (.bool true) ∧ Below W.heap.size W w') := fun W => lives_any W
  clear hn hr hok hB ht hbl
  go_enter Tryd.func3, Tryd.ntmps3
  go_wp2
  go_loopg [3, 5, 19] n (fun gk nv _ iv wr => ∃ (k m : Nat), k ≤ n ∧ iv = .int .i64 k ∧ nv = .int .i64 m ∧ n - k ≤ gk ∧ m ≤ 1048576 ∧ Hid (m = bulkR (l.take k)) ∧ Hid (Below B w wr))
  case atStart => exact ⟨0, 0, Nat.zero_le _, rfl, rfl, by omega, by omega, rfl, Below.refl _ _⟩
  case round =>
    obtain ⟨k, m, hk, rfl, rfl, hgk, hm0, HM, HB⟩ := hrel
    have HBs : Hid (B ≤ wr.heap.size) := by have := HB.out.size; have := HB0.out; show _ ≤ _; omega
    by_cases hlt : k < n
    case' pos =>
      obtain ⟨x, hx⟩ : ∃ x, l[k]? = some x := ⟨_, List.getElem?_eq_getElem (by rw [← HN.out]; exact hlt)⟩
      obtain ⟨b, off, rfl⟩ := HR.out.form (by rw [← HN.out]; omega)
      obtain ⟨c0, c1, c2, c3⟩ := cells4 (HR.out.keep (HB0.out ▸ HB.out)) hx rfl
      have hkz : (0 : Int) ≤ (k : Int) := by omega
      have hkn : (k : Int) < (n : Int) := by omega
      have hb1 := bulkR_take hx
      have hb2 := bulkR_le l (k + 1)
      have hb3 := HBL.out
      obtain ⟨p, hp⟩ : ∃ p, p = x.1.length := ⟨_, rfl⟩
      obtain ⟨q, hq⟩ : ∃ q, q = x.2.1.length := ⟨_, rfl⟩
      have z1 : (st x.1).size = p := by rw [st_size, hp]
      have z2 : (st x.2.1).size = q := by rw [st_size, hq]
      rw [← hp, ← hq] at hb1
      obtain ⟨m1, hm1⟩ : ∃ m1, m1 = 1 + p := ⟨_, rfl⟩
      obtain ⟨m2, hm2⟩ : ∃ m2, m2 = m1 + q := ⟨_, rfl⟩
      obtain ⟨m3, hm3⟩ : ∃ m3, m3 = m + m2 := ⟨_, rfl⟩
      have hmm := HM.out
      have hm4 : m3 ≤ 1048576 := by omega
      have HM3 : Hid (m3 = bulkR (l.take (k + 1))) := by show _ = _; omega
      have i1 : IntKind.i64.wrap (1 + (p : Int)) = (m1 : Int) := by rw [IntWalk.i64_in _ (by omega)]; omega
      have i2 : IntKind.i64.wrap ((m1 : Int) + (q : Int)) = (m2 : Int) := by rw [IntWalk.i64_in _ (by omega)]; omega
      have i3 : IntKind.i64.wrap ((m : Int) + (m2 : Int)) = (m3 : Int) := by rw [IntWalk.i64_in _ (by omega)]; omega
      clear hx hb1 hb2 hb3 hp hq hm1 hm2 hmm
      go_wp2
      go_roundg (n - (k + 1))
      case measure => omega
      case rel => exact ⟨k + 1, m3, by omega, by go_num, by go_num, by omega, hm4, HM3, HB.out.alloc HBs.out _⟩
    case' neg =>
      have e : k = n := by omega
      have hkn : ¬ ((k : Int) < (n : Int)) := by omega
      have HMl : Hid (m = bulkR l) := by
        have h := HM.out
        rw [List.take_of_length_le (by rw [← HN.out, e]; exact Nat.le_refl _)] at h
        exact h
      clear e HM
      by_cases hbig : 4000 < m
      case' pos =>
        have hb4 : (4000 : Int) < (m : Int) := by omega
        clear hbig
        go_wp2_with (first
          | (go_at_call 4; (refine (HLv _).out.mono ?_); rintro e w2 ⟨rfl, hb⟩; have HB2 := Lib.hid (bel_on HB.out HBs.out hb); have HS2 := Lib.hid (Nat.le_trans HBs.out hb.size : B ≤ w2.heap.size); clear hb HBs)
          | (go_at_call 4; (refine (HLv _).out.mono ?_); rintro e w3 ⟨rfl, hb⟩; have HB3 := Lib.hid (bel_on HB2.out HS2.out hb); clear hb)
          | fail)
        go_ret
        exact ⟨rfl, HB3.out⟩
      case' neg =>
        have hb4 : ¬ ((4000 : Int) < (m : Int)) := by omega
        have HOKs := Lib.hid (okRs_of HOK.out (by have := HMl.out; omega))
        clear hbig HMl
        go_wp2_with (first
          | (go_at_call 4; (refine (HLv _).out.mono ?_); rintro e w2 ⟨rfl, hb⟩; have HB2 := Lib.hid (bel_on HB.out HBs.out hb); clear hb HBs)
          | fail)
        clear HLv HB
        go_loopg [7, 43] n (fun gk _ iv wr => ∃ k : Nat, k ≤ n ∧ iv = .int .i64 k ∧ n - k ≤ gk ∧ Hid (Below B w wr))
        case atStart => exact ⟨0, Nat.zero_le _, rfl, by omega, HB2⟩
        case round =>
          clear HB2
          obtain ⟨k, hk, rfl, hgk, HB⟩ := hrel
          have HBs : Hid (B ≤ wr.heap.size) := bel_le HB0.out HB.out
          by_cases hlt : k < n
          case' pos =>
            obtain ⟨x, hx⟩ : ∃ x, l[k]? = some x := ⟨_, List.getElem?_eq_getElem (by rw [← HN.out]; exact hlt)⟩
            obtain ⟨b, off, rfl⟩ := HR.out.form (by rw [← HN.out]; omega)
            obtain ⟨c0, c1, c2, c3⟩ := cells4 (HR.out.keep (HB0.out ▸ HB.out)) hx rfl
            have hkz : (0 : Int) ≤ (k : Int) := by omega
            have hkn : (k : Int) < (n : Int) := by omega
            have hox := HOKs.out.ok x (List.mem_of_getElem? hx)
            obtain ⟨kb, hkb⟩ : ∃ kb, kb = (formL x.1).isSome := ⟨_, rfl⟩
            have HK1 : ∀ W, Hid (Calls Tryd.prog 5 #[.string (st x.1)] W fun e w' => e = .returned (.bool kb) ∧ Below W.heap.size W w') := fun W => by rw [hkb]; exact known_any x.1 W hox.2.1
            have HK2 : ∀ g W, Blk W g 24 #[.string (st x.1), .string (st x.2.1), .int .i64 x.2.2.1, .int .i64 x.2.2.2] → Calls Tryd.prog 6 #[.slice (some ⟨g, 0, none⟩) 1 1] W fun e w' => e = .returned (.bool kb) ∧ Below W.heap.size W w' := fun g W hb => by rw [hkb]; exact rknown_any g x W hb
            have HKK2 := Lib.hid HK2
            clear hx hox hkb HK2
            go_wp2_with fail
            have hbx := Blk.new wr 24 #[.string (st x.1), .string (st x.2.1), .int .i64 x.2.2.1, .int .i64 x.2.2.2]
            have hbd : Below B w (wr.alloc (.cells #[.string (st x.1), .string (st x.2.1), .int .i64 x.2.2.1, .int .i64 x.2.2.2] 24)) := HB.out.alloc HBs.out _
            obtain ⟨X, hX⟩ : ∃ X, X = wr.heap.size := ⟨_, rfl⟩
            rw [← hX] at hbx ⊢
            generalize wr.alloc (.cells #[.string (st x.1), .string (st x.2.1), .int .i64 x.2.2.1, .int .i64 x.2.2.2] 24) = wc at hbx hbd ⊢
            have HBXd : Hid (Blk wc.drew X 24 #[.string (st x.1), .string (st x.2.1), .int .i64 x.2.2.1, .int .i64 x.2.2.2]) := hbx
            have HBD : Hid (Below B w wc.drew) := hbd.drew
            have k0 := tok4c HBXd.out
            clear c0 c1 c2 c3 hbx hbd hX
            obtain ⟨wa, hwa⟩ : ∃ wa, wa = (wc.alloc (.cells #[.string (st x.1), .string (st x.2.1), .int .i64 x.2.2.1, .int .i64 x.2.2.2] 24)).drew := ⟨_, rfl⟩
            have HBXa : Hid (Blk wa X 24 #[.string (st x.1), .string (st x.2.1), .int .i64 x.2.2.1, .int .i64 x.2.2.2]) := by rw [hwa]; exact Blk.alloc (w := wc) HBXd.out _
            have HBNa : Hid (Blk wa wc.heap.size 24 #[.string (st x.1), .string (st x.2.1), .int .i64 x.2.2.1, .int .i64 x.2.2.2]) := by rw [hwa]; exact Blk.new wc _ _
            have HBDa : Hid (Below B w wa) := by rw [hwa]; exact (Below.alloc (w := wc.drew) HBD.out (bel_le HB0.out HBD.out) _)
            have ka := tok4c HBXa.out
            have HF2 := Lib.hid (HKK2.out _ _ HBNa.out)
            rw [hwa] at ka HF2
            go_region_held3 (fun w' => w'.cell? ⟨X, 0, none⟩ = some (.string (st x.1)) ∧ w'.cell? ⟨X, 1, none⟩ = some (.string (st x.2.1)) ∧ w'.cell? ⟨X, 2, none⟩ = some (.int .i64 x.2.2.1) ∧ w'.cell? ⟨X, 3, none⟩ = some (.int .i64 x.2.2.2))
              (first | with_reducible exact k0 | with_reducible exact ka | with_reducible exact k4 | with_reducible exact k5 | with_reducible exact tok4c ((HBXd.out.since hb4).alloc _) | go_keep)
              (first
                | (go_at_call 5; (have _h := hb4c; (with_reducible refine (HK1 _).out.mono ?_); rintro e w5 ⟨rfl, hb5⟩; have k5 := tok4c ((HBXa.out.since hb4c).since hb5)))
                | (go_at_call 5; ((with_reducible refine (HK1 wc.drew).out.mono ?_); rintro e w4 ⟨rfl, hb4⟩; have k4 := tok4c (HBXd.out.since hb4)))
                | (go_at_call 5; ((with_reducible refine (HK1 _).out.mono ?_); rintro e w4 ⟨rfl, hb4b⟩; rw [← hwa] at hb4b; have k4 := tok4c (HBXa.out.since hb4b)))
                | (go_at_call 6; (have _h := hb4; (with_reducible refine (HKK2.out _ _ (Blk.new w4 _ _)).mono ?_); rintro e w5 ⟨rfl, hb5⟩; have k5 := tok4c (((HBXd.out.since hb4).alloc _).since hb5)))
                | (go_at_call 6; (have _h := hb4b; (with_reducible refine (HKK2.out _ _ (HBNa.out.since hb4b)).mono ?_); rintro e w5 ⟨rfl, hb5⟩; have k5 := tok4c ((HBXa.out.since hb4b).since hb5)))
                | (go_at_call 6; ((with_reducible refine HF2.out.mono ?_); rintro e w4 ⟨rfl, hb4c⟩; rw [← hwa] at hb4c; have k4 := tok4c (HBXa.out.since hb4c))))
            all_goals
              have HB5 : Hid (Below B w w5) := by
                first
                  | exact bel_on (bel_on HBDa.out (bel_le HB0.out HBDa.out) hb4c) (bel_le HB0.out (bel_on HBDa.out (bel_le HB0.out HBDa.out) hb4c)) hb5
                  | exact bel_on (bel_on HBDa.out (bel_le HB0.out HBDa.out) hb4b) (bel_le HB0.out (bel_on HBDa.out (bel_le HB0.out HBDa.out) hb4b)) hb5
                  | exact bel_on ((bel_on HBD.out (bel_le HB0.out HBD.out) hb4).alloc (bel_le HB0.out (bel_on HBD.out (bel_le HB0.out HBD.out) hb4)) _) (bel_le HB0.out ((bel_on HBD.out (bel_le HB0.out HBD.out) hb4).alloc (bel_le HB0.out (bel_on HBD.out (bel_le HB0.out HBD.out) hb4)) _)) hb5
              clear k0 ka
              go_wp2
              go_roundg (n - (k + 1))
              case measure => omega
              case rel => exact ⟨k + 1, by omega, by go_num, by omega, HB5⟩
          case' neg =>
            have e : k = n := by omega
            have hkn : ¬ ((k : Int) < (n : Int)) := by omega
            clear e
            have HSP : Hid (∀ a2 c2 W, RowK cR W a2 l → Below B w W → Calls Tryd.prog 7 #[.slice a2 n c2] W fun e w' => e = .returned (showV (showL l)) ∧ Below W.heap.size W w') := by
              intro a2 c2 W h1 h2
              have := pshow_any a2 c2 l W h1 HOKs.out (HTB.out.keep (HB0.out ▸ h2))
              rw [← HN.out] at this
              exact this
            have HSR : Hid (∀ W, Below B w W → Calls Tryd.prog 8 #[.slice a n c] W fun e w' => e = .returned (showD (showL l)) ∧ Below W.heap.size W w') := by
              intro W h2
              have := rshow_any a c l W (HR.out.keep (HB0.out ▸ h2)) HOKs.out
              rw [← HN.out] at this
              exact this
            cases hs : showL l with
            | none =>
              rw [hs] at HSP HSR
              unfold showV at HSP
              unfold showD at HSR
              have hem : (⟨#[]⟩ : ByteArray).toList.isEmpty = true := by rw [Go.Lib.toList_data]; rfl
              clear hs
              go_wp2_with (first
                | (go_at_call 7; (refine (HSP.out _ _ _ (HR.out.keep (HB0.out ▸ HB.out)) HB.out).mono ?_); rintro e w3 ⟨rfl, hb⟩; have HB3 := Lib.hid (bel_on HB.out HBs.out hb); clear hb)
                | (go_at_call 8; (refine (HSR.out _ HB3.out).mono ?_); rintro e w4 ⟨rfl, hb⟩; have HB4 := Lib.hid (bel_on HB3.out (bel_le HB0.out HB3.out) hb); clear hb)
                | fail)
              go_ret
              exact ⟨rfl, HB4.out⟩
            | some T =>
              have hsm := showL_some hs
              have HTl : Hid (T.length ≤ 1000000000) := by
                have h := HOKs.out.txt n
                rw [List.take_of_length_le (by rw [← HN.out]; exact Nat.le_refl _), ← hsm.1] at h
                exact Nat.le_trans h (by decide)
              rw [hs] at HSP HSR
              unfold showV at HSP
              unfold showD at HSR
              have HP : ∀ W, Hid (Calls Tryd.prog 9 #[.string (st T)] W fun e w' => ∃ a2 c2, e = .returned (.tuple #[.slice a2 n c2, .int .i64 0, .int .i64 0]) ∧ RowK cR w' a2 l ∧ Below W.heap.size W w') := fun W => by
                refine (parse_any T W HTl.out).mono ?_
                rintro e w' ⟨h, hb⟩
                rw [hsm.2] at h
                obtain ⟨v, he, ho⟩ := h
                obtain ⟨a2, c2, hv, hrk, _⟩ := RowK.own cR_len ho rfl
                exact ⟨a2, c2, by rw [he, hv, HN.out], hrk, hb⟩
              have HEQ : Hid (∀ a2 c2 W, RowK cR W a2 l → Below B w W → Calls Tryd.prog 10 #[.slice a2 n c2, .slice a n c] W fun e w' => e = .returned (.bool true) ∧ Below W.heap.size W w') := by
                intro a2 c2 W h1 h2
                have := equalRule_any a2 a c2 c l l W h1 (HR.out.keep (HB0.out ▸ h2)) HOKs.out.len HOKs.out.len
                rw [decide_eq_true rfl, ← HN.out] at this
                exact this
              clear hs hsm
              go_wp2_with (first
                | (go_at_call 7; (refine (HSP.out _ _ _ HRK.out HB5.out).mono ?_); rintro e w6 ⟨rfl, hb⟩; have HB6 := Lib.hid (bel_on HB5.out (bel_le HB0.out HB5.out) hb); have HRK6 := Lib.hid (HRK.out.keep hb); clear hb)
                | (go_at_call 7; (refine (HSP.out _ _ _ (HR.out.keep (HB0.out ▸ HB.out)) HB.out).mono ?_); rintro e w3 ⟨rfl, hb⟩; have HB3 := Lib.hid (bel_on HB.out HBs.out hb); clear hb)
                | (go_at_call 8; (refine (HSR.out _ HB3.out).mono ?_); rintro e w4 ⟨rfl, hb⟩; have HB4 := Lib.hid (bel_on HB3.out (bel_le HB0.out HB3.out) hb); clear hb)
                | (go_at_call 9; (refine (HP _).out.mono ?_); rintro e w5 ⟨a2, c2, rfl, hrk, hb⟩; have HRK := Lib.hid hrk; have HB5 := Lib.hid (bel_on HB4.out (bel_le HB0.out HB4.out) hb); clear hb hrk)
                | (go_at_call 10; (refine (HEQ.out _ _ _ HRK6.out HB6.out).mono ?_); rintro e w7 ⟨rfl, hb⟩; have HB7 := Lib.hid (bel_on HB6.out (bel_le HB0.out HB6.out) hb); clear hb)
                | fail)
              go_ret
              exact ⟨rfl, HB7.out⟩
end Go.Proofs.YtjegfoeempojiaaDoor
