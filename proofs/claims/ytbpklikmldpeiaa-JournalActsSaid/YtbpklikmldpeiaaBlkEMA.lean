/-
  Contract of soukref03.Blocks.
-/
import Derived.Test.YtbpklikmldpeiaaBlkDMA
import Derived.Test.YtbpklikmldpeiaaOwnMA
namespace Go.Proofs.Ytbpklikmldpeiaa
open Go.RowKit

set_option maxHeartbeats 1000000 in
theorem rBlocks_no (number : Int) (p : List UInt8) (w : World) (hl : p.length ≤ 100000000) (h : ¬ recOK number p) :
    Calls Try.prog 35 #[.int .i64 number, .string (st p)] w fun e w' => e = .returned (.tuple #[.slice none 0 0, .bool false]) ∧ w = w' := by
  have hsz := st_size p
  obtain ⟨n, hnn⟩ : ∃ n, n = p.length := ⟨_, rfl⟩
  by_cases h0 : p.length = 0
  · rw [h0] at hsz
    clear h hnn h0
    go_enter Try.func35, Try.ntmps35
    go_wp2
    go_ret2
    exact ⟨rfl, rfl⟩
  · by_cases h1 : 12495 < p.length
    · rw [← hnn] at hsz h1 hl
      have t1 : ¬ (((n : Int) + 48) / 49 = 0) := by omega
      have t2 : (255 : Int) < ((n : Int) + 48) / 49 := by omega
      clear h hnn h0
      go_enter Try.func35, Try.ntmps35
      go_wp2
      go_ret2
      exact ⟨rfl, rfl⟩
    · have hn : ¬ (0 ≤ number ∧ number ≤ 4294967294) := fun hn => h ⟨hn.1, hn.2, by omega, by omega⟩
      obtain ⟨c, hc⟩ : ∃ c : Nat, c = (n + 48) / 49 := ⟨_, rfl⟩
      have hcv : ((n : Int) + 48) / 49 = (c : Int) := by omega
      have hc1 : 1 ≤ c := by omega
      have hc2 : c ≤ 255 := by omega
      rw [← hnn] at hsz hl
      have t1 : ((c : Int) == 0) = false := by rw [beq_eq_false_iff_ne]; omega
      clear h hnn h0 h1 hc
      by_cases h3 : number < 0
      · clear hn
        go_enter Try.func35, Try.ntmps35
        go_wp2
        go_ret2
        exact ⟨rfl, rfl⟩
      · have h4 : 4294967294 < number := by omega
        clear hn
        go_enter Try.func35, Try.ntmps35
        go_wp2
        go_ret2
        exact ⟨rfl, rfl⟩

set_option maxHeartbeats 4000000 in
theorem rBlocks_yes (number : Nat) (p : List UInt8) (w : World) (h : recOK number p) :
    Calls Try.prog 35 #[.int .i64 number, .string (st p)] w fun e w' => ∃ v, e = .returned (.tuple #[v, .bool true]) ∧ Below w.heap.size w w' ∧ w'.ownsRow w.heap.size 9 1 v (cnt p.length) (sv (blks number p)) := by
  obtain ⟨hn0, hn1, hp1, hp2⟩ := h
  have hsz := st_size p
  obtain ⟨n, hnn⟩ : ∃ n, n = p.length := ⟨_, rfl⟩
  rw [← hnn] at hsz hp1 hp2 ⊢
  have HN := Lib.hid hnn
  obtain ⟨c, hc⟩ : ∃ c, c = cnt n := ⟨_, rfl⟩
  have hcv : ((n : Int) + 48) / 49 = (c : Int) := by rw [hc]; unfold cnt; omega
  have hc1 : 1 ≤ c := by rw [hc]; unfold cnt; omega
  have hc2 : c ≤ 255 := by rw [hc]; unfold cnt; omega
  have hcn : n ≤ c * 49 ∧ (c - 1) * 49 < n := by rw [hc]; unfold cnt; omega
  have t1 : ((c : Int) == 0) = false := by rw [beq_eq_false_iff_ne]; omega
  have HC := Lib.hid hc
  rw [← hc]
  have hmod : (number : Int) % 18446744073709551616 = (number : Int) := Int.emod_eq_of_lt (by omega) (by omega)
  have H1 := s3Low_any (number + 1) 4 w (by omega) (by omega)
  rw [show ((number + 1 : Nat) : Int) = (number : Int) + 1 by omega] at H1
  have H1 := Lib.hid H1
  clear hc hnn
  go_enter Try.func35, Try.ntmps35
  go_wp2_with fail
  refine H1.out.mono ?_
  rintro e w1 ⟨rfl, hb1⟩
  obtain ⟨T, hT⟩ : ∃ T, T = lowL 4 (number + 1) := ⟨_, rfl⟩
  rw [← hT]
  have HT := Lib.hid hT
  have hsT : (st T).size = 4 := by rw [st_size, hT, lowL_length]
  have HB1 := Lib.hid hb1
  obtain ⟨B, hB⟩ : ∃ B, B = w.heap.size := ⟨_, rfl⟩
  have HB1 : Hid (Below B w w1) := by rw [hB]; exact hb1
  have HBS : Hid (B ≤ w.heap.size) := by show B ≤ _; omega
  have HBE := Lib.hid hB
  have ep0 : (st p) = st (p.drop (0 * 49)) := by simp
  have HP0 := Lib.hid ep0
  clear hT hb1 H1 hB ep0 hcn
  go_wp2
  go_loopg [1, 8, 9, 10, 11, 12] c (fun gk r o i _ _ _ wr => ∃ (k : Nat) (v : Value), k ≤ c ∧ i = .int .i64 k ∧ r = .string (st (p.drop (k * 49))) ∧ v = o ∧ c - k ≤ gk ∧ Hid (wr.ownsRow B 9 1 v k (sv ((List.range k).map (blkAt number p)))) ∧ Hid (Below B w wr))
  case atStart => exact ⟨0, .slice none 0 0, Nat.zero_le _, rfl, by rw [← HP0.out], rfl, by omega, World.ownsRow_nil _ _ _ _, HB1.out⟩
  case round =>
    obtain ⟨k, v, hk, rfl, rfl, rfl, hgk, HR, HW⟩ := hrel
    by_cases hlt : k < c
    · have hd := dat_length p k
      have hkn : k * 49 < n := by
        have := HC.out
        unfold cnt at this
        omega
      rw [← HN.out] at hd
      obtain ⟨d, hdd⟩ : ∃ d, d = dat p k := ⟨_, rfl⟩
      rw [← hdd] at hd
      obtain ⟨r, hr⟩ : ∃ r, r = p.drop (k * 49) := ⟨_, rfl⟩
      rw [← hr]
      obtain ⟨lr, hlr⟩ : ∃ lr, lr = r.length := ⟨_, rfl⟩
      have hlr2 : lr = n - k * 49 := by rw [hlr, hr, List.length_drop, HN.out]
      have hsr : (st r).size = lr := by rw [st_size, hlr]
      obtain ⟨m, hm⟩ : ∃ m, m = d.length := ⟨_, rfl⟩
      rw [← hm] at hd
      have hsd : (st d).size = m := by rw [st_size, hm]
      obtain ⟨r', hr'⟩ : ∃ r', r' = p.drop ((k + 1) * 49) := ⟨_, rfl⟩
      have hex1 : (st r).extract m lr = st r' := by
        rw [st_extract, hr', hr, List.drop_drop]
        congr 1
        rw [List.take_of_length_le (by rw [List.length_drop, ← HN.out]; omega)]
        by_cases h49 : 49 < lr
        · rw [show k * 49 + m = (k + 1) * 49 by omega]
        · rw [List.drop_of_length_le (by rw [← HN.out]; omega), List.drop_of_length_le (by rw [← HN.out]; omega)]
      have hrd : d = r.take 49 := by rw [hdd, hr]; rfl
      have HDD := Lib.hid hdd
      have HRR := Lib.hid hr'
      have HM := Lib.hid hm
      have hm1 : 1 ≤ m := by omega
      have hm49 : m ≤ 49 := by omega
      have hmlr : m ≤ lr := by omega
      have HMM := Lib.hid hd
      have hlrn : lr ≤ n := by omega
      have hcase : (49 < lr ∧ m = 49) ∨ (lr ≤ 49 ∧ m = lr) := by omega
      have hx0 : 49 < lr → (st r).extract 0 49 = st d := fun _ => by rw [st_extract, hrd]; rfl
      have hx1 : lr ≤ 49 → d = r := fun h => by rw [hrd, List.take_of_length_le (by omega)]
      have HX0 := Lib.hid hx0
      have HX1 := Lib.hid hx1
      clear hd hdd hr hlr hlr2 hm hr' hrd hx0 hx1 hkn
      have hend : ∃ D, Hid (D = bodyL number k c d) := ⟨_, rfl⟩
      obtain ⟨D, HD⟩ := hend
      have hDl : D.length = 56 := by rw [HD.out]; exact bodyL_length _ _ _ _ (by have := HM.out; omega)
      have hsD : (st D).size = 56 := by rw [st_size, hDl]
      obtain ⟨bd, hbd⟩ : ∃ bd, bd = [UInt8.ofNat (k % 256), UInt8.ofNat (c % 256), UInt8.ofNat (m % 256)] ++ (d ++ List.replicate (49 - m) 0) := ⟨_, rfl⟩
      have hTbd : st T ++ st bd = st D := by
        rw [st_append, HD.out, HT.out, hbd]
        unfold bodyL
        rw [← HM.out]
        simp only [List.append_assoc]
      obtain ⟨b2, hb2⟩ : ∃ b2, b2 = [UInt8.ofNat (k % 256), UInt8.ofNat (c % 256)] := ⟨_, rfl⟩
      have hs2 : (st b2).size = 2 := by rw [st_size, hb2]; rfl
      have j2 : st [UInt8.ofNat (k % 256)] ++ st [UInt8.ofNat (c % 256)] = st b2 := by rw [hb2, st_append]; rfl
      obtain ⟨b3, hb3⟩ : ∃ b3, b3 = [UInt8.ofNat (k % 256), UInt8.ofNat (c % 256), UInt8.ofNat (m % 256)] := ⟨_, rfl⟩
      have hs3 : (st b3).size = 3 := by rw [st_size, hb3]; rfl
      have j3 : st b2 ++ st [UInt8.ofNat (m % 256)] = st b3 := by rw [hb2, hb3, st_append]; rfl
      have j4 : st b3 ++ st (d ++ List.replicate (49 - m) 0) = st bd := by rw [hb3, hbd, st_append]
      have J4 := Lib.hid j4
      have hsbd : (st bd).size = 52 := by rw [st_size, hbd]; simp [← HM.out]; omega
      have hone : ∀ x : Nat, (st [UInt8.ofNat (x % 256)]).size = 1 := fun x => st_size _
      have g1 := hone k
      have g2 := hone c
      have g3 := hone m
      have HLow : ∀ (x : Nat) (W : World), x < 1000 → Hid (Calls Try.prog 53 #[.int .u64 (x : Int), .int .i64 1] W fun e w' => e = .returned (.string (st [UInt8.ofNat (x % 256)])) ∧ Below W.heap.size W w') := fun x W hx => s3Low_any x 1 W (by omega) (by omega)
      have HSum := Lib.hid (r4Sum_any D · (by omega))
      have hW := W32.sum D
      have HLow4 : ∀ (W : World), Hid (Calls Try.prog 53 #[.int .u64 (sumI D), .int .i64 4] W fun e w' => e = .returned (.string (st (lowL 4 (wd (sumI D))))) ∧ Below W.heap.size W w') := fun W => by
        have h0 := hW.1
        have h1 := hW.2
        have hz : ((wd (sumI D) : Nat) : Int) = sumI D := by unfold wd; omega
        have := s3Low_any (wd (sumI D)) 4 W (by unfold wd; omega) (by omega)
        rw [hz] at this
        exact this
      obtain ⟨S, hS⟩ : ∃ S, S = lowL 4 (wd (sumI D)) := ⟨_, rfl⟩
      have hsS : (st S).size = 4 := by rw [st_size, hS, lowL_length]
      rw [← hS] at HLow4
      obtain ⟨D1, hD1⟩ : ∃ D1, D1 = D ++ S := ⟨_, rfl⟩
      have k1 : st D ++ st S = st D1 := by rw [hD1, st_append]
      have hsD1 : (st D1).size = 60 := by rw [← k1, ByteArray.size_append, hsD, hsS]
      have k2 : st D1 ++ st T = st (blkAt number p k) := by
        rw [st_append, hD1, hS, HT.out]
        unfold blkAt blkL
        rw [← HN.out, ← HC.out, ← HDD.out, ← HD.out]
      have hw0 := hW.1
      have hw1 := hW.2
      have wk : (k : Int) % 18446744073709551616 = (k : Int) := Int.emod_eq_of_lt (by omega) (by omega)
      have wc : (c : Int) % 18446744073709551616 = (c : Int) := Int.emod_eq_of_lt (by omega) (by omega)
      have wm : (m : Int) % 18446744073709551616 = (m : Int) := Int.emod_eq_of_lt (by omega) (by omega)
      clear hbd hb2 hb3 j4 hone hS hD1 hW hDl
      rcases hcase with ⟨h49, hm0⟩ | ⟨h49, hm0⟩
      case' inl =>
        have hex0 := HX0.out h49
        have HM0 := Lib.hid hm0
        have td : decide ((49 : Int) < (lr : Int)) = true := decide_eq_true (by omega)
        clear hm0
      case' inr =>
        have hrd := HX1.out h49
        subst hrd
        have hem : ByteArray.empty = st r' := by
          rw [← hex1, st_extract, hm0, Nat.sub_self]; rfl
        subst hm0
        have td : decide ((49 : Int) < (m : Int)) = false := decide_eq_false (by omega)
      all_goals
        go_wp2
        go_loopg [10] (49 - m) (fun gj x wq => ∃ j : Nat, j ≤ 49 - m ∧ x = .string (st (d ++ List.replicate j 0)) ∧ 49 - m - j ≤ gj ∧ Hid (wq = wr))
        case atStart => exact ⟨0, Nat.zero_le _, by simp, by omega, rfl⟩
        case round =>
          obtain ⟨j, hj, rfl, hgj, HQ⟩ := hrel
          have hq := HQ.out
          subst hq
          obtain ⟨X, hX⟩ : ∃ X, X = d ++ List.replicate j (0 : UInt8) := ⟨_, rfl⟩
          have HX := Lib.hid hX
          have hsX : (st X).size = m + j := by rw [st_size, hX, List.length_append, List.length_replicate, ← HM.out]
          have eX : st X ++ ⟨#[0]⟩ = st (d ++ List.replicate (j + 1) 0) := by
            rw [hX, List.replicate_succ', ← List.append_assoc, ← st_append]; rfl
          rw [← hX]
          clear hX
          by_cases hlt2 : m + j < 49
          · have EX := Lib.hid eX
            obtain ⟨X1, hX1⟩ : ∃ X1, X1 = d ++ List.replicate (j + 1) (0 : UInt8) := ⟨_, rfl⟩
            rw [← hX1] at eX
            have HX1 := Lib.hid hX1
            clear hX1
            go_wp2
            go_roundg (49 - m - (j + 1))
            case measure => omega
            case rel => exact ⟨j + 1, by omega, by rw [HX1.out], by omega, rfl⟩
          · have j4 : st b3 ++ st X = st bd := by rw [HX.out, show j = 49 - m by omega]; exact J4.out
            have A1 := HLow k wr (by omega)
            clear eX J4
            go_wp2_with fail
            refine A1.out.mono ?_
            rintro e wa ⟨rfl, ha⟩
            have HA := Lib.hid (HW.out.trans (ha.mono (Nat.le_trans HBS.out HW.out.size)))
            have HRa := Lib.hid (own_since HR.out ha)
            have A2 := HLow c wa (by omega)
            clear ha A1
            go_wp2_with fail
            refine A2.out.mono ?_
            rintro e wb ⟨rfl, ha⟩
            have HA := Lib.hid (HA.out.trans (ha.mono (Nat.le_trans HBS.out HA.out.size)))
            have HRa := Lib.hid (own_since HRa.out ha)
            have A3 := HLow m wb (by omega)
            clear ha A2
            go_wp2_with fail
            refine A3.out.mono ?_
            rintro e wc ⟨rfl, ha⟩
            have HA := Lib.hid (HA.out.trans (ha.mono (Nat.le_trans HBS.out HA.out.size)))
            have HRa := Lib.hid (own_since HRa.out ha)
            have A4 := Lib.hid (HSum.out wc)
            clear ha A3
            go_wp2_with fail
            refine A4.out.mono ?_
            rintro e wd ⟨rfl, rfl⟩
            have A5 := HLow4 wc
            clear A4
            go_wp2_with fail
            refine A5.out.mono ?_
            rintro e we ⟨rfl, ha⟩
            have HA := Lib.hid (HA.out.trans (ha.mono (Nat.le_trans HBS.out HA.out.size)))
            have HRa := Lib.hid (own_since HRa.out ha)
            have hBe : B ≤ we.heap.size := Nat.le_trans HBS.out HA.out.size
            have hL : (sv ((List.range (k + 1)).map (blkAt number p))) = sv ((List.range k).map (blkAt number p)) ++ [.string (st (blkAt number p k))] := by rw [List.range_succ]; simp [sv]
            have HL := Lib.hid hL
            clear ha A5 hL
            go_wp2_with (at_builtin; refine wpList_append_one rfl (.tmp 70) (.tmp 83) 22 rfl B 9 (.string ⟨#[]⟩) 16 Try.underlying22 infoStr rfl _ (.string (st (blkAt number p k))) rfl v k (sv ((List.range k).map (blkAt number p))) rfl rfl HRa.out hBe (by unfold maxLen; omega) (by omega) ?_; intro v1 w2 hown1 hbel1)
            have HO1 := Lib.hid hown1
            rw [← HL.out] at HO1
            have HB2 := Lib.hid (HA.out.trans hbel1)
            clear hown1 hbel1
            go_wp2
            go_roundg (c - (k + 1))
            case measure => omega
            case rel => exact ⟨k + 1, v1, by omega, by go_num, by rw [HRR.out], rfl, by omega, HO1.out, HB2.out⟩
    · have e : k = c := by omega
      subst e
      have hR := HR.out
      have e2 : (List.range k).map (blkAt number p) = blks number p := by unfold blks; rw [← HN.out, ← HC.out]
      rw [e2] at hR
      have HR2 := Lib.hid hR
      have HW2 : Hid (Below w.heap.size w wr) := by rw [← HBE.out]; exact HW.out
      have HR3 : Hid (wr.ownsRow w.heap.size 9 1 v k (sv (blks number p))) := by rw [← HBE.out]; exact HR2.out
      clear hgk hR e2
      go_wp2
      go_ret2
      exact ⟨v, rfl, HW2.out, HR3.out⟩
end Go.Proofs.Ytbpklikmldpeiaa
