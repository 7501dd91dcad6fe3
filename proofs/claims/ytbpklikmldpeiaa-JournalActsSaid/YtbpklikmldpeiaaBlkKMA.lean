/-
  Contract of soukref03.Payload.
-/
import Derived.Test.YtbpklikmldpeiaaBlkIMA
import Derived.Test.YtbpklikmldpeiaaMA03
namespace Go.Proofs.Ytbpklikmldpeiaa
open Go.RowKit

/-- what Payload answers -/
def Pay (number : Nat) (ls : List (List UInt8)) (e : Ending) : Prop :=
  (∃ ds, Begins number ls ds ∧ e = .returned (.tuple #[.string (st ds.flatten), .int .i64 (ds.length : Nat)])) ∨ ((∀ ds, ¬ Begins number ls ds) ∧ e = .returned (.tuple #[.string (st []), .int .i64 0]))

theorem rowS_take {w : World} {a : Option Addr} {ls : List (List UInt8)} (h : RowS w a ls) (k : Nat) : RowS w a (ls.take k) := by
  intro h0
  obtain ⟨b, off, e, hc⟩ := h (by rw [List.length_take] at h0; omega)
  refine ⟨b, off, e, fun i x hx => hc i x ?_⟩
  have hi := (List.getElem?_eq_some_iff.1 hx).1
  rw [List.getElem?_take_of_lt (by rw [List.length_take] at hi; omega)] at hx
  exact hx

set_option maxHeartbeats 4000000 in
set_option maxRecDepth 100000 in
theorem payload_any (number : Nat) (a : Option Addr) (c : Nat) (ls : List (List UInt8)) (w : World) (hr : RowS w a ls) (hn : number ≤ 4294967294) (hm : ls.length ≤ 9223372036854775807) (hcap : ls.length ≤ c) :
    Calls Try.prog 48 #[.int .i64 number, .slice a ls.length c] w fun e w' => Pay number ls e ∧ Below w.heap.size w w' := by
  obtain ⟨n, hnn⟩ : ∃ n, n = ls.length := ⟨_, rfl⟩
  rw [← hnn] at hm hcap ⊢
  have HN := Lib.hid hnn
  have HR := Lib.hid hr
  have e0 : (⟨#[]⟩ : ByteArray) = st [] := rfl
  clear hnn hr
  go_enter Try.func48, Try.ntmps48
  go_wp2
  go_loopg [6, 7, 8, 9, 10] n (fun gk o i _ _ _ wr => ∃ k : Nat, k ≤ n ∧ k ≤ 255 ∧ i = .int .i64 ((k : Int) + 1) ∧ o = .string (st (outL ls k)) ∧ n - k ≤ gk ∧ Hid (∀ ds, Begins number ls ds → k < ds.length) ∧ Hid (Below w.heap.size w wr))
  case atStart => exact ⟨0, Nat.zero_le _, by omega, rfl, rfl, by omega, fun ds hd => by have := hd.1; omega, Below.refl _ _⟩
  case round =>
    obtain ⟨k, hk, hk255, rfl, rfl, hgk, HB, HW⟩ := hrel
    by_cases hlt : k < n ∧ k < 255
    · obtain ⟨hlt, hlt2⟩ := hlt
      obtain ⟨b, off, rfl, hc⟩ := HR.out (by have := HN.out; omega)
      obtain ⟨s, hs⟩ : ∃ s, ls[k]? = some s := ⟨_, List.getElem?_eq_getElem (by have := HN.out; omega)⟩
      have ek := hc k s hs
      have ck : wr.cell? ⟨b, off + k, none⟩ = some (.string (st s)) := by rw [HW.out.cell (p := ⟨b, off + k, none⟩) (World.block_lt_of_cell? w _ ek)]; exact ek
      have hkz : (0 : Int) ≤ (k : Int) := by omega
      have hkn : (k : Int) < (n : Int) := by omega
      have hk1 : (k : Int) + 1 ≤ (n : Int) := by omega
      have hk2 : (k : Int) + 1 ≤ 255 := by omega
      have hkk : (k : Int) + 1 - 1 = (k : Int) := by omega
      have HSk := Lib.hid hs
      clear hc hs ek
      have hsz := st_size s
      by_cases h64 : s.length = 64
      · rw [h64] at hsz
        have hg := st_at s 6 (by omega)
        obtain ⟨m0, hm0⟩ : ∃ m0, m0 = (s.getD 6 0).toNat := ⟨_, rfl⟩
        rw [← hm0] at hg
        have hb6 : m0 < 256 := by rw [hm0]; exact UInt8.toNat_lt _
        obtain ⟨m, hm'⟩ : ∃ m, m = min m0 49 := ⟨_, rfl⟩
        have hmin : min (m0 : Int) 49 = (m : Int) := by omega
        have hm49 : m ≤ 49 := by omega
        have hex : (st s).extract 7 (7 + m) = st (pieceOf s) := by
          rw [st_extract, show 7 + m - 7 = m by omega]; unfold pieceOf; rw [hm', hm0]
        have hol := outL_length ls k
        have hso : (st (outL ls k)).size ≤ k * 49 := by rw [st_size]; exact hol
        have hsp : (st (pieceOf s)).size ≤ 49 := by rw [st_size]; exact pieceOf_length s
        obtain ⟨out, hout⟩ : ∃ out, out = outL ls (k + 1) := ⟨_, rfl⟩
        have hap : st (outL ls k) ++ st (pieceOf s) = st out := by rw [st_append, hout, outL_succ HSk.out]
        have hol2 : out.length ≤ 12495 := by rw [hout]; have := outL_length ls (k + 1); omega
        have HOUT := Lib.hid hout
        have hkN : k < ls.length := by rw [← HN.out]; exact hlt
        have HkN := Lib.hid hkN
        have HBs := Lib.hid (Nat.le_trans (Nat.le_refl _) HW.out.size)
        clear hm0 hm' hout hol hkN
        have HNX : Hid ((∀ ds, Begins number ls ds → ds.length = k + 1 → recOK number out ∧ cnt out.length = k + 1 ∧ blks number out = ls.take (k + 1))) := fun ds hd he => by
          have h1 := hd.rec hn
          have h2 : ds.flatten = out := by rw [hd.out, he, HOUT.out]
          rw [h2, he] at h1
          exact h1
        have HNEW : Hid (¬ (recOK number out ∧ cnt out.length = k + 1 ∧ blks number out = ls.take (k + 1)) → ∀ ds, Begins number ls ds → k + 1 < ds.length) := fun hno ds hd => by
          have h1 := HB.out ds hd
          rcases Nat.lt_or_eq_of_le h1 with h2 | h2
          · exact h2
          · exact absurd (HNX.out ds hd h2.symm) hno
        by_cases hrec : recOK number out
        · obtain ⟨q, hq⟩ : ∃ q, q = cnt out.length := ⟨_, rfl⟩
          have H1 := rBlocks_yes number out wr hrec
          rw [← hq] at H1
          have H1 := Lib.hid H1
          have HQ := Lib.hid hq
          have HREC := Lib.hid hrec
          clear hq hrec
          by_cases hqk : q = k + 1
          · by_cases heq : blks number out = ls.take (k + 1)
            · have HY : Hid (∃ ds, Begins number ls ds ∧ ds.flatten = out ∧ ds.length = k + 1) := by
                have := begins_of HREC.out (by rw [← HQ.out, hqk]; exact heq) (by rw [← HQ.out, hqk]; exact HkN.out)
                rw [← HQ.out, hqk] at this
                exact this
              have HD := Lib.hid (decide_eq_true heq)
              clear heq
              go_wp2_with fail
              refine H1.out.mono ?_
              rintro e w1 ⟨v, rfl, hb1, hown⟩
              obtain ⟨a2, c2, rfl⟩ := own_slice hown
              have HW1 := Lib.hid (HW.out.trans (hb1.mono HW.out.size))
              have hq1 : (q : Int) = (k : Int) + 1 := by omega
              have t3 : ((q : Int) == (k : Int) + 1) = true := by rw [beq_iff_eq]; exact hq1
              have H2 := r4equal_any a2 (some ⟨b, off, none⟩) c2 c (k + 1) (blks number out) (ls.take (k + 1)) w1 (RowS.of_own (n := q) hown) (rowS_take (HR.out.keep HW1.out) _) (by rw [blks_length, ← HQ.out, hqk]) (by rw [List.length_take]; have := HkN.out; omega) (by omega)
              rw [HD.out] at H2
              have H2 := Lib.hid H2
              clear hb1 hown H1
              subst hqk
              go_wp2_with fail
              refine H2.out.mono ?_
              rintro e w2 ⟨rfl, hb2⟩
              have HW2 := Lib.hid (HW1.out.trans (hb2.mono HW1.out.size))
              clear hb2 H2
              go_wp2
              go_ret2
              obtain ⟨ds, hb, hf, hl⟩ := HY.out
              refine ⟨.inl ⟨ds, hb, ?_⟩, HW2.out⟩
              rw [hf, hl]
              rfl
            · have HNE := Lib.hid (HNEW.out (fun h => heq h.2.2))
              have HD := Lib.hid (decide_eq_false heq)
              clear heq
              go_wp2_with fail
              refine H1.out.mono ?_
              rintro e w1 ⟨v, rfl, hb1, hown⟩
              obtain ⟨a2, c2, rfl⟩ := own_slice hown
              have HW1 := Lib.hid (HW.out.trans (hb1.mono HW.out.size))
              have hq1 : (q : Int) = (k : Int) + 1 := by omega
              have t3 : ((q : Int) == (k : Int) + 1) = true := by rw [beq_iff_eq]; exact hq1
              have H2 := r4equal_any a2 (some ⟨b, off, none⟩) c2 c (k + 1) (blks number out) (ls.take (k + 1)) w1 (RowS.of_own (n := q) hown) (rowS_take (HR.out.keep HW1.out) _) (by rw [blks_length, ← HQ.out, hqk]) (by rw [List.length_take]; have := HkN.out; omega) (by omega)
              rw [HD.out] at H2
              have H2 := Lib.hid H2
              clear hb1 hown H1
              subst hqk
              go_wp2_with fail
              refine H2.out.mono ?_
              rintro e w2 ⟨rfl, hb2⟩
              have HW2 := Lib.hid (HW1.out.trans (hb2.mono HW1.out.size))
              clear hb2 H2
              go_wp2
              go_roundg (n - (k + 1))
              case measure => omega
              case rel => exact ⟨k + 1, by omega, by omega, by go_num, by rw [HOUT.out], by omega, HNE.out, HW2.out⟩
          · have HNE := Lib.hid (HNEW.out (fun h => hqk (HQ.out.trans h.2.1)))
            have hq1 : ¬ (q : Int) = (k : Int) + 1 := by omega
            have t3 : ((q : Int) == (k : Int) + 1) = false := by rw [beq_eq_false_iff_ne]; exact hq1
            clear hqk
            go_wp2_with fail
            refine H1.out.mono ?_
            rintro e w1 ⟨v, rfl, hb1, hown⟩
            obtain ⟨a2, c2, rfl⟩ := own_slice hown
            have HW1 := Lib.hid (HW.out.trans (hb1.mono HW.out.size))
            clear hb1 hown H1
            go_wp2
            go_roundg (n - (k + 1))
            case measure => omega
            case rel => exact ⟨k + 1, by omega, by omega, by go_num, by rw [HOUT.out], by omega, HNE.out, HW1.out⟩
        · have HNE := Lib.hid (HNEW.out (fun h => hrec h.1))
          have H1 := Lib.hid (rBlocks_no number out wr (by omega) hrec)
          clear hrec
          go_wp2_with fail
          refine H1.out.mono ?_
          rintro e w1 ⟨rfl, rfl⟩
          go_wp2
          go_roundg (n - (k + 1))
          case measure => omega
          case rel => exact ⟨k + 1, by omega, by omega, by go_num, by rw [HOUT.out], by omega, HNE.out, HW.out⟩
      · have t1 : ((s.length : Int) == 64) = false := by rw [beq_eq_false_iff_ne]; omega
        have t2 : ((s.length : Int) != 64) = true := by rw [bne_iff_ne]; omega
        have HNO : Hid (∀ ds, ¬ Begins number ls ds) := fun ds hd => by
          have h1 := HB.out ds hd
          have h2 := (hd.2.2.2 k s _ HSk.out (List.getElem?_eq_getElem h1))
          exact h64 (by rw [h2.2.2.2.2]; exact blkL_length _ _ _ _ h2.2.2.1)
        have HH := Lib.hid h64
        clear h64
        go_wp2
        go_ret2
        exact ⟨.inr ⟨HNO.out, rfl⟩, HW.out⟩
    · have HNO : Hid (∀ ds, ¬ Begins number ls ds) := fun ds hd => by
        have h1 := HB.out ds hd
        have h2 := hd.2.1
        have h3 := hd.2.2.1
        have := HN.out
        omega
      by_cases hkn : k < n
      · have hk3 : ¬ ((k : Int) + 1 ≤ 255) := by omega
        have hk1 : (k : Int) + 1 ≤ (n : Int) := by omega
        clear hlt
        go_wp2
        go_ret2
        exact ⟨.inr ⟨HNO.out, rfl⟩, HW.out⟩
      · have hk1 : ¬ ((k : Int) + 1 ≤ (n : Int)) := by omega
        clear hlt
        go_wp2
        go_ret2
        exact ⟨.inr ⟨HNO.out, rfl⟩, HW.out⟩
end Go.Proofs.Ytbpklikmldpeiaa
