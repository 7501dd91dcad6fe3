/-
  The walk of souklaw04.BlockReads.
-/
import Derived.Test.YtaflicoodlmolaaBlkH
import Derived.Test.YtaflicoodlmolaaBlkK
namespace Go.Proofs.Ytaflicoodlmolaa
open Go.RowKit

set_option maxHeartbeats 4000000 in
set_option maxRecDepth 100000 in
theorem reads_walk (number : Nat) (a : Option Addr) (c : Nat) (ls : List (List UInt8)) (w : World) (hr : RowS w a ls) (hn : number ≤ 255) (hm : ls.length ≤ 9223372036854775807) (hcap : ls.length ≤ c) (hs : ∀ s ∈ ls, s.length ≤ 9223372036854775807) :
    Calls Try.prog 4 #[.int .u8 number, .slice a ls.length c] w fun e w' => e = .returned (.bool true) ∧ Below w.heap.size w w' := by
  have HR := Lib.hid hr
  obtain ⟨n, hnn⟩ : ∃ n, n = ls.length := ⟨_, rfl⟩
  rw [← hnn] at hm hcap ⊢
  have HN := Lib.hid hnn
  have HS := Lib.hid hs
  clear hnn hr hs
  go_enter Try.func4, Try.ntmps4
  go_wp2
  go_loopg [5, 7, 15] n (fun gk z _ i wr => ∃ (k : Nat) (m : Int), k ≤ n ∧ i = .int .i64 k ∧ z = .int .i64 m ∧ n - k ≤ gk ∧ Hid (wr = w))
  case atStart => exact ⟨0, 0, Nat.zero_le _, rfl, rfl, by omega, rfl⟩
  case round =>
    obtain ⟨k, m, hk, rfl, rfl, hgk, HW⟩ := hrel
    have e := HW.out
    subst e
    by_cases hlt : k < n
    · obtain ⟨b, off, rfl, hc⟩ := HR.out (by have := HN.out; omega)
      obtain ⟨s, hs⟩ : ∃ s, ls[k]? = some s := ⟨_, List.getElem?_eq_getElem (by have := HN.out; omega)⟩
      have ck := hc k s hs
      have hsl := HS.out s (List.mem_of_getElem? hs)
      have hsz := st_size s
      have hkz : (0 : Int) ≤ (k : Int) := by omega
      have hkn : (k : Int) < (n : Int) := by omega
      clear hc hs
      go_wp2
      go_roundg (n - (k + 1))
      case measure => omega
      case rel => exact ⟨k + 1, _, by omega, by go_num, rfl, by omega, rfl⟩
    · have ek : k = n := by omega
      subst ek
      clear hgk
      have H1 := Lib.hid (lives4_any wr)
      go_wp2_with fail
      refine H1.out.mono ?_
      rintro e w1 ⟨rfl, hb1⟩
      have HB1 := Lib.hid hb1
      clear hb1 H1
      by_cases hbig : 3000 < m
      · have H2 := Lib.hid (lives4_any w1)
        go_wp2_with fail
        refine H2.out.mono ?_
        rintro e w2 ⟨rfl, hb2⟩
        have HB2 := Lib.hid (HB1.out.trans (hb2.mono HB1.out.size))
        clear hb2 H2
        go_wp2
        go_ret
        exact ⟨rfl, HB2.out⟩
      · by_cases h0 : k = 0
        · subst h0
          have H2 := Lib.hid (lives4_any w1)
          go_wp2_with fail
          refine H2.out.mono ?_
          rintro e w2 ⟨rfl, hb2⟩
          have HB2 := Lib.hid (HB1.out.trans (hb2.mono HB1.out.size))
          clear hb2 H2
          go_wp2
          go_ret
          exact ⟨rfl, HB2.out⟩
        · have t1 : ((k : Int) == 0) = false := by rw [beq_eq_false_iff_ne]; omega
          have H2 := unpack_any number a c ls w1 (HR.out.keep HB1.out) (by omega) (by have := HN.out; omega) (by have := HN.out; omega)
          rw [← HN.out] at H2
          have H2 := Lib.hid H2
          clear h0
          go_wp2_with fail
          refine H2.out.mono ?_
          rintro e w2 ⟨hu, hb2⟩
          have HB2 := Lib.hid (HB1.out.trans (hb2.mono HB1.out.size))
          have H3 := payload_any number a c ls w2 (HR.out.keep HB2.out) (by omega) (by have := HN.out; omega) (by have := HN.out; omega)
          rw [← HN.out] at H3
          have H3 := Lib.hid H3
          have HU := Lib.hid hu
          clear hb2 H2 hu
          rcases HU.out with ⟨ds, hbg, rfl⟩ | ⟨hno, rfl⟩
          · have HBG := Lib.hid hbg
            have h1 := hbg.1
            clear hbg
            go_wp2_with fail
            refine H3.out.mono ?_
            rintro e w3 ⟨hp, hb3⟩
            have HB3 := Lib.hid (HB2.out.trans (hb3.mono HB2.out.size))
            have HP := Lib.hid hp
            clear hb3 H3 hp
            rcases HP.out with ⟨ds', hbg', rfl⟩ | ⟨hno, rfl⟩
            · have e := HBG.out.inj hbg'
              subst e
              obtain ⟨q, hq⟩ : ∃ q, q = ds.length := ⟨_, rfl⟩
              obtain ⟨p, hp⟩ : ∃ p, p = st ds.flatten := ⟨_, rfl⟩
              rw [← hq] at h1
              have t2 : ((q : Int) == 0) = false := by rw [beq_eq_false_iff_ne]; omega
              simp only [← hq, ← hp]
              clear hq hp hbg'
              go_wp2
              go_ret
              exact ⟨rfl, HB3.out⟩
            · exact absurd HBG.out (hno _)
          · have HNO := Lib.hid hno
            clear hno
            go_wp2_with fail
            refine H3.out.mono ?_
            rintro e w3 ⟨hp, hb3⟩
            have HB3 := Lib.hid (HB2.out.trans (hb3.mono HB2.out.size))
            have HP := Lib.hid hp
            clear hb3 H3 hp
            rcases HP.out with ⟨ds', hbg', rfl⟩ | ⟨hno', rfl⟩
            · exact absurd hbg' (HNO.out _)
            · have es : (st []).toList.isEmpty = true := by rw [Go.Lib.toList_data, st_toList]; rfl
              clear hno'
              go_wp2
              go_ret
              exact ⟨rfl, HB3.out⟩
end Go.Proofs.Ytaflicoodlmolaa
