/-
  Contract of journal.Records.
-/
import Derived.Test.YtbpklikmldpeiaaMA04
namespace Go.Proofs.Ytbpklikmldpeiaa
open Go.RowKit

theorem rowS_drop {w : World} {b off : Nat} {ls : List (List UInt8)} (h : RowS w (some ⟨b, off, none⟩) ls) (k : Nat) : RowS w (some ⟨b, off + k, none⟩) (ls.drop k) := by
  intro h0
  rw [List.length_drop] at h0
  obtain ⟨b', off', e, hc⟩ := h (by omega)
  injection e with e
  injection e with e1 e2
  subst e1 e2
  refine ⟨b, off + k, rfl, fun i x hx => ?_⟩
  rw [List.getElem?_drop] at hx
  have := hc (k + i) x hx
  rwa [Nat.add_assoc]

set_option maxHeartbeats 2000000 in
set_option maxRecDepth 100000 in
theorem records_some (b off c : Nat) (ls : List (List UInt8)) (w : World) (hr : RowS w (some ⟨b, off, none⟩) ls) (hl : ls.length ≤ 65536) (hc : ls.length ≤ c) (hc2 : c ≤ 9223372036854775807) :
    Calls Try.prog 18 #[.slice (some ⟨b, off, none⟩) ls.length c] w fun e w' => ∃ ps u v, Recs 0 ls ps u ∧ e = .returned (.tuple #[v, .int .i64 (u : Nat)]) ∧ Below w.heap.size w w' ∧ w'.ownsRow w.heap.size 9 1 v ps.length (sv ps) := by
  obtain ⟨n, hn⟩ : ∃ n, n = ls.length := ⟨_, rfl⟩
  have HN := Lib.hid hn
  have HR := Lib.hid hr
  rw [← hn] at hl hc ⊢
  obtain ⟨B, hB⟩ : ∃ B, B = w.heap.size := ⟨_, rfl⟩
  have HBE := Lib.hid hB
  have HBS : Hid (B ≤ w.heap.size) := by show B ≤ _; omega
  rw [← hB]
  clear hn hr hB
  go_enter Try.func18, Try.ntmps18
  go_wp2
  go_loopg [4, 5, 6, 7, 8, 9] (n + 1) (fun gk po uo _ _ _ _ wr => ∃ (ps : List (List UInt8)) (u : Nat) (v : Value), po = v ∧ uo = .int .i64 u ∧ u ≤ n ∧ n + 1 - u ≤ gk ∧ Hid (Lead 0 ls ps u) ∧ Hid (wr.ownsRow B 9 1 v ps.length (sv ps)) ∧ Hid (Below B w wr))
  case atStart => exact ⟨[], 0, .slice none 0 0, rfl, rfl, Nat.zero_le _, by omega, Lead.none 0 ls, World.ownsRow_nil _ _ _ _, Below.refl _ _⟩
  case round =>
    obtain ⟨ps, u, v, rfl, rfl, hu, hgk, HL, HO, HB⟩ := hrel
    obtain ⟨va, vc, rfl⟩ := own_slice HO.out
    have hfew := HL.out.few
    obtain ⟨m, hm⟩ : ∃ m, m = ps.length := ⟨_, rfl⟩
    have HM := Lib.hid hm
    rw [← hm] at hfew HO
    have hBs : B ≤ wr.heap.size := Nat.le_trans HBS.out HB.out.size
    rw [← hm]
    clear hm
    by_cases hun : u = n
    · have HS : Hid (Recs 0 ls ps u) := ⟨HL.out, fun ds hd => by have h1 := hd.1; have h2 := hd.2.1; rw [List.length_drop, ← HN.out] at h2; omega⟩
      have H0 : ∀ a c, Hid (Calls Try.prog 37 #[.int .i64 m, .slice a (n - u) c] wr fun e w' => e = .returned (.tuple #[.string (st []), .int .i64 0, .int .i64 4]) ∧ wr = w') := fun a c => by rw [show n - u = 0 by omega]; exact unpack_none (m : Int) a c wr
      clear hun
      by_cases huc : u = c
      · subst huc
        go_wp2_with fail
        first | (with_reducible refine (unpack_none (m : Int) _ _ _).mono ?_) | (with_reducible refine (H0 _ _).out.mono ?_)
        rintro e w1 ⟨rfl, rfl⟩
        go_wp2
        go_ret2
        exact ⟨ps, u, _, HS.out, rfl, HB.out, by rw [← HM.out]; exact HO.out⟩
      · have huc2 : u < c := by omega
        clear huc
        go_wp2_with fail
        first | (with_reducible refine (unpack_none (m : Int) _ _ _).mono ?_) | (with_reducible refine (H0 _ _).out.mono ?_)
        rintro e w1 ⟨rfl, rfl⟩
        go_wp2
        go_ret2
        exact ⟨ps, u, _, HS.out, rfl, HB.out, by rw [← HM.out]; exact HO.out⟩
    · have hlt : u < n := by omega
      have huc : u < c := by omega
      have hdl : (ls.drop u).length = n - u := by rw [List.length_drop, ← HN.out]
      have H1 := unpack_any m (some ⟨b, off + u, none⟩) (c - u) (ls.drop u) wr (rowS_drop (HR.out.keep (by have := HB.out; rw [← HBE.out]; exact this)) u) (by omega) (by omega) (by omega)
      rw [hdl] at H1
      have H1 := Lib.hid H1
      clear hun hdl
      go_wp2_with fail
      refine H1.out.mono ?_
      rintro e w1 ⟨hunp, hb1⟩
      have HB1 := Lib.hid (HB.out.trans (hb1.mono hBs))
      have HO1 := Lib.hid (own_since HO.out hb1)
      have hBs1 : B ≤ w1.heap.size := Nat.le_trans HBS.out HB1.out.size
      clear hb1 H1
      rcases hunp with ⟨ds, hd, rfl⟩ | ⟨hno, rfl⟩
      · obtain ⟨p, hp⟩ : ∃ p, p = ds.flatten := ⟨_, rfl⟩
        obtain ⟨q, hq⟩ : ∃ q, q = ds.length := ⟨_, rfl⟩
        have hq1 : 1 ≤ q := by rw [hq]; exact hd.1
        have hq2 : u + q ≤ n := by have := hd.2.1; rw [List.length_drop, ← HN.out] at this; omega
        have HL2 := Lib.hid (HL.out.snoc (by rw [Nat.zero_add, ← HM.out]; exact hd) (by rw [← HM.out]; omega))
        rw [← hp, ← hq] at HL2
        rw [← hp, ← hq]
        have hsv : sv (ps ++ [p]) = sv ps ++ [.string (st p)] := by simp [sv]
        have HSV := Lib.hid hsv
        clear hp hq hd hsv
        go_wp2_with (at_builtin; refine wpList_append_one rfl (.tmp 23) (.tmp 25) 22 rfl B 9 (.string ⟨#[]⟩) 16 Try.underlying22 infoStr rfl _ (.string (st p)) rfl (.slice va m vc) m (sv ps) rfl rfl HO1.out hBs1 (by unfold maxLen; omega) (by omega) ?_; intro v1 w2 hown1 hbel1)
        have HO2 := Lib.hid hown1
        rw [← HSV.out] at HO2
        have HB2 := Lib.hid (HB1.out.trans hbel1)
        clear hown1 hbel1
        go_wp2
        go_roundg (n + 1 - (u + q))
        case measure => omega
        case rel => exact ⟨ps ++ [p], u + q, v1, rfl, by go_num, hq2, by omega, HL2.out, by rw [List.length_append, ← HM.out]; exact HO2.out, HB2.out⟩
      · have HS : Hid (Recs 0 ls ps u) := ⟨HL.out, by rw [Nat.zero_add, ← HM.out]; exact hno⟩
        clear hno
        go_wp2
        go_ret2
        exact ⟨ps, u, _, HS.out, rfl, HB1.out, by rw [← HM.out]; exact HO1.out⟩
end Go.Proofs.Ytbpklikmldpeiaa
