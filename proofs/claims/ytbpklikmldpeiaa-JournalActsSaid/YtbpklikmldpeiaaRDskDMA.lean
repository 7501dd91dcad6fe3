/-
  Contract of soukref05.Disk.Read.
-/
import Derived.Test.YtbpklikmldpeiaaRDskCMA
import Derived.Test.YtbpklikmldpeiaaMA01
namespace Go.Proofs.Ytbpklikmldpeiaa
open Go.RowKit Go.Lib

set_option maxHeartbeats 2000000 in
theorem rRead_any (B b : Nat) (s : DS) (fp : List Nat) (k : Int) (w : World) (h : RD w B b s fp) (hlen : s.pe.length ≤ 4611686018427387904) :
    Calls Try.prog 32 #[.pointer (some ⟨b, 0, none⟩), .int .i64 k] w fun e w' => e = .returned (.tuple #[.string (st (s.read k).1), .int .i64 (s.read k).2]) ∧ w = w' := by
  obtain ⟨n, vb, vp, h, rfl⟩ := h
  obtain ⟨ba, bc, rfl⟩ := own_slice2 h.row
  obtain ⟨pa, pc, rfl⟩ := own_slice2 h.own
  obtain ⟨np, hnp⟩ : ∃ np, np = s.pe.length := ⟨_, rfl⟩
  have HNP := Lib.hid hnp
  have c0 : w.cell? ⟨b, 0, none⟩ = some (.slice ba n bc) := h.box.cell 0
  have c1 : w.cell? ⟨b, 1, none⟩ = some (.slice pa np pc) := by rw [hnp]; exact h.box.cell 1
  have c3 : w.cell? ⟨b, 3, none⟩ = some (.bool s.dead) := h.box.cell 3
  have hn := h.ok.len
  rw [← h.num] at hn
  rw [← hnp] at hlen
  have H := Lib.hid h
  obtain ⟨dd, hdd⟩ : ∃ dd, dd = s.dead := ⟨_, rfl⟩
  rw [← hdd] at c3
  have HD := Lib.hid hdd
  have HN := Lib.hid h.num
  clear h hdd hnp
  cases dd with
  | true =>
    have hr : s.refusal k = 7 := by unfold DS.refusal; rw [if_pos HD.out.symm]
    have HE : Hid (s.read k = ([], 7)) := by show _ = _; unfold DS.read; rw [if_pos (by rw [hr]; decide), hr]
    clear hr
    go_enter Try.func32, Try.ntmps32
    go_wp2
    go_ret2
    rw [HE.out]
    exact ⟨rfl, rfl⟩
  | false =>
    by_cases hin : 0 ≤ k ∧ k < (n : Int)
    · obtain ⟨hk0, hk1⟩ := hin
      have hr : s.refusal k = 0 := by unfold DS.refusal; rw [if_neg (by rw [← HD.out]; decide), if_neg (by rw [← HN.out]; omega)]
      obtain ⟨m, hm⟩ : ∃ m : Nat, k = (m : Int) := ⟨k.toNat, by omega⟩
      subst hm
      have hmn : m < s.bl.length := by rw [← HN.out]; omega
      obtain ⟨x, hx⟩ : ∃ x, s.bl[m]? = some x := ⟨_, List.getElem?_eq_getElem hmn⟩
      have HE : Hid (s.read m = (curF x s.pe m, 0)) := by
        show _ = _
        unfold DS.read
        rw [if_neg (by rw [hr]; decide), Int.toNat_natCast, List.getD_eq_getElem?_getD, hx]; rfl
      obtain ⟨g, cg, hvb, _, e3⟩ := RDx.stand H.out.row hx
      injection hvb with hvb1 _ hvb3
      subst hvb1
      clear hr hmn hx hvb3
      go_enter Try.func32, Try.ntmps32
      go_wp2
      go_loopg [6, 7] np (fun gk y i wr => ∃ j : Nat, j ≤ np ∧ i = .int .i64 j ∧ y = .string (st (curF x (s.pe.take j) m)) ∧ np - j ≤ gk ∧ Hid (wr = w))
      case atStart => exact ⟨0, Nat.zero_le _, rfl, by simp [curF, curR], by omega, rfl⟩
      case round =>
        obtain ⟨j, hj, rfl, rfl, hgk, HW⟩ := hrel
        have e := HW.out
        subst e
        by_cases hlt : j < np
        · obtain ⟨p, hp⟩ : ∃ p, s.pe[j]? = some p := ⟨_, List.getElem?_eq_getElem (by rw [← HNP.out]; exact hlt)⟩
          obtain ⟨q, c', hv, e1, e2⟩ := RDx.pend H.out.own hp
          injection hv with hv1 hv2 hv3
          subst hv1
          have hcf : curF x (s.pe.take (j + 1)) m = if p.1 = m then p.2 else curF x (s.pe.take j) m := by
            obtain ⟨hl, he⟩ := List.getElem?_eq_some_iff.1 hp
            rw [List.take_succ_eq_append_getElem hl, he, curF_snoc]
          obtain ⟨i, d⟩ := p
          simp only at e1 e2 hcf
          by_cases him : i = m
          · subst him
            rw [if_pos rfl] at hcf
            have HCF := Lib.hid hcf
            clear hcf hp hv2 hv3
            go_wp2
            go_roundg (np - (j + 1))
            case measure => omega
            case rel => exact ⟨j + 1, by omega, by go_num, by rw [HCF.out], by omega, rfl⟩
          · rw [if_neg him] at hcf
            have HCF := Lib.hid hcf
            have t1 : ((i : Int) == (m : Int)) = false := by rw [beq_eq_false_iff_ne]; omega
            clear hcf hp hv2 hv3
            go_wp2
            go_roundg (np - (j + 1))
            case measure => omega
            case rel => exact ⟨j + 1, by omega, by go_num, by rw [HCF.out], by omega, rfl⟩
        · have e : j = np := by omega
          subst e
          have ht : s.pe.take j = s.pe := List.take_of_length_le (by rw [← HNP.out]; exact Nat.le_refl _)
          have HT := Lib.hid ht
          clear hgk ht
          go_wp2
          go_ret2
          rw [HE.out, HT.out]
          exact ⟨rfl, rfl⟩
    · have hr : s.refusal k = 8 := by unfold DS.refusal; rw [if_neg (by rw [← HD.out]; decide), if_pos (by rw [← HN.out]; omega)]
      have HE : Hid (s.read k = ([], 8)) := by show _ = _; unfold DS.read; rw [if_pos (by rw [hr]; decide), hr]
      clear hr
      by_cases hk0 : k < 0
      · clear hin
        go_enter Try.func32, Try.ntmps32
        go_wp2
        go_ret2
        rw [HE.out]
        exact ⟨rfl, rfl⟩
      · have hk1 : (n : Int) ≤ k := by omega
        clear hin
        go_enter Try.func32, Try.ntmps32
        go_wp2
        go_ret2
        rw [HE.out]
        exact ⟨rfl, rfl⟩
end Go.Proofs.Ytbpklikmldpeiaa
