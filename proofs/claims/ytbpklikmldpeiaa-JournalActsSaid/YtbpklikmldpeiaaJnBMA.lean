/-
  Contracts of journal.readAll, clearBehind, writeFrom.
-/
import Derived.Test.YtbpklikmldpeiaaMA04
import Derived.Test.YtbpklikmldpeiaaMA01
import Derived.Test.YtbpklikmldpeiaaDskCMA
import Derived.Test.YtbpklikmldpeiaaDskEMA
import Derived.Test.YtbpklikmldpeiaaDskGMA
namespace Go.Proofs.Ytbpklikmldpeiaa
open Go.RowKit Go.Lib

/-- the program's disk, as a part of memory -/
def PDr (b : Nat) (s : DS) (w : World) (fp : List Nat) : Prop := PD w 0 b s fp
theorem PDr.stays (b : Nat) (s : DS) : Stays (PDr b s) where
  keep := fun h hs hn => PD.keep h hs hn
  lt := fun h k hk => (PD.lt h k hk).2

theorem room_few {n : Nat} (h : n ≤ 1000000) : Room n := by unfold Room; omega

set_option maxHeartbeats 2000000 in
set_option maxRecDepth 100000 in
theorem readAll_any (b : Nat) (s : DS) (fp : List Nat) (w : World) (h : PDr b s w fp) (hp : s.pe = []) (hd : s.dead = false) :
    Calls Try.prog 30 #[.pointer (some ⟨b, 0, none⟩)] w fun e w' => ∃ g n, n = s.bl.length ∧ e = .returned (.tuple #[.slice (some ⟨g, 0, none⟩) n n, .int .i64 0]) ∧ w'.ownsRow w.heap.size 9 1 (.slice (some ⟨g, 0, none⟩) n n) n (sv s.bl) ∧ Below w.heap.size w w' := by
  have H1 := Lib.hid (len_any 0 b s fp w h)
  obtain ⟨n, hnn⟩ : ∃ n, n = s.bl.length := ⟨_, rfl⟩
  have hn : n ≤ 65536 := by rw [hnn]; exact (PD.ok h).len
  obtain ⟨i0, hi, hz0, hz1, hz2⟩ := info_parts infoStr
  obtain ⟨w1, hmk, hown, hgr⟩ := run_make_full (P := Try.prog) w w.heap.size 22 9 i0 (.string ⟨#[]⟩) 1 Try.underlying22 hi hz0 hz1 .i64 .i64 n (by rw [hz2]; omega) (by unfold maxLen; omega) (Nat.le_refl _)
  have e0 : (madeCells (Value.string ⟨#[]⟩).cells (n * 1)).toList = laidS s.bl 0 := by
    rw [Nat.mul_one]
    exact (toList_madeCells_one (.string ⟨#[]⟩) n).trans (by simp [laidS, sv, hnn])
  rw [e0] at hown
  have HB1 := Lib.hid (show Below w.heap.size w w1 from (Below.refl _ w).grown hgr (Nat.le_refl _) (fun k hk => by cases hk))
  obtain ⟨G, hG⟩ : ∃ G, G = w.heap.size := ⟨_, rfl⟩
  rw [← hG] at hmk hown HB1 ⊢
  rw [← hnn] at H1 ⊢
  have HN := Lib.hid hnn
  have HG := Lib.hid hG
  have HO := Lib.hid hown
  have HPD := Lib.hid h
  have HPE := Lib.hid hp
  have HDD := Lib.hid hd
  clear h hown hgr hi hz0 hz1 hz2 e0 hG hp hd hnn
  go_enter Try.func30, Try.ntmps30
  go_wp2_with ((go_at_call 36; with_reducible refine H1.out.mono ?_; rintro e w' ⟨rfl, rfl⟩))
  clear hmk
  go_loopg [5, 6, 7, 13, 16] n (fun gk _ _ _ i _ wr => ∃ j : Nat, j ≤ n ∧ i = .int .i64 j ∧ n - j ≤ gk ∧ Hid (wr.ownsRow G 9 1 (.slice (some ⟨G, 0, none⟩) n n) n (laidS s.bl j)) ∧ Hid (Below G w wr))
  case atStart => exact ⟨0, Nat.zero_le _, rfl, by omega, HO.out, HB1.out⟩
  case round =>
    obtain ⟨j, hj, rfl, hgk, HR, HB⟩ := hrel
    by_cases hlt : j < n
    · obtain ⟨x, hx⟩ : ∃ x, s.bl[j]? = some x := ⟨_, List.getElem?_eq_getElem (by rw [← HN.out]; exact hlt)⟩
      have H2 := dkRead_any 0 b s fp j wr ((PDr.stays b s).since HPD.out (by rw [← HG.out]; exact HB.out)) (by rw [HPE.out]; decide)
      rw [read_none HPE.out HDD.out hx] at H2
      have H2 := Lib.hid H2
      have HX := Lib.hid hx
      have hGs : G ≤ wr.heap.size := Nat.le_trans (Nat.le_of_eq HG.out) HB.out.size
      have hjz : (0 : Int) ≤ (j : Int) := by omega
      have hjn : (j : Int) < (n : Int) := by omega
      clear hx
      go_wp2_with fail
      with_reducible refine H2.out.mono ?_
      rintro e w2 ⟨rfl, hb2⟩
      have hown2 := own_since HR.out hb2
      have HB2 := Lib.hid (HB.out.trans (hb2.mono hGs))
      have hlen : j < (laidS s.bl j).length := by rw [laidS_length _ _ (by rw [← HN.out]; omega), ← HN.out]; exact hlt
      have hcell : w2.cell? ⟨G, j, none⟩ = some ((laidS s.bl j)[j]'hlen) := by
        have := hown2.cells (g := G) rfl j _ (List.getElem?_eq_getElem hlen)
        rwa [Addr.add_mid, Nat.zero_add] at this
      have hfz := hown2.frozenAt j
      have hst := hown2.stored j (.string (st x))
      rw [laidS_step s.bl j x HX.out] at hst
      have HS1 := Lib.hid hst.1
      have HS2 := Lib.hid (HB2.out.grown hst.2 (Nat.le_trans (Nat.le_of_eq HG.out) HB2.out.size) (fun k hk => by injection hk with hk; omega))
      obtain ⟨u0, hu0⟩ : ∃ u0, w2.cell? ⟨G, j, none⟩ = some u0 := ⟨_, hcell⟩
      clear hb2 H2 hown2 hcell hst hlen
      go_wp2
      go_roundg (n - (j + 1))
      case measure => omega
      case rel => exact ⟨j + 1, by omega, by go_num, by omega, HS1.out, HS2.out⟩
    · have e : j = n := by omega
      subst e
      have hown := HR.out
      rw [HN.out, laidS_all, ← HN.out] at hown
      have HR2 := Lib.hid hown
      clear hgk hown
      go_wp2
      go_ret2
      exact ⟨G, j, rfl, rfl, HR2.out, HB.out⟩
end Go.Proofs.Ytbpklikmldpeiaa
