/-
  Contracts of command.isCapital, isNameLetter, isName, isCurrency.
-/
import Derived.Test.YtkflakeocdlinaaGreatDoorMC01
import Derived.Test.YtkflakeocdlinaaGreatDoorMC03
import Derived.Lib.OthersKept
import Derived.Deep.LoopGhost
import Derived.Lib.Hide
namespace Go.Proofs.YtkflakeocdlinaaGreatDoor
open Go.RowKit

theorem capital_any (r : Int) (w : World) :
    Calls Tryz.prog 70 #[.int .i32 r] w fun e w' => e = .returned (.bool (capB r)) ∧ w = w' := by
  by_cases h1 : 65 ≤ r
  · by_cases h2 : r ≤ 90
    · have e : capB r = true := decide_eq_true ⟨h1, h2⟩
      rw [e]; clear e
      go_enter Tryz.func70, Tryz.ntmps70
      go_wp2
      go_ret
      exact ⟨rfl, rfl⟩
    · have e : capB r = false := decide_eq_false (by omega)
      rw [e]; clear e
      go_enter Tryz.func70, Tryz.ntmps70
      go_wp2
      go_ret
      exact ⟨rfl, rfl⟩
  · have e : capB r = false := decide_eq_false (by omega)
    rw [e]; clear e
    go_enter Tryz.func70, Tryz.ntmps70
    go_wp2
    go_ret
    exact ⟨rfl, rfl⟩

set_option maxHeartbeats 1600000 in
theorem nletter_any (r : Int) (w : World) :
    Calls Tryz.prog 69 #[.int .i32 r] w fun e w' => e = .returned (.bool (nlB r)) ∧ w = w' := by
  have HN : ∀ b, Hid (b = nlB r → (Calls Tryz.prog 69 #[.int .i32 r] w fun e w' => e = .returned (.bool b) ∧ w = w') → Calls Tryz.prog 69 #[.int .i32 r] w fun e w' => e = .returned (.bool (nlB r)) ∧ w = w') := fun b hb h => by rw [← hb]; exact h
  by_cases h1 : r = 95
  · subst h1
    refine (HN true).out (by decide) ?_
    go_enter Tryz.func69, Tryz.ntmps69
    go_wp2; go_ret; first | exact ⟨rfl, rfl⟩ | exact ⟨by simp; omega, rfl⟩
  by_cases h2 : r = 46
  · subst h2
    refine (HN true).out (by decide) ?_
    go_enter Tryz.func69, Tryz.ntmps69
    go_wp2; go_ret; first | exact ⟨rfl, rfl⟩ | exact ⟨by simp; omega, rfl⟩
  by_cases h3 : r = 47
  · subst h3
    refine (HN true).out (by decide) ?_
    go_enter Tryz.func69, Tryz.ntmps69
    go_wp2; go_ret; first | exact ⟨rfl, rfl⟩ | exact ⟨by simp; omega, rfl⟩
  by_cases h4 : r = 45
  · subst h4
    refine (HN true).out (by decide) ?_
    go_enter Tryz.func69, Tryz.ntmps69
    go_wp2; go_ret; first | exact ⟨rfl, rfl⟩ | exact ⟨by simp; omega, rfl⟩
  have k1 : (r == 95) = false := by simpa using h1
  have k2 : (r == 46) = false := by simpa using h2
  have k3 : (r == 47) = false := by simpa using h3
  have k4 : (r == 45) = false := by simpa using h4
  have HQ : Hid (nlB r = decide ((97 ≤ r ∧ r ≤ 122) ∨ (65 ≤ r ∧ r ≤ 90) ∨ (48 ≤ r ∧ r ≤ 57))) := by
    show _ = _
    unfold nlB
    rw [decide_eq_false (show ¬ (r = 95 ∨ r = 46 ∨ r = 47 ∨ r = 45) by omega), Bool.false_or]
  have HC := fun W => Lib.hid (capital_any r W)
  clear h1 h2 h3 h4
  by_cases g1 : 97 ≤ r ∧ r ≤ 122
  · obtain ⟨g1, g2⟩ := g1
    refine (HN true).out (by rw [HQ.out]; exact (decide_eq_true (by omega)).symm) ?_
    clear HN HQ
    go_enter Tryz.func69, Tryz.ntmps69
    go_wp2; go_ret; first | exact ⟨rfl, rfl⟩ | exact ⟨by simp; omega, rfl⟩
  · by_cases g2 : 65 ≤ r ∧ r ≤ 90
    · have e : capB r = true := decide_eq_true g2
      rw [e] at HC
      have g3 : ¬ 97 ≤ r := by omega
      refine (HN true).out (by rw [HQ.out]; exact (decide_eq_true (by omega)).symm) ?_
      clear HN HQ e g1 g2
      go_enter Tryz.func69, Tryz.ntmps69
      go_wp2_with (first | (go_at_call 70; with_reducible refine (HC _).out.mono ?_; rintro e w' ⟨rfl, rfl⟩) | fail)
      go_ret; first | exact ⟨rfl, rfl⟩ | exact ⟨by simp; omega, rfl⟩
    · have e : capB r = false := decide_eq_false g2
      rw [e] at HC
      by_cases g3 : 97 ≤ r
      · have g4 : ¬ r ≤ 122 := by omega
        have g5 : 48 ≤ r := by omega
        have g6 : ¬ r ≤ 57 := by omega
        refine (HN false).out (by rw [HQ.out]; exact (decide_eq_false (by omega)).symm) ?_
        clear HN HQ e g1 g2
        go_enter Tryz.func69, Tryz.ntmps69
        go_wp2_with (first | (go_at_call 70; with_reducible refine (HC _).out.mono ?_; rintro e w' ⟨rfl, rfl⟩) | fail)
        go_ret; first | exact ⟨rfl, rfl⟩ | exact ⟨by simp; omega, rfl⟩
      · by_cases g5 : 48 ≤ r
        · by_cases g6 : r ≤ 57
          · refine (HN true).out (by rw [HQ.out]; exact (decide_eq_true (by omega)).symm) ?_
            clear HN HQ e g1 g2
            go_enter Tryz.func69, Tryz.ntmps69
            go_wp2_with (first | (go_at_call 70; with_reducible refine (HC _).out.mono ?_; rintro e w' ⟨rfl, rfl⟩) | fail)
            go_ret; first | exact ⟨rfl, rfl⟩ | exact ⟨by simp; omega, rfl⟩
          · refine (HN false).out (by rw [HQ.out]; exact (decide_eq_false (by omega)).symm) ?_
            clear HN HQ e g1 g2
            go_enter Tryz.func69, Tryz.ntmps69
            go_wp2_with (first | (go_at_call 70; with_reducible refine (HC _).out.mono ?_; rintro e w' ⟨rfl, rfl⟩) | fail)
            go_ret; first | exact ⟨rfl, rfl⟩ | exact ⟨by simp; omega, rfl⟩
        · refine (HN false).out (by rw [HQ.out]; exact (decide_eq_false (by omega)).symm) ?_
          clear HN HQ e g1 g2
          go_enter Tryz.func69, Tryz.ntmps69
          go_wp2_with (first | (go_at_call 70; with_reducible refine (HC _).out.mono ?_; rintro e w' ⟨rfl, rfl⟩) | fail)
          go_ret; first | exact ⟨rfl, rfl⟩ | exact ⟨by simp; omega, rfl⟩

/-- a rune of a text: the byte itself, or no letter -/
theorem rune_at (s : List UInt8) (pos : Nat) (h : pos < s.length) :
    (((s.getD pos 0).toNat < 128 ∧ Utf8.decode (st s) pos = ((s.getD pos 0).toNat, 1)) ∨ (128 ≤ (s.getD pos 0).toNat ∧ 128 ≤ (Utf8.decode (st s) pos).1)) := by
  have hp : pos < (st s).size := by rw [st_size]; exact h
  have ha := st_at s pos hp
  by_cases hl : ((st s)[pos]'hp).toNat < 128
  · left
    refine ⟨by rw [← ha]; exact hl, ?_⟩
    rw [decode_ascii (st s) pos hp hl, ha]
  · right
    refine ⟨by rw [← ha]; omega, ?_⟩
    exact (decode_high (st s) pos hp (by omega)).1

theorem nlB_high {r : Int} (h : 128 ≤ r) : nlB r = false := by
  unfold nlB
  rw [decide_eq_false (by omega), decide_eq_false (by omega)]; rfl
theorem capB_high {r : Int} (h : 128 ≤ r) : capB r = false := decide_eq_false (by omega)

theorem all_take_one {p : UInt8 → Bool} {l : List UInt8} {k : Nat} (h : (l.take k).all p = true) (hk : k < l.length) (hp : p (l.getD k 0) = true) : (l.take (k + 1)).all p = true := by
  rw [List.take_succ_eq_append_getElem hk, List.all_append, h]
  have : l.getD k 0 = l[k] := by rw [List.getD_eq_getElem?_getD, List.getElem?_eq_getElem hk]; rfl
  rw [this] at hp
  simp [hp]
theorem all_not {p : UInt8 → Bool} {l : List UInt8} {k : Nat} (hk : k < l.length) (hp : p (l.getD k 0) = false) : l.all p = false := by
  rw [List.all_eq_false]
  have : l.getD k 0 = l[k] := by rw [List.getD_eq_getElem?_getD, List.getElem?_eq_getElem hk]; rfl
  rw [this] at hp
  exact ⟨l[k], List.getElem_mem hk, by rw [hp]; simp⟩

theorem lit_eqA (k L : List UInt8) : ((st k).toList == L) = decide (k = L) := by
  rw [Go.Lib.toList_data, st_toList]
  by_cases h : k = L
  · subst h; simp
  · rw [decide_eq_false h, beq_eq_false_iff_ne]; exact h
theorem empty_eqA (k : List UInt8) : (st k).toList.isEmpty = decide (k = []) := by
  rw [Go.Lib.toList_data, st_toList]
  cases k <;> rfl

set_option maxHeartbeats 1600000 in
theorem name_any (s : List UInt8) (m : Nat) (w : World) (hm : m ≤ 1000) :
    Calls Tryz.prog 45 #[.string (st s), .int .i64 (m : Int)] w fun e w' => e = .returned (.bool (nameB s m)) ∧ Below w.heap.size w w' := by
  have hsz := st_size s
  have q1 := empty_eqA s
  have q2 := lit_eqA s [45]
  by_cases h1 : s = []
  · rw [decide_eq_true h1] at q1
    have HE : Hid (nameB s m = false) := by show _ = _; unfold nameB; rw [decide_eq_false (by simp [h1])]; rfl
    rw [HE.out]
    clear q2 h1 HE
    go_enter Tryz.func45, Tryz.ntmps45
    go_wp2; go_ret; exact ⟨rfl, Below.refl _ _⟩
  rw [decide_eq_false h1] at q1
  by_cases h2 : s = [45]
  · rw [decide_eq_true h2] at q2
    have HE : Hid (nameB s m = false) := by show _ = _; unfold nameB; rw [decide_eq_false (by simp [h2])]; rfl
    rw [HE.out]
    clear h2 h1 HE
    go_enter Tryz.func45, Tryz.ntmps45
    go_wp2; go_ret; exact ⟨rfl, Below.refl _ _⟩
  rw [decide_eq_false h2] at q2
  obtain ⟨L, hL⟩ : ∃ L, L = s.length := ⟨_, rfl⟩
  rw [← hL] at hsz
  have HL := Lib.hid hL
  by_cases h3 : m < L
  · have h4 : (m : Int) < (L : Int) := by omega
    have HE : Hid (nameB s m = false) := by show _ = _; unfold nameB; rw [decide_eq_false (by rw [← hL]; omega)]; rfl
    rw [HE.out]
    clear h2 h1 HE hL
    go_enter Tryz.func45, Tryz.ntmps45
    go_wp2; go_ret; exact ⟨rfl, Below.refl _ _⟩
  have h4 : ¬ (m : Int) < (L : Int) := by omega
  have HE : Hid (nameB s m = s.all fun b => nlB b.toNat) := by show _ = _; unfold nameB; rw [decide_eq_true ⟨h1, h2, by rw [← hL]; omega⟩]; rfl
  rw [HE.out]
  clear h2 h1 HE hL
  have HLm : Hid (L ≤ 1000) := by show _ ≤ _; omega
  go_enter Tryz.func45, Tryz.ntmps45
  go_wp2
  go_loopg [6, 21] L (fun gk _ _ wr => ∃ pos : Nat, wr.heap[w.heap.size]? = some (.stringIter (st s) pos) ∧ L - pos ≤ gk ∧ Hid (pos ≤ L) ∧ Hid ((s.take pos).all (fun b => nlB b.toNat) = true) ∧ Hid (Below w.heap.size w wr))
  case atStart =>
    refine ⟨0, ?_, by omega, Nat.zero_le _, rfl, (Below.refl _ w).alloc (Nat.le_refl _) _⟩
    exact World.iter_heap w (st s) 0
  case round =>
    obtain ⟨pos, hit, hgk, HP, HA, HB⟩ := hrel
    have hk : w.heap.size < wr.heap.size := (Array.getElem?_eq_some_iff.1 hit).1
    by_cases hp : pos < L
    · have hps : pos < (st s).size := by rw [hsz]; exact hp
      have hpl : pos < s.length := by rw [← HL.out]; exact hp
      rcases rune_at s pos hpl with ⟨hlo, hd⟩ | ⟨hhi, hd⟩
      · have hnx : ∀ ty, (Instr.next (.pointer (some ⟨w.heap.size, 0, none⟩)) true ty).run Tryz.prog wr = .ok (.tuple #[.bool true, .int .i64 pos, .int .i32 ((s.getD pos 0).toNat : Int)]) (wr.iterAt w.heap.size (st s) (pos + 1)) := fun ty => by
          have := Lib.run_next_any_at (P := Tryz.prog) wr w.heap.size (st s) pos ty hit hps
          rw [hd] at this
          exact this
        have HI := Lib.hid (Lib.iterAt_heap wr w.heap.size (st s) pos (pos + 1) hit)
        have HB2 := Lib.hid (Lib.below_iterAt HB.out (k := w.heap.size) (Nat.le_refl _) (st s) (pos + 1))
        obtain ⟨v, hv⟩ : ∃ v : Int, v = ((s.getD pos 0).toNat : Int) := ⟨_, rfl⟩
        rw [← hv] at hnx
        have HC := fun W => Lib.hid (nletter_any v W)
        have HPL := Lib.hid hpl
        cases hb : nlB v with
        | true =>
          rw [hb] at HC
          have HN : Hid (nlB ((s.getD pos 0).toNat : Int) = true) := by show _ = _; rw [← hv]; exact hb
          clear hb hv hd hlo hpl hps hit
          go_wp2_with (first | (go_at_call 69; with_reducible refine (HC _).out.mono ?_; rintro e w' ⟨rfl, rfl⟩) | fail)
          go_roundg (L - (pos + 1))
          case rel => exact ⟨pos + 1, HI.out, by omega, by show _ ≤ _; omega, all_take_one HA.out HPL.out HN.out, HB2.out⟩
          case measure => omega
        | false =>
          rw [hb] at HC
          have HN : Hid (nlB ((s.getD pos 0).toNat : Int) = false) := by show _ = _; rw [← hv]; exact hb
          clear hb hv hd hlo hpl hps hit
          go_wp2_with (first | (go_at_call 69; with_reducible refine (HC _).out.mono ?_; rintro e w' ⟨rfl, rfl⟩) | fail)
          go_ret
          exact ⟨by rw [all_not HPL.out HN.out]; rfl, HB2.out⟩
      · obtain ⟨v, hv⟩ : ∃ v : Nat, v = (Utf8.decode (st s) pos).1 := ⟨_, rfl⟩
        obtain ⟨d, hdd⟩ : ∃ d : Nat, d = (Utf8.decode (st s) pos).2 := ⟨_, rfl⟩
        have hnx : ∀ ty, (Instr.next (.pointer (some ⟨w.heap.size, 0, none⟩)) true ty).run Tryz.prog wr = .ok (.tuple #[.bool true, .int .i64 pos, .int .i32 (v : Int)]) (wr.iterAt w.heap.size (st s) (pos + d)) := fun ty => by
          rw [hv, hdd]
          exact Lib.run_next_any_at (P := Tryz.prog) wr w.heap.size (st s) pos ty hit hps
        have HB2 := Lib.hid (Lib.below_iterAt HB.out (k := w.heap.size) (Nat.le_refl _) (st s) (pos + d))
        have HC := fun W => Lib.hid (nletter_any (v : Int) W)
        have hb : nlB (v : Int) = false := nlB_high (by rw [hv]; omega)
        rw [hb] at HC
        have HPL := Lib.hid hpl
        have HN : Hid (nlB ((s.getD pos 0).toNat : Int) = false) := nlB_high (by omega)
        clear hb hv hdd hd hhi hpl hps hit
        go_wp2_with (first | (go_at_call 69; with_reducible refine (HC _).out.mono ?_; rintro e w' ⟨rfl, rfl⟩) | fail)
        go_ret
        exact ⟨by rw [all_not HPL.out HN.out]; rfl, HB2.out⟩
    · have hps : ¬ pos < (st s).size := by rw [hsz]; exact hp
      have hnx : ∀ ty, (Instr.next (.pointer (some ⟨w.heap.size, 0, none⟩)) true ty).run Tryz.prog wr = _ := fun ty => Lib.run_next_end_at (P := Tryz.prog) wr w.heap.size (st s) pos ty hit hps
      have HT : Hid ((s.all fun b => nlB b.toNat) = true) := by
        show _ = _
        have := HA.out
        rwa [List.take_of_length_le (by rw [← HL.out]; omega)] at this
      clear hit hps
      go_wp2
      go_ret
      exact ⟨by rw [HT.out]; rfl, HB.out⟩
end Go.Proofs.YtkflakeocdlinaaGreatDoor
/-
  Contracts of command.isCurrency, isNameless; of slices.IndexFunc and ContainsFunc of shares at it; of slices.Index and Contains of fields.
-/
namespace Go.Proofs.YtkflakeocdlinaaGreatDoor
open Go.RowKit

set_option maxHeartbeats 1600000 in
theorem currency_any (s : List UInt8) (w : World) :
    Calls Tryz.prog 46 #[.string (st s)] w fun e w' => e = .returned (.bool (curB s)) ∧ Below w.heap.size w w' := by
  have hsz := st_size s
  obtain ⟨L, hL⟩ : ∃ L, L = s.length := ⟨_, rfl⟩
  rw [← hL] at hsz
  have HL := Lib.hid hL
  by_cases h3 : L = 3
  · have h4 : ((L : Int) != 3) = false := by rw [h3]; rfl
    have HE : Hid (curB s = s.all fun b => capB b.toNat) := by show _ = _; unfold curB; rw [decide_eq_true (by rw [← hL]; exact h3)]; rfl
    rw [HE.out]
    clear HE hL
    clear h3
    go_enter Tryz.func46, Tryz.ntmps46
    go_wp2
    go_loopg [4, 10] L (fun gk _ _ wr => ∃ pos : Nat, wr.heap[w.heap.size]? = some (.stringIter (st s) pos) ∧ L - pos ≤ gk ∧ Hid (pos ≤ L) ∧ Hid ((s.take pos).all (fun b => capB b.toNat) = true) ∧ Hid (Below w.heap.size w wr))
    case atStart =>
      refine ⟨0, ?_, by omega, Nat.zero_le _, rfl, (Below.refl _ w).alloc (Nat.le_refl _) _⟩
      exact World.iter_heap w (st s) 0
    case round =>
      obtain ⟨pos, hit, hgk, HP, HA, HB⟩ := hrel
      have hk : w.heap.size < wr.heap.size := (Array.getElem?_eq_some_iff.1 hit).1
      by_cases hp : pos < L
      · have hps : pos < (st s).size := by rw [hsz]; exact hp
        have hpl : pos < s.length := by rw [← HL.out]; exact hp
        rcases rune_at s pos hpl with ⟨hlo, hd⟩ | ⟨hhi, hd⟩
        · have hnx : ∀ ty, (Instr.next (.pointer (some ⟨w.heap.size, 0, none⟩)) true ty).run Tryz.prog wr = .ok (.tuple #[.bool true, .int .i64 pos, .int .i32 ((s.getD pos 0).toNat : Int)]) (wr.iterAt w.heap.size (st s) (pos + 1)) := fun ty => by
            have := Lib.run_next_any_at (P := Tryz.prog) wr w.heap.size (st s) pos ty hit hps
            rw [hd] at this
            exact this
          have HI := Lib.hid (Lib.iterAt_heap wr w.heap.size (st s) pos (pos + 1) hit)
          have HB2 := Lib.hid (Lib.below_iterAt HB.out (k := w.heap.size) (Nat.le_refl _) (st s) (pos + 1))
          obtain ⟨v, hv⟩ : ∃ v : Int, v = ((s.getD pos 0).toNat : Int) := ⟨_, rfl⟩
          rw [← hv] at hnx
          have HC := fun W => Lib.hid (capital_any v W)
          have HPL := Lib.hid hpl
          cases hb : capB v with
          | true =>
            rw [hb] at HC
            have HN : Hid (capB ((s.getD pos 0).toNat : Int) = true) := by show _ = _; rw [← hv]; exact hb
            clear hb hv hd hlo hpl hps hit
            go_wp2_with (first | (go_at_call 70; with_reducible refine (HC _).out.mono ?_; rintro e w' ⟨rfl, rfl⟩) | fail)
            go_roundg (L - (pos + 1))
            case rel => exact ⟨pos + 1, HI.out, by omega, by show _ ≤ _; omega, all_take_one HA.out HPL.out HN.out, HB2.out⟩
            case measure => omega
          | false =>
            rw [hb] at HC
            have HN : Hid (capB ((s.getD pos 0).toNat : Int) = false) := by show _ = _; rw [← hv]; exact hb
            clear hb hv hd hlo hpl hps hit
            go_wp2_with (first | (go_at_call 70; with_reducible refine (HC _).out.mono ?_; rintro e w' ⟨rfl, rfl⟩) | fail)
            go_ret
            exact ⟨by rw [all_not HPL.out HN.out]; rfl, HB2.out⟩
        · obtain ⟨v, hv⟩ : ∃ v : Nat, v = (Utf8.decode (st s) pos).1 := ⟨_, rfl⟩
          obtain ⟨d, hdd⟩ : ∃ d : Nat, d = (Utf8.decode (st s) pos).2 := ⟨_, rfl⟩
          have hnx : ∀ ty, (Instr.next (.pointer (some ⟨w.heap.size, 0, none⟩)) true ty).run Tryz.prog wr = .ok (.tuple #[.bool true, .int .i64 pos, .int .i32 (v : Int)]) (wr.iterAt w.heap.size (st s) (pos + d)) := fun ty => by
            rw [hv, hdd]
            exact Lib.run_next_any_at (P := Tryz.prog) wr w.heap.size (st s) pos ty hit hps
          have HB2 := Lib.hid (Lib.below_iterAt HB.out (k := w.heap.size) (Nat.le_refl _) (st s) (pos + d))
          have HC := fun W => Lib.hid (capital_any (v : Int) W)
          have hb : capB (v : Int) = false := capB_high (by rw [hv]; omega)
          rw [hb] at HC
          have HPL := Lib.hid hpl
          have HN : Hid (capB ((s.getD pos 0).toNat : Int) = false) := capB_high (by omega)
          clear hb hv hdd hd hhi hpl hps hit
          go_wp2_with (first | (go_at_call 70; with_reducible refine (HC _).out.mono ?_; rintro e w' ⟨rfl, rfl⟩) | fail)
          go_ret
          exact ⟨by rw [all_not HPL.out HN.out]; rfl, HB2.out⟩
      · have hps : ¬ pos < (st s).size := by rw [hsz]; exact hp
        have hnx : ∀ ty, (Instr.next (.pointer (some ⟨w.heap.size, 0, none⟩)) true ty).run Tryz.prog wr = _ := fun ty => Lib.run_next_end_at (P := Tryz.prog) wr w.heap.size (st s) pos ty hit hps
        have HT : Hid ((s.all fun b => capB b.toNat) = true) := by
          show _ = _
          have := HA.out
          rwa [List.take_of_length_le (by rw [← HL.out]; omega)] at this
        clear hit hps
        go_wp2
        go_ret
        exact ⟨by rw [HT.out]; rfl, HB.out⟩
  · have h4 : ((L : Int) != 3) = true := by rw [bne_iff_ne]; omega
    have HE : Hid (curB s = false) := by show _ = _; unfold curB; rw [decide_eq_false (by rw [← hL]; exact h3)]; rfl
    rw [HE.out]
    clear HE hL
    go_enter Tryz.func46, Tryz.ntmps46
    go_wp2; go_ret; exact ⟨rfl, Below.refl _ _⟩

set_option maxHeartbeats 400000 in
theorem nameless_any (p : List UInt8) (m : Int) (w : World) :
    Calls Tryz.prog 48 #[.agg #[.string (st p), .int .i64 m]] w fun e w' => e = .returned (.bool (!nameB p 20)) ∧ Below w.heap.size w w' := by
  have HC : ∀ W, Hid (Calls Tryz.prog 45 #[.string (st p), .int .i64 20] W fun e w' => e = .returned (.bool (nameB p 20)) ∧ Below W.heap.size W w') := fun W => name_any p 20 W (by decide)
  have HB : Hid (Below w.heap.size w (w.alloc (.cells #[.string (st p), .int .i64 m] 39))) := (Below.refl _ w).alloc (Nat.le_refl _) _
  go_enter Tryz.func48, Tryz.ntmps48
  go_wp2_with (first | (go_at_call 45; with_reducible refine (HC _).out.mono ?_; rintro e w' ⟨rfl, hb⟩; have HB2 := Lib.hid (bel_onG HB.out HB.out.size hb); clear hb) | fail)
  go_ret
  exact ⟨rfl, HB2.out⟩

theorem names_none {xs : List Sh} (h : ∀ (j : Nat) (s : Sh), xs[j]? = some s → nameB s.1 20 = true) : namesB xs = true := by
  unfold namesB
  rw [List.all_eq_true]
  intro x hx
  obtain ⟨k, hk⟩ := List.mem_iff_getElem?.1 hx
  exact h k x hk
theorem names_some {xs : List Sh} {k : Nat} {s : Sh} (h : xs[k]? = some s) (e : nameB s.1 20 = false) : namesB xs = false := by
  unfold namesB
  rw [List.all_eq_false]
  exact ⟨s, List.mem_of_getElem? h, by rw [e]; simp⟩

set_option maxHeartbeats 800000 in
theorem ifSh_any (a : Option Addr) (c : Nat) (xs : List Sh) (w : World) (hr : RowG 2 cSh w a xs) (hl : xs.length ≤ 4611686018427387904) :
    Calls Tryz.prog 71 #[.slice a xs.length c, .func (.func 48) #[] #[]] w fun e w' => ∃ n : Int, e = .returned (.int .i64 n) ∧ (!namesB xs) = decide (0 ≤ n) ∧ Below w.heap.size w w' := by
  obtain ⟨n, hn⟩ : ∃ n, n = xs.length := ⟨_, rfl⟩
  have HN := Lib.hid hn
  have HR := Lib.hid hr
  rw [← hn] at hl ⊢
  clear hn hr
  go_enter Tryz.func71, Tryz.ntmps71
  go_wp2
  go_loopg [5, 8] n (fun gk _ i wr => ∃ k : Nat, k ≤ n ∧ i = .int .i64 k ∧ n - k ≤ gk ∧ Hid (∀ (j : Nat) (s : Sh), j < k → xs[j]? = some s → nameB s.1 20 = true) ∧ Hid (Below w.heap.size w wr))
  case atStart => exact ⟨0, Nat.zero_le _, rfl, by omega, fun j s hj => by omega, Below.refl _ _⟩
  case round =>
    obtain ⟨k, hk, rfl, hgk, HJ, HB⟩ := hrel
    by_cases hlt : k < n
    · obtain ⟨x, hx⟩ : ∃ x, xs[k]? = some x := ⟨_, List.getElem?_eq_getElem (by rw [← HN.out]; exact hlt)⟩
      obtain ⟨p, m⟩ := x
      obtain ⟨b1, off, rfl⟩ := HR.out.form (by rw [← HN.out]; omega)
      have hat := (HR.out.keep HB.out).at hx
      have c0 : wr.cell? ⟨b1, off + k * 2, none⟩ = some (.string (st p)) := by simpa using hat 0 _ rfl
      have c1 : wr.cell? ⟨b1, off + k * 2 + 1, none⟩ = some (.int .i64 m) := hat 1 _ rfl
      have HC := Lib.hid (nameless_any p m wr)
      have hkz : (0 : Int) ≤ (k : Int) := by omega
      have hkn : (k : Int) < (n : Int) := by omega
      have HX := Lib.hid hx
      clear hx hat
      cases hb : nameB p 20 with
      | false =>
        rw [hb] at HC
        have HP := Lib.hid hb
        clear hb
        go_wp2_with fail
        refine HC.out.mono ?_
        rintro e w' ⟨rfl, hb⟩
        have HB2 := Lib.hid (bel_onG HB.out HB.out.size hb)
        clear hb
        go_wp2
        go_ret
        exact ⟨_, rfl, by rw [names_some HX.out HP.out]; simp, HB2.out⟩
      | true =>
        rw [hb] at HC
        have HP := Lib.hid hb
        clear hb
        go_wp2_with fail
        refine HC.out.mono ?_
        rintro e w' ⟨rfl, hb⟩
        have HB2 := Lib.hid (bel_onG HB.out HB.out.size hb)
        clear hb
        go_wp2
        go_roundg (n - (k + 1))
        case measure => omega
        case rel =>
          refine ⟨k + 1, by omega, by go_num, by omega, fun j s hj hs => ?_, HB2.out⟩
          by_cases e : j = k
          · subst e
            rw [HX.out] at hs
            injection hs with hs
            subst hs
            exact HP.out
          · exact HJ.out j s (by omega) hs
    · have hkn : ¬ ((k : Int) < (n : Int)) := by omega
      have HK : Hid (k = n) := by show _ = _; omega
      go_wp2
      go_ret
      refine ⟨-1, rfl, ?_, HB.out⟩
      rw [names_none (fun j s hs => HJ.out j s (by have := (List.getElem?_eq_some_iff.1 hs).1; rw [HK.out, HN.out]; exact this) hs)]
      rfl

set_option maxHeartbeats 400000 in
theorem cfSh_any (a : Option Addr) (c : Nat) (xs : List Sh) (w : World) (hr : RowG 2 cSh w a xs) (hl : xs.length ≤ 4611686018427387904) :
    Calls Tryz.prog 47 #[.slice a xs.length c, .func (.func 48) #[] #[]] w fun e w' => e = .returned (.bool (!namesB xs)) ∧ Below w.heap.size w w' := by
  have H := Lib.hid (ifSh_any a c xs w hr hl)
  clear hr hl
  go_enter Tryz.func47, Tryz.ntmps47
  go_wp2_with fail
  refine H.out.mono ?_
  rintro e w' ⟨n, rfl, h1, h2⟩
  have H1 := Lib.hid h1
  have H2 := Lib.hid h2
  clear h1 h2
  go_wp2
  go_ret
  exact ⟨by rw [H1.out]; rfl, H2.out⟩
end Go.Proofs.YtkflakeocdlinaaGreatDoor
