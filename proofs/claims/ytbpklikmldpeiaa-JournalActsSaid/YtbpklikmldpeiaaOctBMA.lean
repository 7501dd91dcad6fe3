/-
  Contract of octet.Writer.Bytes.
-/
import Derived.Test.YtbpklikmldpeiaaOctWMA
import Derived.Lib.BufferWrite
import Derived.BigRegion
namespace Go.Proofs.Ytbpklikmldpeiaa
open Go.RowKit

/-- all bytes of pieces, the newest piece first -/
def flat : List (List UInt8) → List UInt8
  | [] => []
  | s :: r => flat r ++ s

theorem flat_length_append (a b : List (List UInt8)) : (flat (a ++ b)).length = (flat a).length + (flat b).length := by
  induction a with
  | nil => simp [flat]
  | cons x r ih => simp [flat, ih]; omega

theorem flat_append (a b : List (List UInt8)) : flat (a ++ b) = flat b ++ flat a := by
  induction a with
  | nil => simp [flat]
  | cons x r ih => simp [flat, ih, List.append_assoc]

theorem own_blk {w : World} {base g n : Nat} {e : TypeId} {xs : List Value} (h : w.ownsRow base e 1 (.slice (some ⟨g, 0, none⟩) n n) n xs) : Blk w g e xs.toArray := by
  rcases h.2 with ⟨hv, _⟩ | ⟨g', cap, cur, hv, _, hg, _, _, hs, ht⟩
  · cases hv
  · injection hv with h1 _ h3
    injection h1 with h1
    injection h1 with h1
    subst h1
    subst h3
    have e1 : cur.toList = xs := by rw [← ht, List.take_of_length_le (by simp; omega)]
    have e2 : cur = xs.toArray := by rw [← e1]
    rw [← e2]
    exact hg

theorem copy_blk {w : World} {g n k m : Nat} {xs : List Value} {s : List UInt8} (h : Blk w g 5 xs.toArray) (hk : k + s.length ≤ xs.length) (hn : s.length ≤ n) (hm : m = s.length) :
    ∃ w2, (Builtin.copy_ #[50, 9] 3 #[.slice (some ⟨g, k, none⟩) n n, .string (st s)]).run Try.prog w.drew = .ok (.int .i64 (m : Nat)) w2 ∧ Blk w2 g 5 (xs.take k ++ bv s ++ xs.drop (k + s.length)).toArray ∧ w.grownBy w2 (some g) := by
  have hr := Go.Lib.run_copy_row_string (P := Try.prog) w.drew 50 9 3 5 g k n n (st s) xs.toArray 5 Try.underlying50 (by obtain ⟨i0, hi, hz0, hz1, hz2⟩ := info_parts infoU8; rw [hi]; simp [hz1]) h (by rw [st_size]; exact hn) (by rw [st_size]; simpa using hk)
  rw [st_size, st_toList, ← hm] at hr
  refine ⟨_, hr, ?_, ?_⟩
  · have := setRow_heap w.drew g _ (xs.take k ++ bv s ++ xs.drop (k + m)).toArray 5 (0, 0) h
    rw [← hm]
    exact this
  · exact ⟨rfl, rfl, rfl, by rw [setRow_size]; exact Nat.le_refl _, fun j _ hj => setRow_other w.drew g j _ (fun e => hj (by rw [e]))⟩

theorem bytes_nil (w : World) :
    Calls Try.prog 68 #[.pointer none] w fun e w' => e = .returned (.tuple #[.string (st []), .int .i64 1]) ∧ w = w' := by
  go_enter Try.func68, Try.ntmps68
  go_wp2
  go_ret2
  exact ⟨rfl, rfl⟩

theorem bytes_long (B b : Nat) (w : World) (h : WAt w B b none) :
    Calls Try.prog 68 #[.pointer (some ⟨b, 0, none⟩)] w fun e w' => e = .returned (.tuple #[.string (st []), .int .i64 1]) ∧ w = w' := by
  obtain ⟨hB, hb⟩ := h
  have c1 : w.cell? ⟨b, 1, none⟩ = some (.bool true) := hb.cell 1
  clear hb
  go_enter Try.func68, Try.ntmps68
  go_wp2
  go_ret2
  exact ⟨rfl, rfl⟩

theorem chain_split {w : World} {B : Nat} {p : Option Addr} {s : List UInt8} {r : List (List UInt8)} (h : Chain w B p (s :: r)) :
    ∃ b q, p = some ⟨b, 0, none⟩ ∧ B ≤ b ∧ s ≠ [] ∧ Blk w b 129 #[.pointer q, .string (st s)] ∧ Chain w B q r := h

set_option maxHeartbeats 1000000 in
theorem bytes_any (B b : Nat) (ps : List (List UInt8)) (w : World) (h : WAt w B b (some ps)) (hm : (flat ps).length ≤ 1000000000) :
    Calls Try.prog 68 #[.pointer (some ⟨b, 0, none⟩)] w fun e w' => e = .returned (.tuple #[.string (st (flat ps)), .int .i64 0]) ∧ Below w.heap.size w w' := by
  obtain ⟨hB, p, hb, hc⟩ := h
  have c0 : w.cell? ⟨b, 0, none⟩ = some (.pointer p) := hb.cell 0
  have c1 : w.cell? ⟨b, 1, none⟩ = some (.bool false) := hb.cell 1
  have HB := Lib.hid hb
  have HC := Lib.hid hc
  have HM := Lib.hid hm
  clear hb hc hm
  go_enter Try.func68, Try.ntmps68
  go_wp2
  go_loopg [4, 5] ps.length (fun gk z q wr => ∃ l1 l2 a, ps = l1 ++ l2 ∧ q = .pointer a ∧ z = .int .i64 ((flat l1).length : Nat) ∧ l2.length ≤ gk ∧ Hid (Chain w B a l2) ∧ Hid (wr = w))
  case atStart => exact ⟨[], ps, p, rfl, rfl, rfl, Nat.le_refl _, HC.out, rfl⟩
  case round =>
    obtain ⟨l1, l2, a, he, rfl, rfl, hgk, HC2, HW⟩ := hrel
    cases l2 with
    | nil =>
      have ha : a = none := HC2.out
      subst ha
      have e := HW.out.symm
      subst e
      have HE := Lib.hid he
      have h0 : l1 = ps := by rw [he, List.append_nil]
      clear he
      subst h0
      obtain ⟨n, hn⟩ : ∃ n, n = (flat l1).length := ⟨_, rfl⟩
      have hm := HM.out
      rw [← hn] at hm ⊢
      have HN := Lib.hid hn
      obtain ⟨i0, hi, hz0, hz1, hz2⟩ := info_parts infoU8
      obtain ⟨w1, hmk, hown, hgr⟩ := run_make_full (P := Try.prog) w w.heap.size 50 5 i0 (.int .u8 0) 1 Try.underlying50 hi hz0 hz1 .i64 .i64 n (by rw [hz2]; omega) (by unfold maxLen; omega) (Nat.le_refl _)
      have e0 : (madeCells (Value.int .u8 0).cells (n * 1)).toList = List.replicate n (.int .u8 0) := by
        rw [Nat.mul_one]
        exact (toList_madeCells_one (.int .u8 0) n).trans (by simp)
      rw [e0] at hown
      obtain ⟨g, hg⟩ : ∃ g, g = w.heap.size := ⟨_, rfl⟩
      have HB1 := Lib.hid (below_of_grown hgr (Nat.le_refl _) (fun k hk => by cases hk))
      have HC1 := Lib.hid (HC.out.keep fun b' cs hk => hk.since HB1.out)
      have HBW := Lib.hid (HB.out.since HB1.out)
      have c2 : w1.cell? ⟨b, 0, none⟩ = some (.pointer p) := HBW.out.cell 0
      have c3 : w1.cell? ⟨b, 1, none⟩ = some (.bool false) := HBW.out.cell 1
      rw [← hg] at hmk hown HB1
      have HG := Lib.hid hg
      have HO := Lib.hid hown
      have HBS : Hid (g ≤ w.heap.size) := by show g ≤ _; omega
      clear e0 hown hgr hi hz0 hz1 hz2 hg hn
      go_wp2
      clear hmk
      go_loopg [4, 7] l1.length (fun gk z q wq => ∃ m1 m2 a, l1 = m1 ++ m2 ∧ q = .pointer a ∧ z = .int .i64 ((flat m2).length : Nat) ∧ m2.length ≤ gk ∧ Hid (Chain wq B a m2) ∧ Hid (Blk wq g 5 (List.replicate (flat m2).length (Value.int .u8 0) ++ bv (flat m1)).toArray) ∧ Hid (Below g w wq))
      case atStart => exact ⟨[], l1, p, rfl, rfl, by rw [← HN.out], Nat.le_refl _, HC1.out, by have := own_blk HO.out; rw [← HN.out]; show Blk _ _ _ _; simpa [flat, bv] using this, HB1.out⟩
      case round =>
        obtain ⟨m1, m2, a, he2, rfl, rfl, hgk2, HCa, HRa, HWa⟩ := hrel
        cases m2 with
        | nil =>
          have ha : a = none := HCa.out
          subst ha
          have h0 : l1 = m1 := by rw [he2, List.append_nil]
          subst h0
          have hown : ∀ j (hj : j < (flat l1).length), wr.cell? ((⟨g, 0, none⟩ : Addr).add j) = some (.int .u8 ((flat l1)[j].toNat : Int)) := by
            intro j hj
            have h1 := HRa.out.cell j
            have e2 : (⟨g, 0, none⟩ : Addr).add j = ⟨g, j, none⟩ := by
              unfold Addr.add
              by_cases e0 : j = 0
              · subst e0; rfl
              · simp [e0]
            rw [e2, h1]
            simp [flat, bv, hj]
          have hcv := run_convert_bytes_back (P := Try.prog) wr 50 9 5 ⟨g, 0, none⟩ n (flat l1) Try.underlying50 Try.underlying5 Try.underlying9 hown
          rw [← HN.out] at hcv
          have HB2 := Lib.hid (show Below w.heap.size w wr by rw [← HG.out]; exact HWa.out)
          clear hown he2
          go_wp2
          go_ret2
          exact ⟨rfl, HB2.out⟩
        | cons s r =>
          obtain ⟨b1, q1, rfl, hB1, hs1, hb1, hr⟩ := HCa.out
          have d0 : wr.cell? ⟨b1, 0, none⟩ = some (.pointer q1) := hb1.cell 0
          have d1 : wr.cell? ⟨b1, 1, none⟩ = some (.string (st s)) := hb1.cell 1
          have hsz := st_size s
          have hm0 : 0 < s.length := List.length_pos_iff.mpr hs1
          have hle : (flat r).length + s.length ≤ n := by
            have h1 := HN.out
            rw [he2, flat_length_append] at h1
            simp [flat] at h1
            omega
          have e3 : (flat (s :: r)).length = (flat r).length + s.length := by simp [flat]
          have HE3 := Lib.hid e3
          obtain ⟨t, ht⟩ : ∃ t, t = (flat (s :: r)).length := ⟨_, rfl⟩
          obtain ⟨k, hk⟩ : ∃ k, k = (flat r).length := ⟨_, rfl⟩
          obtain ⟨m, hmm⟩ : ∃ m, m = s.length := ⟨_, rfl⟩
          rw [← ht] at HRa HE3 ⊢
          rw [← hk] at hle HE3
          rw [← hmm] at hsz hm0 hle HE3
          have HT := Lib.hid ht
          have HK := Lib.hid hk
          have HMM := Lib.hid hmm
          have hx : (t : Int) - (m : Int) = (k : Int) := by have := HE3.out; omega
          have hkn : ¬ (n = k) := by omega
          have hR := Lib.hid hr
          have HE2 := Lib.hid he2
          have HB1 := Lib.hid hb1
          obtain ⟨w2, hcp, hbl, hgr⟩ := copy_blk (g := g) (n := n - k) (k := k) (m := m) (s := s) HRa.out (by simp; omega) (by omega) hmm
          have HBL := Lib.hid hbl
          have HGR := Lib.hid hgr
          have hne1 : b1 ≠ g := hb1.ne HRa.out (by decide)
          have hb2 := hb1.kept hgr (by simp; exact hne1)
          have d2 : w2.cell? ⟨b1, 0, none⟩ = some (.pointer q1) := hb2.cell 0
          have HC2 : Hid (Chain w2 B q1 r) := hr.keep fun b' cs hk => hk.kept hgr (by have := hk.ne HRa.out (by decide); simp; exact this)
          have hknle : (k : Int) ≤ (n : Int) := by omega
          have hknle2 : k ≤ n := by omega
          clear ht hk hmm e3 hs1 hr he2 hb1 hgr hbl hb2
          go_wp2
          go_region
          go_wp2
          go_roundg r.length
          case measure => simp at hgk2; omega
          case rel =>
            refine ⟨m1 ++ [s], r, q1, by rw [HE2.out, List.append_assoc]; rfl, rfl, by rw [← HK.out], Nat.le_refl _, HC2.out, ?_, ?_⟩
            · have e1 := HBL.out
              have e2 : (List.replicate t (Value.int .u8 0) ++ bv (flat m1)).take k = List.replicate k (Value.int .u8 0) := by
                rw [List.take_append_of_le_length (by simp; omega), List.take_replicate, Nat.min_eq_left (by omega)]
              have e4 : (List.replicate t (Value.int .u8 0) ++ bv (flat m1)).drop (k + s.length) = bv (flat m1) := by
                rw [← HMM.out, List.drop_append_of_le_length (by simp; omega), List.drop_replicate, show t - (k + m) = 0 by omega]
                rfl
              rw [e2, e4] at e1
              rw [flat_append, bv_append, ← HK.out]
              show Blk _ _ _ _
              simpa [flat, List.append_assoc] using e1
            · exact Below.of_grown HWa.out HGR.out (Nat.le_trans HBS.out HWa.out.size) (Nat.le_refl _)
    | cons s r =>
      obtain ⟨b1, q1, rfl, hB1, hs1, hb1, hr⟩ := HC2.out
      have e := HW.out
      subst e
      have d0 : wr.cell? ⟨b1, 0, none⟩ = some (.pointer q1) := hb1.cell 0
      have d1 : wr.cell? ⟨b1, 1, none⟩ = some (.string (st s)) := hb1.cell 1
      have hsz := st_size s
      have HR := Lib.hid hr
      have HE := Lib.hid he
      have hbound : (flat l1).length + s.length ≤ 1000000000 := by
        have h1 := HM.out
        rw [he, flat_length_append] at h1
        simp [flat] at h1
        omega
      clear hb1 hr he
      go_wp2
      go_roundg r.length
      case measure => simp at hgk; omega
      case rel => exact ⟨l1 ++ [s], r, q1, by rw [HE.out, List.append_assoc]; rfl, rfl, by rw [flat_length_append]; simp [flat], Nat.le_refl _, HR.out, rfl⟩
end Go.Proofs.Ytbpklikmldpeiaa
