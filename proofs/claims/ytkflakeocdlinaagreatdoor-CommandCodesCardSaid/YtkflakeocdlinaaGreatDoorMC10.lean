/-
  Contracts of octet.Writer: put, refuse, Int, Text.
-/
import Derived.Test.YtkflakeocdlinaaGreatDoorMC09
import Derived.Test.YtkflakeocdlinaaGreatDoorMC01
import Derived.Lib.BufferWrite
import Derived.BigRegion
namespace Go.Proofs.YtkflakeocdlinaaGreatDoor
open Go.RowKit

/-- the pieces from here on, the newest first -/
def Chain (w : World) (B : Nat) : Option Addr → List (List UInt8) → Prop
  | p, [] => p = none
  | p, s :: r => ∃ b q, p = some ⟨b, 0, none⟩ ∧ B ≤ b ∧ s ≠ [] ∧ Blk w b 92 #[.pointer q, .string (st s)] ∧ Chain w B q r

theorem Chain.keep {w w' : World} {B : Nat} (h : ∀ b cs, Blk w b 92 cs → Blk w' b 92 cs) : ∀ {p : Option Addr} {l : List (List UInt8)}, Chain w B p l → Chain w' B p l
  | _, [], hc => hc
  | _, _ :: _, ⟨b, q, e, hB, hs, hb, hr⟩ => ⟨b, q, e, hB, hs, h _ _ hb, Chain.keep h hr⟩

/-- a Writer, with the pieces that were put; none: a text was too long -/
def WAt (w : World) (B b : Nat) : Option (List (List UInt8)) → Prop
  | none => B ≤ b ∧ Blk w b 52 #[.pointer none, .bool true]
  | some l => B ≤ b ∧ ∃ p, Blk w b 52 #[.pointer p, .bool false] ∧ Chain w B p l

theorem WAt.keep {w w' : World} {B b : Nat} {o : Option (List (List UInt8))} (h : WAt w B b o) (hg : Below w.heap.size w w') : WAt w' B b o := by
  cases o with
  | none => exact ⟨h.1, h.2.since hg⟩
  | some l =>
    obtain ⟨hB, p, hb, hc⟩ := h
    exact ⟨hB, p, hb.since hg, hc.keep fun _ _ hk => hk.since hg⟩

theorem WAt.base {w : World} {B b : Nat} {o : Option (List (List UInt8))} (h : WAt w B b o) : B ≤ b ∧ b < w.heap.size := by
  cases o with
  | none => exact ⟨h.1, h.2.lt⟩
  | some l => obtain ⟨hB, p, hb, hc⟩ := h; exact ⟨hB, hb.lt⟩

theorem put_nil (s : List UInt8) (w : World) :
    Calls Tryz.prog 52 #[.pointer none, .string (st s)] w fun e w' => e = .returned (.pointer none) ∧ w = w' := by
  go_enter Tryz.func52, Tryz.ntmps52
  go_wp2
  go_ret
  exact ⟨rfl, rfl⟩

theorem put_any (b B : Nat) (o : Option (List (List UInt8))) (s : List UInt8) (w : World) (h : WAt w B b o) (hBs : B ≤ w.heap.size) (hne : s ≠ []) :
    Calls Tryz.prog 52 #[.pointer (some ⟨b, 0, none⟩), .string (st s)] w fun e w' => e = .returned (.pointer (some ⟨b, 0, none⟩)) ∧ w.grownBy w' (some b) ∧ WAt w' B b (o.map (s :: ·)) := by
  cases o with
  | none =>
    obtain ⟨hB, hb⟩ := h
    have c1 : w.cell? ⟨b, 1, none⟩ = some (.bool true) := hb.cell 1
    have HB := Lib.hid hb
    clear hb
    go_enter Tryz.func52, Tryz.ntmps52
    go_wp2
    go_ret
    exact ⟨rfl, World.grownBy.refl _ _, hB, HB.out⟩
  | some l =>
    obtain ⟨hB, p, hb, hc⟩ := h
    have c0 : w.cell? ⟨b, 0, none⟩ = some (.pointer p) := hb.cell 0
    have c1 : w.cell? ⟨b, 1, none⟩ = some (.bool false) := hb.cell 1
    have hb1 := hb.alloc (.cells #[.pointer p, .string (st s)] 92)
    have d0 : (w.alloc (.cells #[.pointer p, .string (st s)] 92)).cell? ⟨b, 0, none⟩ = some (.pointer p) := hb1.cell 0
    have f0 : (w.alloc (.cells #[.pointer p, .string (st s)] 92)).frozen? ⟨b, 0, none⟩ = false := hb1.frozen 0
    have HB := Lib.hid hb1
    have HC := Lib.hid hc
    have HL : Hid (b < w.heap.size) := hb.lt
    have HS : Hid (B ≤ w.heap.size) := hBs
    have HNE : Hid (s ≠ []) := hne
    clear hb hc hb1 hne
    go_enter Tryz.func52, Tryz.ntmps52
    go_wp2
    go_ret
    have hlt := HL.out
    refine ⟨rfl, Go.Lib.grownBy_setB (Go.Lib.grownBy_allocR (World.grownBy.refl _ _) _) _ _, hB, some ⟨w.heap.size, 0, none⟩, HB.out.set 0 _, w.heap.size, p, rfl, HS.out, HNE.out, ?_, ?_⟩
    · exact (Blk.new w _ _).other (by show w.heap.size ≠ b; omega) _
    · refine HC.out.keep fun b' cs hk => ?_
      exact (hk.alloc _).other ((hk.alloc _).ne HB.out (by decide)) _

theorem low8_ne (x : Nat) : lowL 8 x ≠ [] := by simp [lowL]

/-- a number's word -/
def wd (z : Int) : Nat := (z % 18446744073709551616).toNat

theorem wInt_any (b B : Nat) (o : Option (List (List UInt8))) (z : Int) (w : World) (h : WAt w B b o) (hBs : B ≤ w.heap.size) :
    Calls Tryz.prog 25 #[.pointer (some ⟨b, 0, none⟩), .int .i64 z] w fun e w' => e = .returned (.pointer (some ⟨b, 0, none⟩)) ∧ w.grownBy w' (some b) ∧ WAt w' B b (o.map (lowL 8 (wd z) :: ·)) := by
  have H1 := Lib.hid (lowF_any (wd z) 8 w (by decide))
  have hz : (wd z : Int) = z % 18446744073709551616 := by unfold wd; omega
  have HA := Lib.hid h
  have HS : Hid (B ≤ w.heap.size) := hBs
  rw [hz] at H1
  clear h hz
  go_enter Tryz.func25, Tryz.ntmps25
  go_wp2_with fail
  refine H1.out.mono ?_
  rintro e w1 ⟨rfl, hb⟩
  have HA1 := Lib.hid (HA.out.keep hb)
  have HG := Lib.hid (grown_since (b := b) hb)
  have H2 := Lib.hid (put_any b B o (lowL 8 (wd z)) w1 HA1.out (Nat.le_trans HS.out hb.size) (low8_ne _))
  clear hb
  go_wp2_with fail
  refine H2.out.mono ?_
  rintro e w2 ⟨rfl, hg, ha⟩
  have HG2 := Lib.hid hg
  have HA2 := Lib.hid ha
  clear hg ha
  go_wp2
  go_ret
  exact ⟨rfl, Go.Lib.grownBy_trans HG.out HG2.out, HA2.out⟩

theorem wInt_nil (z : Int) (w : World) :
    Calls Tryz.prog 25 #[.pointer none, .int .i64 z] w fun e w' => e = .returned (.pointer none) ∧ Below w.heap.size w w' := by
  have H1 := Lib.hid (lowF_any (wd z) 8 w (by decide))
  have hz : (wd z : Int) = z % 18446744073709551616 := by unfold wd; omega
  rw [hz] at H1
  clear hz
  go_enter Tryz.func25, Tryz.ntmps25
  go_wp2_with fail
  refine H1.out.mono ?_
  rintro e w1 ⟨rfl, hb⟩
  have HG := Lib.hid hb
  have H2 := Lib.hid (put_nil (lowL 8 (wd z)) w1)
  clear hb
  go_wp2_with fail
  refine H2.out.mono ?_
  rintro e w2 ⟨rfl, rfl⟩
  go_wp2
  go_ret
  exact ⟨rfl, HG.out⟩

end Go.Proofs.YtkflakeocdlinaaGreatDoor
/-
  Contract of octet.Writer.Bytes.
-/
namespace Go.Proofs.YtkflakeocdlinaaGreatDoor
open Go.RowKit

/-- all bytes of pieces, the newest piece first -/
def flat : List (List UInt8) → List UInt8
  | [] => []
  | s :: r => flat r ++ s

theorem flat_length_append (a b : List (List UInt8)) : (flat (a ++ b)).length = (flat a).length + (flat b).length := by
  induction a with
  | nil => simp [flat]
  | cons x r ih => simp [flat, ih]; omega

theorem flat_append (a b : List (List UInt8)) : flat (a ++ b) = flat b ++ flat a := by
  induction a with
  | nil => simp [flat]
  | cons x r ih => simp [flat, ih, List.append_assoc]

theorem own_blk {w : World} {base g n : Nat} {e : TypeId} {xs : List Value} (h : w.ownsRow base e 1 (.slice (some ⟨g, 0, none⟩) n n) n xs) : Blk w g e xs.toArray := by
  rcases h.2 with ⟨hv, _⟩ | ⟨g', cap, cur, hv, _, hg, _, _, hs, ht⟩
  · cases hv
  · injection hv with h1 _ h3
    injection h1 with h1
    injection h1 with h1
    subst h1
    subst h3
    have e1 : cur.toList = xs := by rw [← ht, List.take_of_length_le (by simp; omega)]
    have e2 : cur = xs.toArray := by rw [← e1]
    rw [← e2]
    exact hg

theorem copy_blk {w : World} {g n k m : Nat} {xs : List Value} {s : List UInt8} (h : Blk w g 5 xs.toArray) (hk : k + s.length ≤ xs.length) (hn : s.length ≤ n) (hm : m = s.length) :
    ∃ w2, (Builtin.copy_ #[93, 9] 3 #[.slice (some ⟨g, k, none⟩) n n, .string (st s)]).run Tryz.prog w.drew = .ok (.int .i64 (m : Nat)) w2 ∧ Blk w2 g 5 (xs.take k ++ bv s ++ xs.drop (k + s.length)).toArray ∧ w.grownBy w2 (some g) := by
  have hr := Go.Lib.run_copy_row_string (P := Tryz.prog) w.drew 93 9 3 5 g k n n (st s) xs.toArray 5 Tryz.underlying93 (by obtain ⟨i0, hi, hz0, hz1, hz2⟩ := info_parts infoU8; rw [hi]; simp [hz1]) h (by rw [st_size]; exact hn) (by rw [st_size]; simpa using hk)
  rw [st_size, st_toList, ← hm] at hr
  refine ⟨_, hr, ?_, ?_⟩
  · have := setRow_heap w.drew g _ (xs.take k ++ bv s ++ xs.drop (k + m)).toArray 5 (0, 0) h
    rw [← hm]
    exact this
  · exact ⟨rfl, rfl, rfl, by rw [setRow_size]; exact Nat.le_refl _, fun j _ hj => setRow_other w.drew g j _ (fun e => hj (by rw [e]))⟩

theorem bytes_nil (w : World) :
    Calls Tryz.prog 26 #[.pointer none] w fun e w' => e = .returned (.tuple #[.string (st []), .int .i64 1]) ∧ w = w' := by
  go_enter Tryz.func26, Tryz.ntmps26
  go_wp2
  go_ret2
  exact ⟨rfl, rfl⟩

theorem bytes_long (B b : Nat) (w : World) (h : WAt w B b none) :
    Calls Tryz.prog 26 #[.pointer (some ⟨b, 0, none⟩)] w fun e w' => e = .returned (.tuple #[.string (st []), .int .i64 1]) ∧ w = w' := by
  obtain ⟨hB, hb⟩ := h
  have c1 : w.cell? ⟨b, 1, none⟩ = some (.bool true) := hb.cell 1
  clear hb
  go_enter Tryz.func26, Tryz.ntmps26
  go_wp2
  go_ret2
  exact ⟨rfl, rfl⟩

theorem chain_split {w : World} {B : Nat} {p : Option Addr} {s : List UInt8} {r : List (List UInt8)} (h : Chain w B p (s :: r)) :
    ∃ b q, p = some ⟨b, 0, none⟩ ∧ B ≤ b ∧ s ≠ [] ∧ Blk w b 92 #[.pointer q, .string (st s)] ∧ Chain w B q r := h

set_option maxHeartbeats 1000000 in
theorem bytes_any (B b : Nat) (ps : List (List UInt8)) (w : World) (h : WAt w B b (some ps)) (hm : (flat ps).length ≤ 1000000000) :
    Calls Tryz.prog 26 #[.pointer (some ⟨b, 0, none⟩)] w fun e w' => e = .returned (.tuple #[.string (st (flat ps)), .int .i64 0]) ∧ Below w.heap.size w w' := by
  obtain ⟨hB, p, hb, hc⟩ := h
  have c0 : w.cell? ⟨b, 0, none⟩ = some (.pointer p) := hb.cell 0
  have c1 : w.cell? ⟨b, 1, none⟩ = some (.bool false) := hb.cell 1
  have HB := Lib.hid hb
  have HC := Lib.hid hc
  have HM := Lib.hid hm
  clear hb hc hm
  go_enter Tryz.func26, Tryz.ntmps26
  go_wp2
  go_loopg [4, 5] ps.length (fun gk z q wr => ∃ l1 l2 a, ps = l1 ++ l2 ∧ q = .pointer a ∧ z = .int .i64 ((flat l1).length : Nat) ∧ l2.length ≤ gk ∧ Hid (Chain w B a l2) ∧ Hid (wr = w))
  case atStart => exact ⟨[], ps, p, rfl, rfl, rfl, Nat.le_refl _, HC.out, rfl⟩
  case round =>
    obtain ⟨l1, l2, a, he, rfl, rfl, hgk, HC2, HW⟩ := hrel
    cases l2 with
    | nil =>
      have ha : a = none := HC2.out
      subst ha
      have e := HW.out.symm
      subst e
      have HE := Lib.hid he
      have h0 : l1 = ps := by rw [he, List.append_nil]
      clear he
      subst h0
      obtain ⟨n, hn⟩ : ∃ n, n = (flat l1).length := ⟨_, rfl⟩
      have hm := HM.out
      rw [← hn] at hm ⊢
      have HN := Lib.hid hn
      obtain ⟨i0, hi, hz0, hz1, hz2⟩ := info_parts infoU8
      obtain ⟨w1, hmk, hown, hgr⟩ := run_make_full (P := Tryz.prog) w w.heap.size 93 5 i0 (.int .u8 0) 1 Tryz.underlying93 hi hz0 hz1 .i64 .i64 n (by rw [hz2]; omega) (by unfold maxLen; omega) (Nat.le_refl _)
      have e0 : (madeCells (Value.int .u8 0).cells (n * 1)).toList = List.replicate n (.int .u8 0) := by
        rw [Nat.mul_one]
        exact (toList_madeCells_one (.int .u8 0) n).trans (by simp)
      rw [e0] at hown
      obtain ⟨g, hg⟩ : ∃ g, g = w.heap.size := ⟨_, rfl⟩
      have HB1 := Lib.hid (below_of_grown hgr (Nat.le_refl _) (fun k hk => by cases hk))
      have HC1 := Lib.hid (HC.out.keep fun b' cs hk => hk.since HB1.out)
      have HBW := Lib.hid (HB.out.since HB1.out)
      have c2 : w1.cell? ⟨b, 0, none⟩ = some (.pointer p) := HBW.out.cell 0
      have c3 : w1.cell? ⟨b, 1, none⟩ = some (.bool false) := HBW.out.cell 1
      rw [← hg] at hmk hown HB1
      have HG := Lib.hid hg
      have HO := Lib.hid hown
      have HBS : Hid (g ≤ w.heap.size) := by show g ≤ _; omega
      clear e0 hown hgr hi hz0 hz1 hz2 hg hn
      go_wp2
      clear hmk
      go_loopg [4, 7] l1.length (fun gk z q wq => ∃ m1 m2 a, l1 = m1 ++ m2 ∧ q = .pointer a ∧ z = .int .i64 ((flat m2).length : Nat) ∧ m2.length ≤ gk ∧ Hid (Chain wq B a m2) ∧ Hid (Blk wq g 5 (List.replicate (flat m2).length (Value.int .u8 0) ++ bv (flat m1)).toArray) ∧ Hid (Below g w wq))
      case atStart => exact ⟨[], l1, p, rfl, rfl, by rw [← HN.out], Nat.le_refl _, HC1.out, by have := own_blk HO.out; rw [← HN.out]; show Blk _ _ _ _; simpa [flat, bv] using this, HB1.out⟩
      case round =>
        obtain ⟨m1, m2, a, he2, rfl, rfl, hgk2, HCa, HRa, HWa⟩ := hrel
        cases m2 with
        | nil =>
          have ha : a = none := HCa.out
          subst ha
          have h0 : l1 = m1 := by rw [he2, List.append_nil]
          subst h0
          have hown : ∀ j (hj : j < (flat l1).length), wr.cell? ((⟨g, 0, none⟩ : Addr).add j) = some (.int .u8 ((flat l1)[j].toNat : Int)) := by
            intro j hj
            have h1 := HRa.out.cell j
            have e2 : (⟨g, 0, none⟩ : Addr).add j = ⟨g, j, none⟩ := by
              unfold Addr.add
              by_cases e0 : j = 0
              · subst e0; rfl
              · simp [e0]
            rw [e2, h1]
            simp [flat, bv, hj]
          have hcv := run_convert_bytes_back (P := Tryz.prog) wr 93 9 5 ⟨g, 0, none⟩ n (flat l1) Tryz.underlying93 Tryz.underlying5 Tryz.underlying9 hown
          rw [← HN.out] at hcv
          have HB2 := Lib.hid (show Below w.heap.size w wr by rw [← HG.out]; exact HWa.out)
          clear hown he2
          go_wp2
          go_ret2
          exact ⟨rfl, HB2.out⟩
        | cons s r =>
          obtain ⟨b1, q1, rfl, hB1, hs1, hb1, hr⟩ := HCa.out
          have d0 : wr.cell? ⟨b1, 0, none⟩ = some (.pointer q1) := hb1.cell 0
          have d1 : wr.cell? ⟨b1, 1, none⟩ = some (.string (st s)) := hb1.cell 1
          have hsz := st_size s
          have hm0 : 0 < s.length := List.length_pos_iff.mpr hs1
          have hle : (flat r).length + s.length ≤ n := by
            have h1 := HN.out
            rw [he2, flat_length_append] at h1
            simp [flat] at h1
            omega
          have e3 : (flat (s :: r)).length = (flat r).length + s.length := by simp [flat]
          have HE3 := Lib.hid e3
          obtain ⟨t, ht⟩ : ∃ t, t = (flat (s :: r)).length := ⟨_, rfl⟩
          obtain ⟨k, hk⟩ : ∃ k, k = (flat r).length := ⟨_, rfl⟩
          obtain ⟨m, hmm⟩ : ∃ m, m = s.length := ⟨_, rfl⟩
          rw [← ht] at HRa HE3 ⊢
          rw [← hk] at hle HE3
          rw [← hmm] at hsz hm0 hle HE3
          have HT := Lib.hid ht
          have HK := Lib.hid hk
          have HMM := Lib.hid hmm
          have hx : (t : Int) - (m : Int) = (k : Int) := by have := HE3.out; omega
          have hkn : ¬ (n = k) := by omega
          have hR := Lib.hid hr
          have HE2 := Lib.hid he2
          have HB1 := Lib.hid hb1
          obtain ⟨w2, hcp, hbl, hgr⟩ := copy_blk (g := g) (n := n - k) (k := k) (m := m) (s := s) HRa.out (by simp; omega) (by omega) hmm
          have HBL := Lib.hid hbl
          have HGR := Lib.hid hgr
          have hne1 : b1 ≠ g := hb1.ne HRa.out (by decide)
          have hb2 := hb1.kept hgr (by simp; exact hne1)
          have d2 : w2.cell? ⟨b1, 0, none⟩ = some (.pointer q1) := hb2.cell 0
          have HC2 : Hid (Chain w2 B q1 r) := hr.keep fun b' cs hk => hk.kept hgr (by have := hk.ne HRa.out (by decide); simp; exact this)
          have hknle : (k : Int) ≤ (n : Int) := by omega
          have hknle2 : k ≤ n := by omega
          clear ht hk hmm e3 hs1 hr he2 hb1 hgr hbl hb2
          go_wp2
          go_region
          go_wp2
          go_roundg r.length
          case measure => simp at hgk2; omega
          case rel =>
            refine ⟨m1 ++ [s], r, q1, by rw [HE2.out, List.append_assoc]; rfl, rfl, by rw [← HK.out], Nat.le_refl _, HC2.out, ?_, ?_⟩
            · have e1 := HBL.out
              have e2 : (List.replicate t (Value.int .u8 0) ++ bv (flat m1)).take k = List.replicate k (Value.int .u8 0) := by
                rw [List.take_append_of_le_length (by simp; omega), List.take_replicate, Nat.min_eq_left (by omega)]
              have e4 : (List.replicate t (Value.int .u8 0) ++ bv (flat m1)).drop (k + s.length) = bv (flat m1) := by
                rw [← HMM.out, List.drop_append_of_le_length (by simp; omega), List.drop_replicate, show t - (k + m) = 0 by omega]
                rfl
              rw [e2, e4] at e1
              rw [flat_append, bv_append, ← HK.out]
              show Blk _ _ _ _
              simpa [flat, List.append_assoc] using e1
            · exact Below.of_grown HWa.out HGR.out (Nat.le_trans HBS.out HWa.out.size) (Nat.le_refl _)
    | cons s r =>
      obtain ⟨b1, q1, rfl, hB1, hs1, hb1, hr⟩ := HC2.out
      have e := HW.out
      subst e
      have d0 : wr.cell? ⟨b1, 0, none⟩ = some (.pointer q1) := hb1.cell 0
      have d1 : wr.cell? ⟨b1, 1, none⟩ = some (.string (st s)) := hb1.cell 1
      have hsz := st_size s
      have HR := Lib.hid hr
      have HE := Lib.hid he
      have hbound : (flat l1).length + s.length ≤ 1000000000 := by
        have h1 := HM.out
        rw [he, flat_length_append] at h1
        simp [flat] at h1
        omega
      clear hb1 hr he
      go_wp2
      go_roundg r.length
      case measure => simp at hgk; omega
      case rel => exact ⟨l1 ++ [s], r, q1, by rw [HE.out, List.append_assoc]; rfl, rfl, by rw [flat_length_append]; simp [flat], Nat.le_refl _, HR.out, rfl⟩
end Go.Proofs.YtkflakeocdlinaaGreatDoor
/-
  Contract of octet.Writer.Text.
-/
namespace Go.Proofs.YtkflakeocdlinaaGreatDoor
open Go.RowKit

theorem refuse_any (b B : Nat) (o : Option (List (List UInt8))) (w : World) (h : WAt w B b o) :
    Calls Tryz.prog 51 #[.pointer (some ⟨b, 0, none⟩)] w fun e w' => e = .returned (.pointer (some ⟨b, 0, none⟩)) ∧ w.grownBy w' (some b) ∧ WAt w' B b none := by
  obtain ⟨hB, x, y, hb⟩ : B ≤ b ∧ ∃ x y, Blk w b 52 #[.pointer x, .bool y] := by
    cases o with
    | none => exact ⟨h.1, none, true, h.2⟩
    | some l => obtain ⟨hB, p, hb, _⟩ := h; exact ⟨hB, p, false, hb⟩
  have c0 : w.cell? ⟨b, 0, none⟩ = some (.pointer x) := hb.cell 0
  have c1 : w.cell? ⟨b, 1, none⟩ = some (.bool y) := hb.cell 1
  have f0 : w.frozen? ⟨b, 0, none⟩ = false := hb.frozen 0
  have f1 : w.frozen? ⟨b, 1, none⟩ = false := hb.frozen 1
  have d0 : (w.setCell ⟨b, 0, none⟩ (.pointer none)).cell? ⟨b, 1, none⟩ = some (.bool y) := (hb.set 0 _).cell 1
  have d1 : (w.setCell ⟨b, 0, none⟩ (.pointer none)).frozen? ⟨b, 1, none⟩ = false := (hb.set 0 _).frozen 1
  have HB := Lib.hid hb
  clear hb h
  go_enter Tryz.func51, Tryz.ntmps51
  go_wp2
  go_ret
  exact ⟨rfl, Go.Lib.grownBy_setB (Go.Lib.grownBy_setB (World.grownBy.refl _ _) _ _) _ _, hB, (HB.out.set 0 _).set 1 _⟩

theorem refuse_nil (w : World) :
    Calls Tryz.prog 51 #[.pointer none] w fun e w' => e = .returned (.pointer none) ∧ w = w' := by
  go_enter Tryz.func51, Tryz.ntmps51
  go_wp2
  go_ret
  exact ⟨rfl, rfl⟩

/-- what a text puts -/
def txt (s : List UInt8) : List UInt8 := lowL 2 s.length ++ s

theorem txt_ne (s : List UInt8) : txt s ≠ [] := by simp [txt, lowL]
theorem wText_any (b B : Nat) (o : Option (List (List UInt8))) (s : List UInt8) (w : World) (h : WAt w B b o) (hBs : B ≤ w.heap.size) :
    Calls Tryz.prog 24 #[.pointer (some ⟨b, 0, none⟩), .string (st s)] w fun e w' => e = .returned (.pointer (some ⟨b, 0, none⟩)) ∧ w.grownBy w' (some b) ∧ WAt w' B b (if s.length > 65535 then none else o.map (txt s :: ·)) := by
  have hsz := st_size s
  by_cases hl : s.length > 65535
  · rw [if_pos hl]
    have t1 : decide ((65535 : Int) < (s.length : Int)) = true := decide_eq_true (by omega)
    have H1 := Lib.hid (refuse_any b B o w h)
    clear h
    go_enter Tryz.func24, Tryz.ntmps24
    go_wp2_with fail
    refine H1.out.mono ?_
    rintro e w1 ⟨rfl, hg, ha⟩
    have HG := Lib.hid hg
    have HA := Lib.hid ha
    clear hg ha
    go_wp2
    go_ret
    exact ⟨rfl, HG.out, HA.out⟩
  · rw [if_neg hl]
    have t1 : decide ((65535 : Int) < (s.length : Int)) = false := decide_eq_false (by omega)
    have H1 := Lib.hid (lowF_any s.length 2 w (by decide))
    have HA := Lib.hid h
    have HS : Hid (B ≤ w.heap.size) := hBs
    have hw : IntKind.u64.wrap (s.length : Int) = (s.length : Int) := u64_wrap _ (by omega) (by omega)
    have HL : Hid (¬ s.length > 65535) := hl
    have hsz2 : (st (lowL 2 s.length)).size = 2 := by rw [st_size, lowL_length]
    have hm : (s.length : Int) % 18446744073709551616 = (s.length : Int) := Int.emod_eq_of_lt (by omega) (by omega)
    clear h hl
    go_enter Tryz.func24, Tryz.ntmps24
    go_wp2_with fail
    refine H1.out.mono ?_
    rintro e w1 ⟨rfl, hb⟩
    have HA1 := Lib.hid (HA.out.keep hb)
    have HG := Lib.hid (grown_since (b := b) hb)
    have H2 := Lib.hid (put_any b B o (txt s) w1 HA1.out (Nat.le_trans HS.out hb.size) (txt_ne _))
    have e1 : st (lowL 2 s.length) ++ st s = st (txt s) := st_append _ _
    have hs3 : (st (lowL 2 s.length)).size + (st s).size ≤ 1000000 := by have := HL.out; omega
    clear hb
    go_wp2_with fail
    refine H2.out.mono ?_
    rintro e w2 ⟨rfl, hg, ha⟩
    have HG2 := Lib.hid hg
    have HA2 := Lib.hid ha
    clear hg ha
    go_wp2
    go_ret
    exact ⟨rfl, Go.Lib.grownBy_trans HG.out HG2.out, HA2.out⟩

theorem wText_nil (s : List UInt8) (w : World) (hl : s.length ≤ 65535) :
    Calls Tryz.prog 24 #[.pointer none, .string (st s)] w fun e w' => e = .returned (.pointer none) ∧ Below w.heap.size w w' := by
  have hsz := st_size s
  have t1 : decide ((65535 : Int) < (s.length : Int)) = false := decide_eq_false (by omega)
  have H1 := Lib.hid (lowF_any s.length 2 w (by decide))
  have hm : (s.length : Int) % 18446744073709551616 = (s.length : Int) := Int.emod_eq_of_lt (by omega) (by omega)
  have hw : IntKind.u64.wrap (s.length : Int) = (s.length : Int) := u64_wrap _ (by omega) (by omega)
  have e1 : st (lowL 2 s.length) ++ st s = st (txt s) := st_append _ _
  have hs3 : (st (lowL 2 s.length)).size + (st s).size ≤ 1000000 := by rw [st_size, st_size, lowL_length]; omega
  go_enter Tryz.func24, Tryz.ntmps24
  go_wp2_with fail
  refine H1.out.mono ?_
  rintro e w1 ⟨rfl, hb⟩
  have HG := Lib.hid hb
  have H2 := Lib.hid (put_nil (txt s) w1)
  clear hb
  go_wp2_with fail
  refine H2.out.mono ?_
  rintro e w2 ⟨rfl, rfl⟩
  go_wp2
  go_ret
  exact ⟨rfl, HG.out⟩
end Go.Proofs.YtkflakeocdlinaaGreatDoor
/-
  Contracts of octet.Reader: Read, take, Int, Text, End.
-/
namespace Go.Proofs.YtkflakeocdlinaaGreatDoor
open Go.RowKit

theorem st_take (l : List UInt8) (n : Nat) : (st l).extract 0 n = st (l.take n) := by rw [st_extract]; simp
theorem st_dropN (l : List UInt8) (n : Nat) : (st l).extract n (st l).size = st (l.drop n) := by
  rw [st_extract, st_size]
  congr 1
  exact List.take_of_length_le (by simp)

/-- a Reader: what is left, and whether there were too few bytes once -/
def RAt (w : World) (b : Nat) (l : List UInt8) (c : Bool) : Prop := Blk w b 111 #[.string (st l), .bool c]

theorem read_any (s : ByteArray) (w : World) :
    Calls Tryz.prog 34 #[.string s] w fun e w' => e = .returned (.pointer (some ⟨w.heap.size, 0, none⟩)) ∧ Below w.heap.size w w' ∧ RAt w' w.heap.size s.data.toList false := by
  have hs := of_data s
  obtain ⟨l, hl⟩ : ∃ l, l = s.data.toList := ⟨_, rfl⟩
  rw [← hl] at hs ⊢
  subst hs
  clear hl
  go_enter Tryz.func34, Tryz.ntmps34
  go_wp2
  go_ret
  exact ⟨rfl, (Below.refl _ _).alloc (Nat.le_refl _) _, Blk.new w _ _⟩

/-- what taking n bytes answers, and leaves -/
def tk (n : Nat) (l : List UInt8) : List UInt8 := if l.length < n then [] else l.take n
def lf (n : Nat) (l : List UInt8) : List UInt8 := if l.length < n then [] else l.drop n

theorem take_nil (n : Nat) (w : World) : Calls Tryz.prog 62 #[.pointer none, .int .i64 n] w fun e w' => e = .returned (.string (st [])) ∧ w = w' := by
  go_enter Tryz.func62, Tryz.ntmps62
  go_wp2
  go_ret
  exact ⟨rfl, rfl⟩

theorem take_any (b n : Nat) (l : List UInt8) (c : Bool) (w : World) (h : RAt w b l c) :
    Calls Tryz.prog 62 #[.pointer (some ⟨b, 0, none⟩), .int .i64 n] w fun e w' => e = .returned (.string (st (tk n l))) ∧ w.grownBy w' (some b) ∧ RAt w' b (lf n l) (c || decide (l.length < n)) := by
  have c0 : w.cell? ⟨b, 0, none⟩ = some (.string (st l)) := h.cell 0
  have c1 : w.cell? ⟨b, 1, none⟩ = some (.bool c) := h.cell 1
  have f0 : w.frozen? ⟨b, 0, none⟩ = false := h.frozen 0
  have f1 : w.frozen? ⟨b, 1, none⟩ = false := h.frozen 1
  have HB := Lib.hid h
  have hsz := st_size l
  by_cases hlt : l.length < n
  · have d0 : (w.setCell ⟨b, 0, none⟩ (.string (st []))).cell? ⟨b, 1, none⟩ = some (.bool c) := (h.set 0 _).cell 1
    have d1 : (w.setCell ⟨b, 0, none⟩ (.string (st []))).frozen? ⟨b, 1, none⟩ = false := (h.set 0 _).frozen 1
    have HE : Hid (tk n l = [] ∧ lf n l = [] ∧ (c || decide (l.length < n)) = true) := by
      refine ⟨if_pos hlt, if_pos hlt, ?_⟩
      rw [decide_eq_true hlt]; simp
    have he0 : (⟨#[]⟩ : ByteArray) = st [] := rfl
    clear h
    go_enter Tryz.func62, Tryz.ntmps62
    go_wp2
    go_ret
    obtain ⟨e1, e2, e3⟩ := HE.out
    rw [e1, e2, e3]
    exact ⟨rfl, Go.Lib.grownBy_setB (Go.Lib.grownBy_setB (World.grownBy.refl _ _) _ _) _ _, (HB.out.set 0 _).set 1 _⟩
  · have e1 := st_take l n
    have e2 := st_dropN l n
    have hle : n ≤ l.length := by omega
    have hle2 : (n : Int) ≤ (l.length : Int) := by omega
    rw [hsz] at e2
    have HE : Hid (tk n l = l.take n ∧ lf n l = l.drop n ∧ (c || decide (l.length < n)) = c) := by
      refine ⟨if_neg hlt, if_neg hlt, ?_⟩
      rw [decide_eq_false hlt]; simp
    clear h
    go_enter Tryz.func62, Tryz.ntmps62
    go_wp2
    go_ret
    obtain ⟨e1, e2, e3⟩ := HE.out
    rw [e1, e2, e3]
    exact ⟨rfl, Go.Lib.grownBy_setB (World.grownBy.refl _ _) _ _, HB.out.set 0 _⟩

theorem clone_any (s : ByteArray) (w : World) (hs : s.size ≤ 281474976710656) : Calls Tryz.prog 38 #[.string s] w fun e w' => e = .returned (.string s) ∧ Below w.heap.size w w' := by
  have H := Lib.hid (Tryz.stringslite_Clone s w hs)
  clear hs
  go_enter Tryz.func38, Tryz.ntmps38
  go_wp2_with fail
  refine H.out.mono ?_
  rintro e w1 ⟨rfl, hb⟩
  have HB := Lib.hid hb
  clear hb
  go_wp2
  go_ret
  exact ⟨rfl, HB.out⟩

theorem RAt.keep {w w' : World} {b : Nat} {l : List UInt8} {c : Bool} (h : RAt w b l c) (hb : Below w.heap.size w w') : RAt w' b l c := Blk.since h hb

theorem tk_le (n : Nat) (l : List UInt8) : (tk n l).length ≤ n := by
  unfold tk; split
  · simp
  · simp; omega

/-- a word as a signed number -/
def sg (n : Nat) : Int := if n < 9223372036854775808 then n else (n : Int) - 18446744073709551616

theorem wrap_sg (x : Nat) (h : x < 18446744073709551616) : wrap64 (x : Int) = sg x := by
  unfold sg wrap64
  split <;> omega

theorem rInt_any (b : Nat) (l : List UInt8) (c : Bool) (w : World) (h : RAt w b l c) :
    Calls Tryz.prog 36 #[.pointer (some ⟨b, 0, none⟩)] w fun e w' => e = .returned (.int .i64 (sg (numL (tk 8 l)))) ∧ w.grownBy w' (some b) ∧ RAt w' b (lf 8 l) (c || decide (l.length < 8)) := by
  have H1 := Lib.hid (take_any b 8 l c w h)
  clear h
  go_enter Tryz.func36, Tryz.ntmps36
  go_wp2_with fail
  refine H1.out.mono ?_
  rintro e w1 ⟨rfl, hg, ha⟩
  have HG := Lib.hid hg
  have HA := Lib.hid ha
  have hn := numL_lt (tk 8 l)
  have hp : 256 ^ (tk 8 l).length ≤ 256 ^ 8 := Nat.pow_le_pow_right (by decide) (tk_le 8 l)
  rw [pow_256_8] at hp
  have H2 := Lib.hid (onum_any (tk 8 l) w1 (tk_le 8 l))
  obtain ⟨x, hx⟩ : ∃ x, x = numL (tk 8 l) := ⟨_, rfl⟩
  have HX := Lib.hid hx
  rw [← hx] at hn H2
  have HN : Hid (x < 18446744073709551616) := by show x < _; omega
  clear hg ha hn hp hx
  go_wp2_with fail
  refine H2.out.mono ?_
  rintro e w2 ⟨rfl, rfl⟩
  go_wp2
  go_ret
  rw [wrap_sg x HN.out, HX.out]
  exact ⟨rfl, HG.out, HA.out⟩

theorem onum_nil (w : World) : Calls Tryz.prog 61 #[.string (st [])] w fun e w' => e = .returned (.int .u64 0) ∧ w = w' := onum_any [] w (by decide)

theorem rInt_nil (w : World) : Calls Tryz.prog 36 #[.pointer none] w fun e w' => e = .returned (.int .i64 0) ∧ w = w' := by
  have H1 := Lib.hid (take_nil 8 w)
  have H2 := Lib.hid (onum_nil w)
  go_enter Tryz.func36, Tryz.ntmps36
  go_wp2_with fail
  refine H1.out.mono ?_
  rintro e w1 ⟨rfl, rfl⟩
  go_wp2_with fail
  refine H2.out.mono ?_
  rintro e w2 ⟨rfl, rfl⟩
  go_wp2
  go_ret
  exact ⟨rfl, rfl⟩

theorem rText_nil (w : World) : Calls Tryz.prog 35 #[.pointer none] w fun e w' => e = .returned (.string (st [])) ∧ Below w.heap.size w w' := by
  have H1 := Lib.hid (take_nil 2 w)
  have H2 := Lib.hid (onum_nil w)
  have H3 := Lib.hid (take_nil 0 w)
  have H4 := Lib.hid (clone_any (st []) w (by decide))
  go_enter Tryz.func35, Tryz.ntmps35
  go_wp2_with fail
  refine H1.out.mono ?_
  rintro e w1 ⟨rfl, rfl⟩
  go_wp2_with fail
  refine H2.out.mono ?_
  rintro e w2 ⟨rfl, rfl⟩
  go_wp2_with fail
  refine H3.out.mono ?_
  rintro e w3 ⟨rfl, rfl⟩
  go_wp2_with fail
  refine H4.out.mono ?_
  rintro e w4 ⟨rfl, hb⟩
  have HB := Lib.hid hb
  clear hb
  go_wp2
  go_ret
  exact ⟨rfl, HB.out⟩

/-- what a text's taking answers, leaves, and whether there were too few bytes -/
def tt (l : List UInt8) : List UInt8 := tk (numL (tk 2 l)) (lf 2 l)
def tl (l : List UInt8) : List UInt8 := lf (numL (tk 2 l)) (lf 2 l)
def tc (l : List UInt8) : Bool := decide (l.length < 2) || decide ((lf 2 l).length < numL (tk 2 l))

theorem num2_lt (l : List UInt8) : numL (tk 2 l) < 65536 := by
  have hn := numL_lt (tk 2 l)
  have hp : 256 ^ (tk 2 l).length ≤ 256 ^ 2 := Nat.pow_le_pow_right (by decide) (tk_le 2 l)
  rw [show 256 ^ 2 = 65536 from by decide] at hp
  omega

theorem rText_any (b : Nat) (l : List UInt8) (c : Bool) (w : World) (h : RAt w b l c) :
    Calls Tryz.prog 35 #[.pointer (some ⟨b, 0, none⟩)] w fun e w' => e = .returned (.string (st (tt l))) ∧ w.grownBy w' (some b) ∧ RAt w' b (tl l) (c || tc l) := by
  have H1 := Lib.hid (take_any b 2 l c w h)
  clear h
  go_enter Tryz.func35, Tryz.ntmps35
  go_wp2_with fail
  refine H1.out.mono ?_
  rintro e w1 ⟨rfl, hg, ha⟩
  have HG := Lib.hid hg
  have hx2 := num2_lt l
  have H2 := Lib.hid (onum_any (tk 2 l) w1 (Nat.le_trans (tk_le 2 l) (by decide)))
  obtain ⟨x, hx⟩ : ∃ x, x = numL (tk 2 l) := ⟨_, rfl⟩
  have HX := Lib.hid hx
  rw [← hx] at hx2 H2
  have H3 := Lib.hid (take_any b x (lf 2 l) (c || decide (l.length < 2)) w1 ha)
  clear hg ha hx
  go_wp2_with fail
  refine H2.out.mono ?_
  rintro e w2 ⟨rfl, rfl⟩
  go_wp2_with fail
  refine H3.out.mono ?_
  rintro e w3 ⟨rfl, hg3, ha3⟩
  have HG3 := Lib.hid hg3
  have HA3 := Lib.hid ha3
  have H4 := Lib.hid (clone_any (st (tk x (lf 2 l))) w3 (by rw [st_size]; have := tk_le x (lf 2 l); omega))
  clear hg3 ha3
  go_wp2_with fail
  refine H4.out.mono ?_
  rintro e w4 ⟨rfl, hb4⟩
  have HB4 := Lib.hid hb4
  clear hb4
  go_wp2
  go_ret
  have e1 : tk x (lf 2 l) = tt l := by rw [HX.out]; rfl
  have e2 : lf x (lf 2 l) = tl l := by rw [HX.out]; rfl
  have e3 : (c || decide (l.length < 2) || decide ((lf 2 l).length < x)) = (c || tc l) := by rw [HX.out, Bool.or_assoc]; rfl
  have h4 := HA3.out.keep HB4.out
  rw [e2, e3] at h4
  rw [e1]
  exact ⟨rfl, Go.Lib.grownBy_trans (Go.Lib.grownBy_trans HG.out HG3.out) (grown_since HB4.out), h4⟩
end Go.Proofs.YtkflakeocdlinaaGreatDoor
/-
  What the reader gives of what was put.
-/
namespace Go.Proofs.YtkflakeocdlinaaGreatDoor
open Go.RowKit

/-- what the reader gives of what was put -/
theorem get_text (s l : List UInt8) (h : s.length ≤ 65535) : tt (txt s ++ l) = s ∧ tl (txt s ++ l) = l ∧ tc (txt s ++ l) = false := by
  have hl2 : (lowL 2 s.length).length = 2 := lowL_length _ _
  have e1 : tk 2 (txt s ++ l) = lowL 2 s.length := by
    unfold tk txt
    rw [if_neg (by simp [hl2]), List.append_assoc, List.take_append_of_le_length (by omega), List.take_of_length_le (by omega)]
  have e2 : lf 2 (txt s ++ l) = s ++ l := by
    unfold lf txt
    rw [if_neg (by simp [hl2]), List.append_assoc, List.drop_append_of_le_length (by omega), List.drop_of_length_le (by omega)]
    rfl
  have e3 : numL (lowL 2 s.length) = s.length := numL_lowL 2 s.length (by have : (256 : Nat) ^ 2 = 65536 := by decide
                                                                          omega)
  unfold tt tl tc
  rw [e1, e2, e3]
  refine ⟨?_, ?_, ?_⟩
  · unfold tk; rw [if_neg (by simp)]; simp
  · unfold lf; rw [if_neg (by simp)]; simp
  · simp [txt, hl2]

theorem i64_of_wf {z : Int} (h : (Lit.int .i64 z).wf = true) : -9223372036854775808 ≤ z ∧ z ≤ 9223372036854775807 := by
  simp [Lit.wf, IntKind.min, IntKind.max, IntKind.signed, IntKind.bits] at h
  omega

theorem sg_wd (z : Int) (h : (Lit.int .i64 z).wf = true) : sg (wd z) = z := by
  have h1 := i64_of_wf h
  unfold sg wd
  split <;> omega

theorem get_num (z : Int) (l : List UInt8) (h : (Lit.int .i64 z).wf = true) : sg (numL (tk 8 (lowL 8 (wd z) ++ l))) = z ∧ lf 8 (lowL 8 (wd z) ++ l) = l ∧ decide ((lowL 8 (wd z) ++ l).length < 8) = false := by
  have hl : (lowL 8 (wd z)).length = 8 := lowL_length _ _
  have e1 : tk 8 (lowL 8 (wd z) ++ l) = lowL 8 (wd z) := by
    unfold tk
    rw [if_neg (by simp [hl]), List.take_append_of_le_length (by omega), List.take_of_length_le (by omega)]
  have e2 : lf 8 (lowL 8 (wd z) ++ l) = l := by
    unfold lf
    rw [if_neg (by simp [hl]), List.drop_append_of_le_length (by omega), List.drop_of_length_le (by omega)]
    rfl
  refine ⟨?_, e2, by simp [hl]⟩
  rw [e1, numL_lowL 8 _ (by rw [pow_256_8]; unfold wd; omega), sg_wd z h]
end Go.Proofs.YtkflakeocdlinaaGreatDoor
/-
  Items, rows of items, their bulk.
-/
namespace Go.Proofs.YtkflakeocdlinaaGreatDoor
open Go.RowKit

theorem st_ne (x : UInt8) (r : List UInt8) : (st (x :: r)).toList.isEmpty = false := by
  rw [Go.Lib.toList_data, st_toList]; rfl

/-- an item -/
structure Itm where
  t : Bool
  n : Int
  s : List UInt8

/-- a row of items, three cells each -/
def RowT (w : World) (a : Option Addr) (ls : List Itm) : Prop :=
  0 < ls.length → ∃ b off, a = some ⟨b, off, none⟩ ∧ ∀ i x, ls[i]? = some x → w.cell? ⟨b, off + i * 3, none⟩ = some (.bool x.t) ∧ w.cell? ⟨b, off + i * 3 + 1, none⟩ = some (.int .i64 x.n) ∧ w.cell? ⟨b, off + i * 3 + 2, none⟩ = some (.string (st x.s))

theorem RowT.keep {w w' : World} {a : Option Addr} {ls : List Itm} (h : RowT w a ls) (hb : Below w.heap.size w w') : RowT w' a ls := by
  intro h0
  obtain ⟨b, off, e, hc⟩ := h h0
  refine ⟨b, off, e, fun i x hx => ?_⟩
  obtain ⟨c0, c1, c2⟩ := hc i x hx
  have hlt := World.block_lt_of_cell? w _ c0
  refine ⟨?_, ?_, ?_⟩
  · rw [hb.cell (p := ⟨b, off + i * 3, none⟩) hlt]; exact c0
  · rw [hb.cell (p := ⟨b, off + i * 3 + 1, none⟩) hlt]; exact c1
  · rw [hb.cell (p := ⟨b, off + i * 3 + 2, none⟩) hlt]; exact c2

def bulk : List Itm → Nat
  | [] => 0
  | x :: r => 1 + x.s.length + bulk r

theorem bulk_append (a b : List Itm) : bulk (a ++ b) = bulk a + bulk b := by
  induction a with
  | nil => simp [bulk]
  | cons x r ih => simp [bulk, ih]; omega

theorem w64 {z : Int} (h1 : -9223372036854775808 ≤ z) (h2 : z ≤ 9223372036854775807) : wrap64 z = z := by unfold wrap64; omega

theorem ret_bool {a b : Bool} (h : a = b) : Ending.returned (.bool a) = .returned (.bool b) := by rw [h]

theorem bulk_le : ∀ (ls : List Itm), (∀ x ∈ ls, x.s.length ≤ 281474976710656) → bulk ls ≤ ls.length * 281474976710657
  | [], _ => by simp [bulk]
  | x :: r, h => by
    have h1 := h x (by simp)
    have h2 := bulk_le r (fun y hy => h y (by simp [hy]))
    simp only [bulk, List.length_cons]
    omega

theorem bulk_succ {ls : List Itm} {k : Nat} {x : Itm} (h : ls[k]? = some x) : bulk (ls.take (k + 1)) = bulk (ls.take k) + (1 + x.s.length) := by
  obtain ⟨hlt, he⟩ := List.getElem?_eq_some_iff.1 h
  rw [List.take_succ_eq_append_getElem hlt, bulk_append, he]
  simp [bulk]

theorem bulk_take_le (ls : List Itm) (k : Nat) : bulk (ls.take k) ≤ bulk ls := by
  have h := bulk_append (ls.take k) (ls.drop k)
  rw [List.take_append_drop] at h
  omega
end Go.Proofs.YtkflakeocdlinaaGreatDoor
