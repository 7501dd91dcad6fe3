/-
  Contracts of soukref05.Records, Open.
-/
import Derived.Test.YtbpklikmldpeiaaJnCMA
import Derived.Test.YtbpklikmldpeiaaJnAMA
import Derived.Test.YtbpklikmldpeiaaRDskBMA
import Derived.Test.YtbpklikmldpeiaaRDskDMA
namespace Go.Proofs.Ytbpklikmldpeiaa
open Go.RowKit Go.Lib

/-- the document's disk, as a part of memory -/
def RDr (b : Nat) (s : DS) (w : World) (fp : List Nat) : Prop := RD w 0 b s fp
theorem RDr.stays (b : Nat) (s : DS) : Stays (RDr b s) where
  keep := fun h hs hn => RD.keep h hs hn
  lt := fun h k hk => (RD.lt h k hk).2
theorem RDr.ok {b : Nat} {s : DS} {w : World} {fp : List Nat} (h : RDr b s w fp) : s.Ok := RD.ok h
theorem RDr.box {b : Nat} {s : DS} {w : World} {fp : List Nat} (h : RDr b s w fp) : ∃ ba bc vp, Blk w b 44 #[.slice ba s.bl.length bc, vp, .int .i64 s.fu, .bool s.dead] ∧ RowS w ba s.bl ∧ s.bl.length ≤ bc := by
  obtain ⟨n, vb, vp, hr, rfl⟩ := h
  obtain ⟨ba, bc, rfl⟩ := own_slice2 hr.row
  have e := hr.num
  subst e
  refine ⟨ba, bc, vp, hr.box, RowS.of_own hr.row, ?_⟩
  rcases hr.row.2 with ⟨h1, h2⟩ | ⟨g, cap, cur, hv, _, _, h3, _⟩
  · rw [h2]; exact Nat.zero_le _
  · injection hv with _ _ h4
    rw [h4]; exact h3

set_option maxHeartbeats 2000000 in
set_option maxRecDepth 100000 in
theorem rRecords_any (a : Option Addr) (c : Nat) (ls : List (List UInt8)) (w : World) (hr : RowS w a ls) (hl : ls.length ≤ 65536) (hc : ls.length ≤ c) (hc2 : c ≤ 9223372036854775807) :
    Calls Try.prog 27 #[.slice a ls.length c] w fun e w' => ∃ ps u v, Recs 0 ls ps u ∧ e = .returned (.tuple #[v, .int .i64 (u : Nat)]) ∧ Below w.heap.size w w' ∧ w'.ownsRow w.heap.size 9 1 v ps.length (sv ps) := by
  obtain ⟨n, hn⟩ : ∃ n, n = ls.length := ⟨_, rfl⟩
  have HN := Lib.hid hn
  have HR := Lib.hid hr
  rw [← hn] at hl hc ⊢
  obtain ⟨B, hB⟩ : ∃ B, B = w.heap.size := ⟨_, rfl⟩
  have HBE := Lib.hid hB
  have HBS : Hid (B ≤ w.heap.size) := by show B ≤ _; omega
  rw [← hB]
  clear hn hr hB
  go_enter Try.func27, Try.ntmps27
  go_wp2
  go_loopg [4, 5, 6, 7, 12] (n + 1) (fun gk po uo _ _ _ wr => ∃ (ps : List (List UInt8)) (u : Nat) (v : Value), po = v ∧ uo = .int .i64 u ∧ u ≤ n ∧ n + 1 - u ≤ gk ∧ Hid (Lead 0 ls ps u) ∧ Hid (wr.ownsRow B 9 1 v ps.length (sv ps)) ∧ Hid (Below B w wr))
  case atStart => exact ⟨[], 0, .slice none 0 0, rfl, rfl, Nat.zero_le _, by omega, Lead.none 0 ls, World.ownsRow_nil _ _ _ _, Below.refl _ _⟩
  case round =>
    obtain ⟨ps, u, v, rfl, rfl, hu, hgk, HL, HO, HB⟩ := hrel
    obtain ⟨va, vc, rfl⟩ := own_slice HO.out
    have hfew := HL.out.few
    obtain ⟨m, hm⟩ : ∃ m, m = ps.length := ⟨_, rfl⟩
    have HM := Lib.hid hm
    rw [← hm] at hfew HO
    have hBs : B ≤ wr.heap.size := Nat.le_trans HBS.out HB.out.size
    rw [← hm]
    clear hm
    by_cases hun : u < n
    · have huc : u < c := by omega
      obtain ⟨b, off, rfl, _⟩ := HR.out (by rw [← HN.out]; omega)
      have hdl : (ls.drop u).length = n - u := by rw [List.length_drop, ← HN.out]
      have H1 := payload_any m (some ⟨b, off + u, none⟩) (c - u) (ls.drop u) wr (rowS_drop (HR.out.keep (by have := HB.out; rw [← HBE.out]; exact this)) u) (by omega) (by omega) (by omega)
      rw [hdl] at H1
      have H1 := Lib.hid H1
      have huz : (u : Int) < (n : Int) := by omega
      clear hdl
      go_wp2_with fail
      with_reducible refine H1.out.mono ?_
      rintro e w1 ⟨hunp, hb1⟩
      have HB1 := Lib.hid (HB.out.trans (hb1.mono hBs))
      have HO1 := Lib.hid (own_since HO.out hb1)
      have hBs1 : B ≤ w1.heap.size := Nat.le_trans HBS.out HB1.out.size
      clear hb1 H1
      rcases hunp with ⟨ds, hd, rfl⟩ | ⟨hno, rfl⟩
      · obtain ⟨p, hp⟩ : ∃ p, p = ds.flatten := ⟨_, rfl⟩
        obtain ⟨q, hq⟩ : ∃ q, q = ds.length := ⟨_, rfl⟩
        have hq1 : 1 ≤ q := by rw [hq]; exact hd.1
        have hq2 : u + q ≤ n := by have := hd.2.1; rw [List.length_drop, ← HN.out] at this; omega
        have HL2 := Lib.hid (HL.out.snoc (by rw [Nat.zero_add, ← HM.out]; exact hd) (by rw [← HM.out]; omega))
        rw [← hp, ← hq] at HL2
        rw [← hp, ← hq]
        have hsv : sv (ps ++ [p]) = sv ps ++ [.string (st p)] := by simp [sv]
        have HSV := Lib.hid hsv
        have tq : ((q : Int) == 0) = false := by rw [beq_eq_false_iff_ne]; omega
        clear hp hq hd hsv
        go_wp2_with (at_builtin; refine wpList_append_one rfl (.tmp 23) (.tmp 25) 22 rfl B 9 (.string ⟨#[]⟩) 16 Try.underlying22 infoStr rfl _ (.string (st p)) rfl (.slice va m vc) m (sv ps) rfl rfl HO1.out hBs1 (by unfold maxLen; omega) (by omega) ?_; intro v1 w2 hown1 hbel1)
        have HO2 := Lib.hid hown1
        rw [← HSV.out] at HO2
        have HB2 := Lib.hid (HB1.out.trans hbel1)
        clear hown1 hbel1
        go_wp2
        go_roundg (n + 1 - (u + q))
        case measure => omega
        case rel => exact ⟨ps ++ [p], u + q, v1, rfl, by go_num, hq2, by omega, HL2.out, by rw [List.length_append, ← HM.out]; exact HO2.out, HB2.out⟩
      · have HS : Hid (Recs 0 ls ps u) := ⟨HL.out, by rw [Nat.zero_add, ← HM.out]; exact hno⟩
        clear hno
        go_wp2
        go_ret2
        exact ⟨ps, u, _, HS.out, rfl, HB1.out, by rw [← HM.out]; exact HO1.out⟩
    · have HS : Hid (Recs 0 ls ps u) := ⟨HL.out, fun ds hd => by have h1 := hd.1; have h2 := hd.2.1; rw [List.length_drop, ← HN.out] at h2; omega⟩
      have huz : ¬ (u : Int) < (n : Int) := by omega
      clear hun
      go_wp2
      go_ret2
      exact ⟨ps, u, HS.out, _, rfl, HB.out, by rw [← HM.out]; exact HO.out⟩

/-- the document's journal, as a part of memory: its box, its disk, its list -/
def RJr (kb rb : Nat) (s : DS) (v : Value) (ps : List (List UInt8)) (u : Nat) : World → List Nat → Prop := Sep (BlkR kb 39 #[.pointer (some ⟨rb, 0, none⟩), v, .int .i64 u]) (Sep (RDr rb s) (TxR v ps))
theorem RJr.stays (kb rb : Nat) (s : DS) (v : Value) (ps : List (List UInt8)) (u : Nat) : Stays (RJr kb rb s v ps u) := Stays.sep (BlkR.stays _ _ _) (Stays.sep (RDr.stays _ _) (TxR.stays _ _))

/-- what the document's Open finds and makes -/
structure OrX where
  ps : List (List UInt8)
  u : Nat
  kb : Nat
  v : Value

def OrE (s : DS) (x : OrX) (e : Ending) : Prop :=
  Recs 0 s.bl x.ps x.u ∧ e = .returned (if (s.clear x.u).2 = 0 then .tuple #[.pointer (some ⟨x.kb, 0, none⟩), .int .i64 0] else .tuple #[.pointer none, .int .i64 (s.clear x.u).2])
def OrP (b : Nat) (s : DS) (x : OrX) : World → List Nat → Prop :=
  if (s.clear x.u).2 = 0 then RJr x.kb b (s.clear x.u).1 x.v x.ps x.u else RDr b (s.clear x.u).1
end Go.Proofs.Ytbpklikmldpeiaa
