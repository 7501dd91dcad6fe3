/-
  Contracts of (*claw.Sale).Refund.
-/
import Derived.Test.YtmnhjcfhgcineaaClD
namespace Go.Proofs.Ytmnhjcfhgcineaa
open Go.RowKit Go.Deep

/-- a sale: its box, and the row of what is left -/
structure SaleP (w : World) (b : Nat) (ws : List Int) (a : Option Addr) (c : Nat) : Prop where
  box : Blk w b 33 #[.slice a ws.length c]
  row : RowI .i64 w a ws

theorem SaleP.keep {w w' : World} {b : Nat} {ws : List Int} {a : Option Addr} {c : Nat} (h : SaleP w b ws a c) (hb : Below w.heap.size w w') : SaleP w' b ws a c := ⟨h.box.since hb, h.row.keep hb⟩
theorem SaleP.cell {w : World} {b : Nat} {ws : List Int} {a : Option Addr} {c : Nat} (h : SaleP w b ws a c) : w.cell? ⟨b, 0, none⟩ = some (.slice a ws.length c) := h.box.cell 0

set_option maxHeartbeats 800000 in
theorem refund_nil (T : Int) (w : World) : Calls Try.prog 11 #[.pointer none, .int .i64 T] w fun e w' => e = .returned (.tuple #[.slice none 0 0, .int .i64 1]) ∧ w = w' := by
  go_enter Try.func11, Try.ntmps11
  go_wp2
  go_ret2
  exact ⟨rfl, rfl⟩

set_option maxHeartbeats 800000 in
theorem refund_bad (T : Int) (b : Nat) (a : Option Addr) (c : Nat) (ws : List Int) (w : World) (hs : SaleP w b ws a c) (hz : ∀ z ∈ ws, Amt z) (hl : ws.length ≤ maxLen) (he : tkE ws T ≠ 0) :
    Calls Try.prog 11 #[.pointer (some ⟨b, 0, none⟩), .int .i64 T] w (TkBad ws T w) := by
  have H1 := Lib.hid (take_bad T a c ws w hs.row hz hl he)
  have hc := hs.cell
  unfold TkBad at H1 ⊢
  obtain ⟨E, hE⟩ : ∃ E, E = tkE ws T := ⟨_, rfl⟩
  obtain ⟨n, hn⟩ : ∃ n, n = ws.length := ⟨_, rfl⟩
  rw [← hE] at H1 he ⊢
  rw [← hn] at H1 hc
  have t1 : (E != 0) = true := by rw [bne_iff_ne]; exact he
  clear hs hz hl he hE hn
  go_enter Try.func11, Try.ntmps11
  go_wp2_with fail
  refine H1.out.mono ?_
  rintro e w1 ⟨rfl, rfl⟩
  go_wp2
  go_ret2
  exact ⟨rfl, rfl⟩

/-- what is left, while it is laid down -/
structure LessAt (ws ps : List Int) (g : Nat) (w wr : World) (k : Nat) : Prop where
  below : Below w.heap.size w wr
  new : g = w.heap.size
  row : wr.rowIs g 2 ws.length (fun i => .int .i64 (if i < k then (subL ws ps).getD i 0 else 0))

theorem LessAt.start (ws ps : List Int) (w : World) : LessAt ws ps w.heap.size w (w.alloc (.cells (madeCells #[.int .i64 0] ws.length) 2)) 0 :=
  ⟨(Below.refl _ _).alloc (Nat.le_refl _) _, rfl, (World.rowIs_made w _ _ _).congr fun i _ => by rw [if_neg (by omega)]⟩

theorem LessAt.step {ws ps : List Int} {g : Nat} {w wr : World} {k : Nat} (h : LessAt ws ps g w wr k) :
    LessAt ws ps g w (wr.setCell ⟨g, k, none⟩ (.int .i64 ((subL ws ps).getD k 0))) (k + 1) := by
  refine ⟨h.below.setCell (by rw [h.new]; exact Nat.le_refl _) _, h.new, (h.row.set k _).congr fun i hi => ?_⟩
  by_cases e : i = k
  · subst e; simp
  · rw [if_neg e]
    by_cases e2 : i < k
    · rw [if_pos e2, if_pos (by omega)]
    · rw [if_neg e2, if_neg (by omega)]

/-- what is taken stands in a new row, what is left in another -/
def RfYes (b : Nat) (ws : List Int) (T : Int) (w : World) (e : Ending) (w' : World) : Prop :=
  ∃ g g2 ps, e = .returned (.tuple #[.slice (some ⟨g, 0, none⟩) ws.length ws.length, .int .i64 0]) ∧ w.heap.size ≤ g ∧ w.heap.size ≤ g2 ∧ Taken ws T ps ∧ RowI .i64 w' (some ⟨g, 0, none⟩) ps ∧
    SaleP w' b (subL ws ps) (some ⟨g2, 0, none⟩) ws.length ∧ w.grownBy w' (some b)

theorem rowI_other {k : IntKind} {w : World} {g b : Nat} {zs : List Int} {i : Nat} {v : Value} (h : RowI k w (some ⟨g, 0, none⟩) zs) (hne : g ≠ b) : RowI k (w.setCell ⟨b, i, none⟩ v) (some ⟨g, 0, none⟩) zs := fun hp => by
  obtain ⟨b', o', e, hc⟩ := h hp
  injection e with e
  injection e with e1 e2
  subst e1
  subst e2
  refine ⟨g, 0, rfl, fun j hj => ?_⟩
  have h1 := hc j hj
  have h2 : (w.setCell ⟨b, i, none⟩ v).heap[g]? = w.heap[g]? := Below.heap_setCell w ⟨b, i, none⟩ v g hne
  simp only [World.cell?, h2]
  exact h1

set_option maxHeartbeats 3200000 in
theorem refund_yes (T : Int) (b : Nat) (a : Option Addr) (c : Nat) (ws : List Int) (w : World) (hs : SaleP w b ws a c) (hz : ∀ z ∈ ws, Amt z) (hn : ws.length ≤ 40) (he : tkE ws T = 0) :
    Calls Try.prog 11 #[.pointer (some ⟨b, 0, none⟩), .int .i64 T] w (RfYes b ws T w) := by
  have G := GoodT.of he
  have H1 := Lib.hid (take_yes T a c ws w hs.row hz hn he)
  have hc := hs.cell
  have HS := Lib.hid hs
  have HG := Lib.hid G
  have HZ := Lib.hid hz
  unfold TkYes at H1
  obtain ⟨n, hnn⟩ : ∃ n, n = ws.length := ⟨_, rfl⟩
  have HN := Lib.hid hnn
  rw [← hnn] at H1 hc hn
  have hp : 0 < n := by rw [hnn]; exact G.pos
  clear hs hz he hnn G
  go_enter Try.func11, Try.ntmps11
  go_wp2_with fail
  refine H1.out.mono ?_
  rintro e w1 ⟨g, ps, rfl, hg, ht, hrow, hb⟩
  have HB1 := Lib.hid hb
  have HS1 := Lib.hid (HS.out.keep hb)
  have HP1 := Lib.hid hrow
  have HT := Lib.hid ht
  have HGG := Lib.hid hg
  have hmk := run_make_row' (P := Try.prog) 22 2 (.int .i64 0) 8 Try.underlying22 infoI64 rfl .i64 .i64 n (by omega) (by omega)
  have HA : Hid (LessAt ws ps w1.heap.size w1 (w1.alloc (.cells (madeCells #[.int .i64 0] n) 2)) 0) := by
    rw [HN.out]; exact LessAt.start ws ps w1
  clear hg ht hrow hb H1 hc
  go_wp2
  clear hmk
  obtain ⟨g2, hg2⟩ : ∃ g2, g2 = w1.heap.size := ⟨_, rfl⟩
  obtain ⟨w2, hw2⟩ : ∃ w2, w2 = w1.alloc (.cells (madeCells #[.int .i64 0] n) 2) := ⟨_, rfl⟩
  rw [← hw2, ← hg2] at HA
  rw [← hw2, ← hg2]
  have HG2 := Lib.hid hg2
  clear hw2 hg2
  go_loopg [9, 10, 30] n (fun gk _ _ i wr => ∃ k : Nat, k ≤ n ∧ i = .int .i64 k ∧ n - k ≤ gk ∧ Hid (LessAt ws ps g2 w1 wr k))
  case atStart => exact ⟨0, Nat.zero_le _, rfl, by omega, HA⟩
  case round =>
    clear HA
    obtain ⟨k, hk, rfl, hgk, HA⟩ := hrel
    have hSr := HS1.out.keep HA.out.below
    have hPr := HP1.out.keep HA.out.below
    by_cases hlt : k < n
    · obtain ⟨b1, off, rfl, hc1⟩ := hSr.row HG.out.pos
      have c1 := hc1 k (by rw [← HN.out]; exact hlt)
      have c0 := hSr.cell
      rw [← HN.out] at c0
      obtain ⟨b2, o2, e2, hc2⟩ := hPr (by rw [HT.out.length, ← HN.out]; exact hp)
      injection e2 with e2
      injection e2 with e2 e3
      subst e2
      subst e3
      have c2 := hc2 k (by rw [HT.out.length, ← HN.out]; exact hlt)
      rw [Nat.zero_add] at c2
      have c3 := HA.out.row.cell (by rw [← HN.out]; exact hlt)
      have f3 := HA.out.row.frozen k
      have hbt := HT.out.part HG.out k (by rw [← HN.out]; exact hlt)
      have hzk := HZ.out _ (getD_mem (by rw [← HN.out]; exact hlt))
      have hsb := subL_get (ws := ws) (ps := ps) (i := k) (by rw [← HN.out]; exact hlt)
      have HST := Lib.hid HA.out.step
      rw [hsb] at HST
      obtain ⟨p, hp'⟩ : ∃ p, p = ps.getD k 0 := ⟨_, rfl⟩
      obtain ⟨z, hz'⟩ : ∃ z, z = ws.getD k 0 := ⟨_, rfl⟩
      rw [← hp'] at c2 hbt HST
      rw [← hz'] at c1 hbt hzk HST
      unfold Amt at hzk
      clear hp' hz' hc1 hc2 hsb hSr hPr
      go_wp2
      go_roundg (n - (k + 1))
      case measure => omega
      case rel => exact ⟨k + 1, by omega, by go_num, by omega, HST.out⟩
    · have hke : k = n := by omega
      have c0 := hSr.box
      have HBX := Lib.hid hSr.box
      have c00 := hSr.cell
      have f0 := hSr.box.frozen 0
      have hne2 : g2 ≠ b := by
        have h1 := HS1.out.box.lt
        have h2 := HG2.out
        omega
      have hneg : g ≠ b := by
        have h1 := HS.out.box.lt
        have h2 := HGG.out
        omega
      have HNE := Lib.hid hne2
      have HNG := Lib.hid hneg
      have HFR : Hid (RowI .i64 wr (some ⟨g2, 0, none⟩) (subL ws ps)) := RowI.of_rowIs (t := 2) (by
        rw [subL_length]
        exact HA.out.row.congr fun i hi => by rw [if_pos (by rw [hke, HN.out]; exact hi)])
      have HPR := Lib.hid hPr
      have HBW := Lib.hid (bel_on HB1.out HB1.out.size HA.out.below)
      clear hSr hPr c0 hne2 hneg hke
      go_wp2
      go_ret2
      refine ⟨g, g2, ps, by rw [HN.out]; first | done | rfl, HGG.out, by have := HG2.out; have := HB1.out.size; omega, HT.out, rowI_other HPR.out HNG.out, ⟨?_, rowI_other HFR.out HNE.out⟩, ?_⟩
      · have := HBX.out.set 0 (.slice (some ⟨g2, 0, none⟩) n n)
        rw [subL_length, ← HN.out]
        exact this
      · have hsz := HBW.out.size
        refine ⟨HBW.out.os, HBW.out.tape, HBW.out.output, by simpa [World.setCell] using hsz, fun k hk hne => ?_⟩
        have hkb : k ≠ b := fun e => hne (by rw [e])
        exact (Below.heap_setCell wr ⟨b, 0, none⟩ _ k hkb).trans (HBW.out.block k hk)
end Go.Proofs.Ytmnhjcfhgcineaa
