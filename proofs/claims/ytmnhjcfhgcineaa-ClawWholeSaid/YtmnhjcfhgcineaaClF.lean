/-
  Contracts of (*claw.Sale).Undo.
-/
import Derived.Test.YtmnhjcfhgcineaaClE
namespace Go.Proofs.Ytmnhjcfhgcineaa
open Go.RowKit Go.Deep

set_option maxHeartbeats 800000 in
theorem undo_nil (v : Value) (w : World) : Calls Try.prog 12 #[.pointer none, v] w fun e w' => e = .returned (.int .i64 1) ∧ w = w' := by
  go_enter Try.func12, Try.ntmps12
  go_wp2
  go_ret
  exact ⟨rfl, rfl⟩

set_option maxHeartbeats 800000 in
theorem undo_len (b n m c : Nat) (a A : Option Addr) (c1 : Nat) (w : World) (hc : w.cell? ⟨b, 0, none⟩ = some (.slice a n c)) (hne : m ≠ n) :
    Calls Try.prog 12 #[.pointer (some ⟨b, 0, none⟩), .slice A m c1] w fun e w' => e = .returned (.int .i64 1) ∧ w = w' := by
  have t1 : ((m : Int) != (n : Int)) = true := by rw [bne_iff_ne]; omega
  clear hne
  go_enter Try.func12, Try.ntmps12
  go_wp2
  go_ret
  exact ⟨rfl, rfl⟩

/-- what is left, while it is laid down again -/
structure MoreAt (ws ps : List Int) (g : Nat) (w wr : World) (k : Nat) : Prop where
  below : Below w.heap.size w wr
  new : g = w.heap.size
  row : wr.rowIs g 2 ws.length (fun i => .int .i64 (if i < k then (addL ws ps).getD i 0 else 0))

theorem MoreAt.start (ws ps : List Int) (w : World) : MoreAt ws ps w.heap.size w (w.alloc (.cells (madeCells #[.int .i64 0] ws.length) 2)) 0 :=
  ⟨(Below.refl _ _).alloc (Nat.le_refl _) _, rfl, (World.rowIs_made w _ _ _).congr fun i _ => by rw [if_neg (by omega)]⟩

theorem MoreAt.step {ws ps : List Int} {g : Nat} {w wr : World} {k : Nat} (h : MoreAt ws ps g w wr k) :
    MoreAt ws ps g w (wr.setCell ⟨g, k, none⟩ (.int .i64 ((addL ws ps).getD k 0))) (k + 1) := by
  refine ⟨h.below.setCell (by rw [h.new]; exact Nat.le_refl _) _, h.new, (h.row.set k _).congr fun i hi => ?_⟩
  by_cases e : i = k
  · subst e; simp
  · rw [if_neg e]
    by_cases e2 : i < k
    · rw [if_pos e2, if_pos (by omega)]
    · rw [if_neg e2, if_neg (by omega)]

theorem MoreAt.alloc {ws ps : List Int} {g : Nat} {w wr : World} {k : Nat} (h : MoreAt ws ps g w wr k) (o : Obj) : MoreAt ws ps g w (wr.alloc o) k :=
  ⟨h.below.alloc h.below.size o, h.new, h.row.alloc o⟩

/-- all is given back: what is left stands in a new row -/
def UdYes (b : Nat) (ws ps : List Int) (w : World) (e : Ending) (w' : World) : Prop :=
  ∃ g2, e = .returned (.int .i64 0) ∧ w.heap.size ≤ g2 ∧ SaleP w' b (addL ws ps) (some ⟨g2, 0, none⟩) ws.length ∧ w.grownBy w' (some b)

theorem sumTo_two {x y : Int} (hx : Amt x) (h : Amt (x + y)) : sumTo 0 [x, y] = some (x + y) := by
  unfold sumTo
  rw [if_pos (by rw [Int.zero_add]; exact hx)]
  unfold sumTo
  rw [if_pos (by rw [Int.zero_add]; exact h), Int.zero_add]
  rfl

set_option maxHeartbeats 3200000 in
theorem undo_yes (b : Nat) (a A : Option Addr) (c c1 : Nat) (ws ps : List Int) (w : World) (hs : SaleP w b ws a c) (hA : RowI .i64 w A ps) (hl : ps.length = ws.length) (hn : ws.length ≤ 40)
    (hz : ∀ z ∈ ws, Amt z) (hp : ∀ z ∈ ps, Amt z) (hneg : anyNeg ps = false) (hsum : ∀ i, i < ws.length → Amt (ws.getD i 0 + ps.getD i 0)) :
    Calls Try.prog 12 #[.pointer (some ⟨b, 0, none⟩), .slice A ws.length c1] w (UdYes b ws ps w) := by
  have H1 := below_any A c1 ps w hA (by unfold maxLen; omega)
  rw [hneg, hl] at H1
  have H1 := Lib.hid H1
  have hc := hs.cell
  have HS := Lib.hid hs
  have HP := Lib.hid hA
  have HL := Lib.hid hl
  have HZ := Lib.hid hz
  have HZP := Lib.hid hp
  have HSM := Lib.hid hsum
  obtain ⟨n, hnn⟩ : ∃ n, n = ws.length := ⟨_, rfl⟩
  have HN := Lib.hid hnn
  rw [← hnn] at H1 hc hn ⊢
  have t1 : ((n : Int) != (n : Int)) = false := by simp
  have hmk := run_make_row' (P := Try.prog) 22 2 (.int .i64 0) 8 Try.underlying22 infoI64 rfl .i64 .i64 n (by omega) (by omega)
  have HA : Hid (MoreAt ws ps w.heap.size w (w.alloc (.cells (madeCells #[.int .i64 0] n) 2)) 0) := by
    rw [HN.out]; exact MoreAt.start ws ps w
  clear hs hA hl hz hp hneg hsum hnn
  go_enter Try.func12, Try.ntmps12
  go_wp2_with fail
  refine H1.out.mono ?_
  rintro e w1 ⟨rfl, rfl⟩
  go_wp2
  clear hmk t1 hc H1
  obtain ⟨g2, hg2⟩ : ∃ g2, g2 = w.heap.size := ⟨_, rfl⟩
  obtain ⟨w2, hw2⟩ : ∃ w2, w2 = w.alloc (.cells (madeCells #[.int .i64 0] n) 2) := ⟨_, rfl⟩
  rw [← hw2, ← hg2] at HA
  rw [← hw2, ← hg2]
  have HG2 := Lib.hid hg2
  clear hw2 hg2
  go_loopg [6, 7, 8, 9, 31, 36] n (fun gk _ _ _ _ i _ wr => ∃ k : Nat, k ≤ n ∧ i = .int .i64 k ∧ n - k ≤ gk ∧ Hid (MoreAt ws ps g2 w wr k))
  case atStart => exact ⟨0, Nat.zero_le _, rfl, by omega, HA⟩
  case round =>
    clear HA
    obtain ⟨k, hk, rfl, hgk, HA⟩ := hrel
    have hSr := HS.out.keep HA.out.below
    by_cases hlt : k < n
    · obtain ⟨b1, off, rfl, hc1⟩ := hSr.row (by rw [← HN.out]; omega)
      have c1 := hc1 k (by rw [← HN.out]; exact hlt)
      have c0 := hSr.cell
      rw [← HN.out] at c0
      obtain ⟨b2, o2, rfl, hc2⟩ := (HP.out.keep HA.out.below) (by rw [HL.out, ← HN.out]; omega)
      have c2 := hc2 k (by rw [HL.out, ← HN.out]; exact hlt)
      have hzk := HZ.out _ (getD_mem (by rw [← HN.out]; exact hlt))
      have hpk := HZP.out _ (getD_mem (k := k) (by rw [HL.out, ← HN.out]; exact hlt))
      have hsk := HSM.out k (by rw [← HN.out]; exact hlt)
      have had := addL_get (ws := ws) (ps := ps) (i := k) (by rw [← HN.out]; exact hlt)
      obtain ⟨p, hp'⟩ : ∃ p, p = ps.getD k 0 := ⟨_, rfl⟩
      obtain ⟨z, hz'⟩ : ∃ z, z = ws.getD k 0 := ⟨_, rfl⟩
      rw [← hp'] at c2 hpk hsk had
      rw [← hz'] at c1 hzk hsk had
      have hadd := Add_any (some ⟨wr.heap.size, 0, none⟩) 2 [z, p] (wr.alloc (.cells #[.int .i64 z, .int .i64 p] 2)) (row_two wr z p) (fun u hu => by
        simp only [List.mem_cons, List.not_mem_nil, or_false] at hu
        rcases hu with rfl | rfl
        · exact hzk
        · exact hpk) (by show 2 ≤ maxLen; decide)
      rw [sumTo_two hzk hsk, show (some (z + p)).getD 0 = z + p from rfl, show overE (some (z + p)).isSome = 0 from rfl, show [z, p].length = 2 from rfl] at hadd
      have HAD := Lib.hid hadd
      have HST : Hid (∀ W, MoreAt ws ps g2 w W k → MoreAt ws ps g2 w (W.setCell ⟨g2, k, none⟩ (.int .i64 (z + p))) (k + 1)) := fun W h => by
        have := h.step
        rw [had] at this
        exact this
      have HAL := Lib.hid (HA.out.alloc (.cells #[.int .i64 z, .int .i64 p] 2))
      have c3 := HAL.out.row.cell (by rw [← HN.out]; exact hlt)
      have f3 := HAL.out.row.frozen k
      clear hadd hp' hz' hc1 hc2 hSr hzk hpk hsk had
      go_wp2_with fail
      refine HAD.out.mono ?_
      rintro e w3 ⟨rfl, rfl⟩
      have HNX := Lib.hid (HST.out _ HAL.out)
      clear HAD HST
      go_wp2
      go_roundg (n - (k + 1))
      case measure => omega
      case rel => exact ⟨k + 1, by omega, by go_num, by omega, HNX.out⟩
    · have hke : k = n := by omega
      have HBX := Lib.hid hSr.box
      have c00 := hSr.cell
      have f0 := hSr.box.frozen 0
      have hne2 : g2 ≠ b := by
        have h1 := HS.out.box.lt
        have h2 := HG2.out
        omega
      have HNE := Lib.hid hne2
      have HFR : Hid (RowI .i64 wr (some ⟨g2, 0, none⟩) (addL ws ps)) := RowI.of_rowIs (t := 2) (by
        rw [addL_length]
        exact HA.out.row.congr fun i hi => by rw [if_pos (by rw [hke, HN.out]; exact hi)])
      have HBW := Lib.hid HA.out.below
      clear hSr hne2 hke
      go_wp2
      go_ret
      refine ⟨g2, rfl, by have := HG2.out; omega, ⟨?_, rowI_other HFR.out HNE.out⟩, ?_⟩
      · have := HBX.out.set 0 (.slice (some ⟨g2, 0, none⟩) n n)
        rw [addL_length, ← HN.out]
        exact this
      · have hsz := HBW.out.size
        refine ⟨HBW.out.os, HBW.out.tape, HBW.out.output, by simpa [World.setCell] using hsz, fun k hk hne => ?_⟩
        have hkb : k ≠ b := fun e => hne (by rw [e])
        exact (Below.heap_setCell wr ⟨b, 0, none⟩ _ k hkb).trans (HBW.out.block k hk)
end Go.Proofs.Ytmnhjcfhgcineaa
