/-
  Contracts of slices.SortStableFunc at fewer than twenty places, and of money.mostFirst.
-/
import Derived.Test.YtmnhjcfhgcineaaSortB
import Derived.Laws.MakeOwn
namespace Go.Proofs.Ytmnhjcfhgcineaa
open Go.RowKit

/-- slices.SortStableFunc puts n places in order. -/
def SortOK (n : Nat) : Prop := ∀ (Bx bK c g cap : Nat) (key : Nat → Int) (w0 w : World), Keys w0 Bx bK n c g key → SW w0 g n id w →
  Calls Try.prog 33 #[.slice (some ⟨g, 0, none⟩) n cap, .func (.func 34) #[] #[.pointer (some ⟨Bx, 0, none⟩)]] w
      fun e w' => e = .returned (.tuple #[]) ∧ ∃ d, SW w0 g n d w' ∧ Ordd key 0 n d ∧ Shuf 0 n id d

set_option maxHeartbeats 800000 in
theorem stable_small (Bx bK n c g cap : Nat) (key : Nat → Int) (w0 w : World) (K : Keys w0 Bx bK n c g key) (S : SW w0 g n id w) (hn : n < 20) :
    Calls Try.prog 41 #[.slice (some ⟨g, 0, none⟩) n cap, .int .i64 n, .func (.func 34) #[] #[.pointer (some ⟨Bx, 0, none⟩)]] w
      fun e w' => e = .returned (.tuple #[]) ∧ ∃ d, SW w0 g n d w' ∧ Ordd key 0 n d ∧ Shuf 0 n id d := by
  have H := Lib.hid (insertion_any Bx bK n c g cap 0 n key id w0 w K S (Nat.zero_le _) (Nat.le_refl _) (by omega) (fun _ h => h) (fun _ _ _ h _ => h))
  clear K S
  have t1 : decide ((20 : Int) ≤ (n : Int)) = false := decide_eq_false (by omega)
  have t2 : decide ((20 : Int) < (n : Int)) = false := decide_eq_false (by omega)
  go_enter Try.func41, Try.ntmps41
  go_wp2
  refine wp_loop_rounds 1 ?_
  rw [rounds_succ]
  go_wp2_with fail
  refine H.out.mono ?_
  rintro e w' ⟨rfl, hd⟩
  have HD := Lib.hid hd
  clear hd H
  go_wp2
  refine wp_loop_rounds 1 ?_
  rw [rounds_succ]
  go_wp2
  go_end0
  exact ⟨rfl, HD.out⟩

theorem sortOK_small {n : Nat} (hn : n < 20) : SortOK n := by
  intro Bx bK c g cap key w0 w K S
  have H := Lib.hid (stable_small Bx bK n c g cap key w0 w K S hn)
  clear K S
  go_enter Try.func33, Try.ntmps33
  go_wp2_with fail
  refine H.out.mono ?_
  rintro e w' ⟨rfl, hd⟩
  have HD := Lib.hid hd
  clear hd H
  go_wp2
  go_end0
  exact ⟨rfl, HD.out⟩

theorem infoInt : (Try.prog.info? 3).map (fun i => (i.zero, i.size, i.bytes)) = some (some (.int .i64 0), 1, 8) := by kernel_rfl

/-- while the places are laid: those below k -/
structure Fill (w1 wr : World) (g n k : Nat) : Prop where
  grown : w1.grownBy wr (some g)
  row : wr.rowIs g 3 n (fun p => if p < k then .int .i64 (p : Nat) else .int .i64 0)

theorem Fill.step {w1 wr : World} {g n k : Nat} (h : Fill w1 wr g n k) : Fill w1 (wr.setCell ⟨g, k, none⟩ (.int .i64 (k : Nat))) g n (k + 1) := by
  refine ⟨⟨h.grown.os, h.grown.tape, h.grown.output, by simpa [World.setCell] using h.grown.size, fun i hi hne => ?_⟩, (h.row.set k _).congr fun p hp => ?_⟩
  · rw [Below.heap_setCell _ _ _ _ (fun e => hne (by rw [e]))]
    exact h.grown.block i hi hne
  · by_cases e : p = k
    · subst e; simp
    · rw [if_neg e]
      by_cases e2 : p < k
      · rw [if_pos e2, if_pos (by omega)]
      · rw [if_neg e2, if_neg (by omega)]

/-- what money.mostFirst answers -/
def MostPost (key : Nat → Int) (n : Nat) (w : World) (e : Ending) (w' : World) : Prop :=
  ∃ g d, e = .returned (.slice (some ⟨g, 0, none⟩) n n) ∧ w.heap.size ≤ g ∧ w'.rowIs g 3 n (fun i => .int .i64 (d i : Nat)) ∧ Ordd key 0 n d ∧ Shuf 0 n id d ∧ Below w.heap.size w w'

set_option maxHeartbeats 800000 in
theorem mostFirst_any (bK n c : Nat) (key : Nat → Int) (w : World) (hS : SortOK n) (hn : n ≤ 1000000) (hk : ∀ i, i < n → w.cell? ⟨bK, i, none⟩ = some (.int .u64 (key i))) (hb : bK < w.heap.size) :
    Calls Try.prog 24 #[.slice (some ⟨bK, 0, none⟩) n c] w (MostPost key n w) := by
  have HS := Lib.hid hS
  have HK := Lib.hid hk
  clear hS hk
  have hmk := run_make_row' (P := Try.prog) 54 3 (.int .i64 0) 8 Try.underlying54 infoInt rfl .i64 .i64 n (by omega) (by omega)
  go_enter Try.func24, Try.ntmps24
  go_wp2
  clear hmk
  have hrow := World.rowIs_made (w.alloc (Obj.cells #[Value.slice (some { block := bK, off := 0 }) n c] 50)) (.int .i64 0) n 3
  have hbox : ((w.alloc (Obj.cells #[Value.slice (some { block := bK, off := 0 }) n c] 50)).alloc (Obj.cells (madeCells #[Value.int IntKind.i64 0] n) 3)).cell? ⟨w.heap.size, 0, none⟩ = some (Value.slice (some { block := bK, off := 0 }) n c) := by
    rw [World.cell?_alloc_lt _ _ _ (by simp), World.cell?_alloc_at _ _ _ _ rfl]; rfl
  have hbel : Below w.heap.size w ((w.alloc (Obj.cells #[Value.slice (some { block := bK, off := 0 }) n c] 50)).alloc (Obj.cells (madeCells #[Value.int IntKind.i64 0] n) 3)) :=
    ((Below.refl _ _).alloc (Nat.le_refl _) _).alloc (by simp) _
  have hsz : ((w.alloc (Obj.cells #[Value.slice (some { block := bK, off := 0 }) n c] 50)).alloc (Obj.cells (madeCells #[Value.int IntKind.i64 0] n) 3)).heap.size = w.heap.size + 2 := by simp
  have hsz0 : (w.alloc (Obj.cells #[Value.slice (some { block := bK, off := 0 }) n c] 50)).heap.size = w.heap.size + 1 := by simp
  rw [hsz0] at hrow
  clear hsz0
  obtain ⟨w1, hw1⟩ : ∃ w1, w1 = ((w.alloc (Obj.cells #[Value.slice (some { block := bK, off := 0 }) n c] 50)).alloc (Obj.cells (madeCells #[Value.int IntKind.i64 0] n) 3)) := ⟨_, rfl⟩
  rw [← hw1] at hrow hbox hbel hsz ⊢
  clear hw1
  have HBX := Lib.hid hbox
  have HBL := Lib.hid hbel
  have HSZ := Lib.hid hsz
  have HF : Hid (Fill w1 w1 (w.heap.size + 1) n 0) := ⟨World.grownBy.refl _ _, hrow.congr fun p _ => by rw [if_neg (by omega)]⟩
  clear hbox hbel hsz hrow
  go_loopg [4, 10] n (fun gk _ i wr => ∃ k : Nat, k ≤ n ∧ i = .int .i64 k ∧ n - k ≤ gk ∧ Hid (Fill w1 wr (w.heap.size + 1) n k))
  case atStart => exact ⟨0, Nat.zero_le _, rfl, by omega, HF⟩
  case round =>
    clear HF
    obtain ⟨k, hk, rfl, hgk, HF⟩ := hrel
    by_cases hlt : k < n
    · have f1 := HF.out.row.frozen k
      have c1 := HF.out.row.cell hlt
      rw [if_neg (by omega)] at c1
      go_wp2
      go_roundg (n - (k + 1))
      case measure => omega
      case rel => exact ⟨k + 1, by omega, by go_num, by omega, HF.out.step⟩
    · have hkn : k = n := by omega
      have hrow : wr.rowIs (w.heap.size + 1) 3 n (fun p => .int .i64 ((id p : Nat) : Int)) := HF.out.row.congr fun p hp => by rw [if_pos (by omega)]; rfl
      have hsw : SW wr (w.heap.size + 1) n id wr := ⟨World.grownBy.refl _ _, hrow⟩
      have hkk : Keys wr w.heap.size bK n c (w.heap.size + 1) key :=
        ⟨HF.out.grown.cell HBX.out (by simp), fun i hi => HF.out.grown.cell ((HBL.out.cell (by simpa using hb)).trans (HK.out i hi)) (by simp; omega), by omega, by omega⟩
      have HC := Lib.hid (HS.out w.heap.size bK c (w.heap.size + 1) n key wr wr hkk hsw)
      have hbw : Below w.heap.size w wr := HBL.out.grown HF.out.grown (by rw [HSZ.out]; omega) (by simp)
      have HBW := Lib.hid hbw
      have hle : w.heap.size + 2 ≤ wr.heap.size := by have := HF.out.grown.size; rw [HSZ.out] at this; exact this
      have HLE := Lib.hid hle
      clear hrow hsw hkk HS HK HF HBX HBL hbw hkn hle
      go_wp2_with fail
      refine HC.out.mono ?_
      rintro e w' ⟨rfl, d, h1, h2, h3⟩
      have H1 := Lib.hid h1
      have H2 := Lib.hid h2
      have H3 := Lib.hid h3
      clear h1 h2 h3 HC
      go_wp2
      go_ret
      exact ⟨w.heap.size + 1, d, rfl, by omega, H1.out.row, H2.out, H3.out, HBW.out.grown H1.out.grown (by have := HLE.out; omega) (by simp)⟩
end Go.Proofs.Ytmnhjcfhgcineaa
