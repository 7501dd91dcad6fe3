/-
  Contracts of strings.Builder's copyCheck and WriteString at a Builder of the call's own.
-/
import Derived.Test.YtjegfoeempojiaaDoorStrs
import Derived.Test.YtjegfoeempojiaaDoorShelf
import Derived.Lib.Builder
import Derived.Lib.AppendStr
import Derived.Lib.UnsafeStr
namespace Go.Proofs.YtjegfoeempojiaaDoor
open Go.RowKit

/-- a Builder of the call's own, in block b, with these bytes -/
def BdAt (w : World) (B b : Nat) (l : List UInt8) : Prop := Lib.IsBuilder 43 5 B b (Lib.byteCells l) w

theorem BdAt.new (w : World) : BdAt (w.alloc (.cells #[.pointer none, .slice none 0 0] 43)) w.heap.size w.heap.size [] := Lib.fresh_isBuilder _ _ w

theorem BdAt.keep {w w' : World} {B b : Nat} {l : List UInt8} (h : BdAt w B b l) (hb : Below w.heap.size w w') : BdAt w' B b l := by
  have one : ∀ p, Lib.BuilderAt 43 5 B b p (Lib.byteCells l) w → Lib.BuilderAt 43 5 B b p (Lib.byteCells l) w' := fun p hp => by
    obtain ⟨hB, v, hbk, hown, hne⟩ := hp
    exact ⟨hB, v, (hb.block b (Array.getElem?_eq_some_iff.1 hbk).1).trans hbk, own_since hown hb, hne⟩
  exact h.imp (one _) (one _)

theorem infoU8b : (Tryd.prog.info? 5).map (fun i => (i.zero, i.size, i.bytes)) = some (some (.int .u8 0), 1, 1) := by kernel_rfl
theorem infoBd : (Tryd.prog.info? 43).map (fun i => decide (i.size ≠ 0)) = some true := by kernel_rfl
theorem liesBd : liesAt Tryd.prog Tryd.prog.depth 43 (2 / Tryd.prog.cellsOf 43) 0 43 1 = true := by kernel_rfl

set_option maxHeartbeats 1000000 in
theorem check_any (B b : Nat) (bs : List Value) (w : World) (h : Lib.IsBuilder 43 5 B b bs w) :
    Calls Tryd.prog 21 #[.pointer (some ⟨b, 0, none⟩)] w fun e w' => e = .returned (.tuple #[]) ∧ Lib.BuilderAt 43 5 B b (.pointer (some ⟨b, 0, none⟩)) bs w' ∧ Below B w w' := by
  obtain ⟨j, hj, hjs⟩ := Option.map_eq_some_iff.1 infoBd
  have hjs := of_decide_eq_true hjs
  rcases h with h | h
  · have h0 := h.cell0
    have hsh := h.shape
    have hfz := h.frozen0
    have r1 := Lib.run_to_unsafe (P := Tryd.prog) w ⟨b, 0, none⟩ Tryd.underlying40 Tryd.underlying73 hj hjs hsh (Nat.zero_lt_succ 1)
    have r3 := Lib.run_from_unsafe (P := Tryd.prog) w ⟨b, 0, none⟩ Tryd.underlying73 Tryd.underlying40 hj hsh liesBd
    go_enter Tryd.func21, Tryd.ntmps21
    go_wp2_with fail
    rw [run_callFunc_extern Tryd.func35 (by kernel_rfl) (by kernel_rfl) (by kernel_rfl) (e := Extern.AbiNoEscape.same) (by kernel_rfl)]
    rw [Lib.run_noEscape]
    simp only [Result.andThen]
    rw [Oper.upon_value]
    go_wp2
    go_end0
    exact ⟨rfl, h.used _, (Below.refl B w).setCell (p := ⟨b, 0, none⟩) h.1 _⟩
  · have h0 := h.cell0
    have r1 := Lib.run_neq_ptr_same (P := Tryd.prog) w ⟨b, 0, none⟩ Tryd.underlying40 hj
    go_enter Tryd.func21, Tryd.ntmps21
    go_wp2
    go_end0
    exact ⟨rfl, h, Below.refl B _⟩

set_option maxHeartbeats 1000000 in
theorem bdWrite_any (B b : Nat) (l s : List UInt8) (w : World) (h : BdAt w B b l) (hlen : l.length + s.length ≤ 1000000000) (hBw : B ≤ w.heap.size) :
    Calls Tryd.prog 12 #[.pointer (some ⟨b, 0, none⟩), .string (st s)] w fun e w' => e = .returned (.tuple #[.int .i64 s.length, .nilIface]) ∧ BdAt w' B b (l ++ s) ∧ Below B w w' := by
  have hsz := st_size s
  obtain ⟨n, hn⟩ : ∃ n, n = s.length := ⟨_, rfl⟩
  rw [← hn] at hsz hlen ⊢
  have HL : Hid (l.length + n ≤ 1000000000) := hlen
  have H1 := Lib.hid (check_any B b _ w h)
  have HS : Hid (B ≤ w.heap.size) := hBw
  obtain ⟨i0, hi, hz0, hz1, hz2⟩ := info_parts infoU8b
  have hcl : (Lib.byteCells l).length = l.length := by simp [Lib.byteCells]
  have HCL := Lib.hid hcl
  clear h hlen hcl hn
  go_enter Tryd.func12, Tryd.ntmps12
  go_wp2_with fail
  refine H1.out.mono ?_
  rintro e w1 ⟨rfl, h1, hb1⟩
  obtain ⟨hB, v, hbk, hown, hne⟩ := h1
  have c0 : w1.cell? ⟨b, 0, none⟩ = some (.pointer (some ⟨b, 0, none⟩)) := by rw [Lib.cell_of_heap hbk]; rfl
  have c1 : w1.cell? ⟨b, 1, none⟩ = some v := by rw [Lib.cell_of_heap hbk]; rfl
  have HBK := Lib.hid hbk
  have HO := Lib.hid hown
  have HNE := Lib.hid hne
  have HB1 := Lib.hid hb1
  have HBs : B ≤ w1.heap.size := Nat.le_trans HS.out hb1.size
  clear hbk hne hb1 H1 hown
  have h63 : (Lib.byteCells l).length + (st s).size ≤ maxLen := by rw [HCL.out, hsz]; have := HL.out; unfold maxLen; omega
  have h47 : (Lib.byteCells l).length + (st s).size ≤ 140737488355328 := by rw [HCL.out, hsz]; have := HL.out; omega
  have H63 := Lib.hid h63
  have H47 := Lib.hid h47
  clear h63 h47
  go_wp2_with (at_builtin; (refine Lib.wpList_append_own_string (P := Tryd.prog) _ rfl (.tmp 12) (.tmp 13) 41 9 rfl B 5 i0 Tryd.underlying41 Tryd.underlying9 hi hz0 hz1 hz2 v (Lib.byteCells l).length (Lib.byteCells l) rfl HO.out (st s) rfl H63.out H47.out HBs ?_))
  intro v' w2 hown' hgrow _
  have hlt : b < w1.heap.size := (Array.getElem?_eq_some_iff.1 HBK.out).1
  have hb2 : w2.heap[b]? = some (.cells #[.pointer (some ⟨b, 0, none⟩), v] 43 (0, 0)) := by
    rw [hgrow.block b hlt (fun e => HNE.out e.symm)]
    exact HBK.out
  have d0 : w2.cell? ⟨b, 0, none⟩ = some (.pointer (some ⟨b, 0, none⟩)) := by rw [Lib.cell_of_heap hb2]; rfl
  have d1 : w2.cell? ⟨b, 1, none⟩ = some v := by rw [Lib.cell_of_heap hb2]; rfl
  have f1 : w2.frozen? ⟨b, 1, none⟩ = false := Lib.frozen_of_heap hb2 1
  obtain ⟨ao, n', cap, rfl⟩ : ∃ ao n' cap, v' = .slice ao n' cap := by
    rcases hown'.2 with ⟨hv, _⟩ | ⟨g, cap, cur, hv, _⟩
    · exact ⟨_, _, _, hv⟩
    · exact ⟨_, _, _, hv⟩
  have HO2 := Lib.hid hown'
  have HG := Lib.hid hgrow
  have HB2 := Lib.hid hb2
  clear hown' hgrow hb2
  go_wp2
  go_ret2
  refine ⟨rfl, .inr ?_, ?_⟩
  · have ec : Lib.byteCells (l ++ s) = Lib.byteCells l ++ Lib.strCells (st s) := by
      simp [Lib.byteCells, Lib.strCells, st_toList]
    rw [ec]
    exact Lib.BuilderAt.put (T := 43) (e := 5) hB HB2.out (bs' := Lib.byteCells l ++ Lib.strCells (st s)) (by have := HO2.out; rw [List.length_append, Lib.strCells_length, hsz]; exact this) (by decide)
  · exact (HB1.out.grown HG.out HBs (fun k hk => (HO.out.lt k hk).1)).setCell (p := ⟨b, 1, none⟩) hB _

theorem bdString_any (B b : Nat) (l : List UInt8) (w : World) (h : BdAt w B b l) (hBw : B ≤ w.heap.size) :
    Calls Tryd.prog 14 #[.pointer (some ⟨b, 0, none⟩)] w fun e w' => e = .returned (.string (st l)) ∧ Below B w w' := Tryd.Builder_String_any B b l w h hBw
end Go.Proofs.YtjegfoeempojiaaDoor
