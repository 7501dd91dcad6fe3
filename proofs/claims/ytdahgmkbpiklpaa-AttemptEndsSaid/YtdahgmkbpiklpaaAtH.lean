/-
  A payout in a box beside a gateway; contract of Late, of either way.
-/
import Derived.Test.YtdahgmkbpiklpaaAtG
import Derived.Test.YtdahgmkbpiklpaaAtD
import Derived.Test.YtdahgmkbpiklpaaGtI
namespace Go.Proofs.Ytdahgmkbpiklpaa
open Go.RowKit Go.Deep Go.Lib

/-- a row of small numbers -/
def cU8 (n : Nat) : List Value := [.int .u8 (n : Int)]
theorem cU8_len (n : Nat) : (cU8 n).length = 1 := rfl

theorem late_any (B b : Nat) (L : List Rc) (Q : List Rp) (v1 v2 : Value) (i : Nat) (w : World) (h : GateP 46 63 59 B w b L Q v1 v2) (hl : Q.length ≤ 1000000) :
    Calls Try.prog 22 #[.pointer (some ⟨b, 0, none⟩), .int .i64 (i : Int)] w fun e w' => e = .returned (.tuple #[.agg (cRp (lateX i Q)).toArray, .bool (lateB i Q)]) ∧ Turned 46 63 59 B b v1 v2 L (Q.eraseIdx i) w w' := by
  unfold lateX lateB
  by_cases hi : i < Q.length
  · have hx : Q[i]? = some Q[i] := List.getElem?_eq_getElem hi
    rw [decide_eq_true hi, List.getD_eq_getElem?_getD, hx]
    exact late_yes B b L Q v1 v2 i Q[i] w h hx hl
  · rw [decide_eq_false hi, List.getD_eq_getElem?_getD, List.getElem?_eq_none (by omega), List.eraseIdx_of_length_le (by omega)]
    exact (late_no B b L Q v1 v2 i w h (.inr (by omega))).mono fun e w' ⟨he, hb⟩ => ⟨he, Turned.still h hb⟩

/-- a payout in a box, its gateway, and a cell for the result -/
structure RunP (B b : Nat) (v1 v2 : Value) (w wr : World) (pb rb : Nat) (P : Py) (L : List Rc) (Q : List Rp) (u1 u2 : Value) : Prop where
  gate : GateP 46 63 59 B wr b L Q u1 u2
  stp : Stp (fpG b v1 v2) w wr
  fp : ∀ k ∈ fpG b u1 u2, k ∈ fpG b v1 v2 ∨ w.heap.size ≤ k
  pay : Blk wr pb 23 (cPy P).toArray
  res : Blk wr rb 23 #[.string ⟨#[]⟩, .string ⟨#[]⟩, .string ⟨#[]⟩, .int .i64 0, .string ⟨#[]⟩, .int .i64 0, .int .i64 0, .int .i64 0]
  ne : pb ≠ rb
  new : w.heap.size ≤ pb ∧ w.heap.size ≤ rb
  off : pb ∉ fpG b u1 u2 ∧ rb ∉ fpG b u1 u2

section
variable {B b : Nat} {v1 v2 : Value} {w wr wr' : World} {pb rb : Nat} {P : Py} {L : List Rc} {Q : List Rp} {u1 u2 : Value}
theorem RunP.keep (h : RunP B b v1 v2 w wr pb rb P L Q u1 u2) (hb : Below wr.heap.size wr wr') : RunP B b v1 v2 w wr' pb rb P L Q u1 u2 :=
  ⟨h.gate.keep hb, h.stp.trans (Stp.of_below (fp := []) hb) (fun _ hk => by cases hk), h.fp, h.pay.since hb, h.res.since hb, h.ne, h.new, h.off⟩
theorem RunP.turn {L' : List Rc} {Q' : List Rp} (h : RunP B b v1 v2 w wr pb rb P L Q u1 u2) (ht : Turned 46 63 59 B b u1 u2 L' Q' wr wr') : ∃ x1 x2, RunP B b v1 v2 w wr' pb rb P L' Q' x1 x2 := by
  obtain ⟨x1, x2, hg, hs, hn⟩ := ht
  have out : ∀ k, k < wr.heap.size → k ∉ fpG b u1 u2 → k ∉ fpG b x1 x2 := fun k hk hn' hm => by
    rcases hn k hm with h' | h'
    · exact hn' h'
    · omega
  refine ⟨x1, x2, hg, h.stp.trans hs h.fp, fun k hk => ?_, h.pay.stp hs h.off.1, h.res.stp hs h.off.2, h.ne, h.new, out _ h.pay.lt h.off.1, out _ h.res.lt h.off.2⟩
  rcases hn k hk with h' | h'
  · exact h.fp k h'
  · exact .inr (Nat.le_trans h.stp.size h')
theorem RunP.put {k q c : List UInt8} {m : Int} {s : List UInt8} {n t a : Int} {k2 q2 c2 : List UInt8} {m2 : Int} {s2 : List UInt8} {n2 t2 a2 : Int} (h : RunP B b v1 v2 w wr pb rb ⟨k, q, c, m, s, n, t, a⟩ L Q u1 u2) :
    RunP B b v1 v2 w ((((((((wr.setCell ⟨pb, 0, none⟩ (.string (st k2))).setCell ⟨pb, 1, none⟩ (.string (st q2))).setCell ⟨pb, 2, none⟩ (.string (st c2))).setCell ⟨pb, 3, none⟩ (.int .i64 m2)).setCell ⟨pb, 4, none⟩ (.string (st s2))).setCell ⟨pb, 5, none⟩ (.int .i64 n2)).setCell ⟨pb, 6, none⟩ (.int .i64 t2)).setCell ⟨pb, 7, none⟩ (.int .i64 a2)) pb rb ⟨k2, q2, c2, m2, s2, n2, t2, a2⟩ L Q u1 u2 := by
  have hs : Stp [pb] wr ((((((((wr.setCell ⟨pb, 0, none⟩ (.string (st k2))).setCell ⟨pb, 1, none⟩ (.string (st q2))).setCell ⟨pb, 2, none⟩ (.string (st c2))).setCell ⟨pb, 3, none⟩ (.int .i64 m2)).setCell ⟨pb, 4, none⟩ (.string (st s2))).setCell ⟨pb, 5, none⟩ (.int .i64 n2)).setCell ⟨pb, 6, none⟩ (.int .i64 t2)).setCell ⟨pb, 7, none⟩ (.int .i64 a2)) := by
    repeat refine Stp.setCell ?_ (.inl (by simp)) _
    exact Stp.refl _ _
  exact ⟨h.gate.stp hs (fun x hx hm => by rw [List.mem_singleton] at hm; subst hm; exact h.off.1 hx), h.stp.trans hs (fun x hm => by rw [List.mem_singleton] at hm; subst hm; exact .inr h.new.1), h.fp, Blk.put8 h.pay _ _ _ _ _ _ _ _, h.res.stp hs (by simpa using fun e => h.ne e.symm), h.ne, h.new, h.off⟩
theorem RunP.cells {k q c : List UInt8} {m : Int} {s : List UInt8} {n t a : Int} (h : RunP B b v1 v2 w wr pb rb ⟨k, q, c, m, s, n, t, a⟩ L Q u1 u2) :
    wr.cell? ⟨pb, 0, none⟩ = some (.string (st k)) ∧ wr.cell? ⟨pb, 1, none⟩ = some (.string (st q)) ∧ wr.cell? ⟨pb, 2, none⟩ = some (.string (st c)) ∧ wr.cell? ⟨pb, 3, none⟩ = some (.int .i64 m) ∧
      wr.cell? ⟨pb, 4, none⟩ = some (.string (st s)) ∧ wr.cell? ⟨pb, 5, none⟩ = some (.int .i64 n) ∧ wr.cell? ⟨pb, 6, none⟩ = some (.int .i64 t) ∧ wr.cell? ⟨pb, 7, none⟩ = some (.int .i64 a) := Blk.cells8 h.pay
theorem RunP.frozen (h : RunP B b v1 v2 w wr pb rb P L Q u1 u2) (i : Nat) : wr.frozen? ⟨pb, i, none⟩ = false := h.pay.frozen i
theorem RunP.done (h : RunP B b v1 v2 w wr pb rb P L Q u1 u2) : Turned 46 63 59 B b v1 v2 L Q w wr := ⟨u1, u2, h.gate, h.stp, h.fp⟩
theorem put_stp (wr : World) (b : Nat) (x0 x1 x2 x3 x4 x5 x6 x7 : Value) : Stp [b] wr ((((((((wr.setCell ⟨b, 0, none⟩ x0).setCell ⟨b, 1, none⟩ x1).setCell ⟨b, 2, none⟩ x2).setCell ⟨b, 3, none⟩ x3).setCell ⟨b, 4, none⟩ x4).setCell ⟨b, 5, none⟩ x5).setCell ⟨b, 6, none⟩ x6).setCell ⟨b, 7, none⟩ x7) := by
  repeat refine Stp.setCell ?_ (.inl (by simp)) _
  exact Stp.refl _ _
/-- the result is laid down -/
theorem RunP.last (h : RunP B b v1 v2 w wr pb rb P L Q u1 u2) (x0 x1 x2 x3 x4 x5 x6 x7 : Value) :
    Blk ((((((((wr.setCell ⟨rb, 0, none⟩ x0).setCell ⟨rb, 1, none⟩ x1).setCell ⟨rb, 2, none⟩ x2).setCell ⟨rb, 3, none⟩ x3).setCell ⟨rb, 4, none⟩ x4).setCell ⟨rb, 5, none⟩ x5).setCell ⟨rb, 6, none⟩ x6).setCell ⟨rb, 7, none⟩ x7) rb 23 #[x0, x1, x2, x3, x4, x5, x6, x7] ∧ Turned 46 63 59 B b v1 v2 L Q w ((((((((wr.setCell ⟨rb, 0, none⟩ x0).setCell ⟨rb, 1, none⟩ x1).setCell ⟨rb, 2, none⟩ x2).setCell ⟨rb, 3, none⟩ x3).setCell ⟨rb, 4, none⟩ x4).setCell ⟨rb, 5, none⟩ x5).setCell ⟨rb, 6, none⟩ x6).setCell ⟨rb, 7, none⟩ x7) := by
  have hs := put_stp wr rb x0 x1 x2 x3 x4 x5 x6 x7
  exact ⟨Blk.put8 h.res _ _ _ _ _ _ _ _, u1, u2, h.gate.stp hs (fun x hx hm => by rw [List.mem_singleton] at hm; subst hm; exact h.off.2 hx), h.stp.trans hs (fun x hm => by rw [List.mem_singleton] at hm; subst hm; exact .inr h.new.2), h.fp⟩
end
end Go.Proofs.Ytdahgmkbpiklpaa
