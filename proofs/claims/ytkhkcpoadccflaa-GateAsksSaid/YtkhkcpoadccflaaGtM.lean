/-
  The program's gateway beside the document's, and the act at hand.
-/
import Derived.Test.YtkhkcpoadccflaaGtD
import Derived.Test.YtkhkcpoadccflaaGtJ
import Derived.Test.YtkhkcpoadccflaaGtL
import Derived.Test.YtkhkcpoadccflaaGtO
namespace Go.Proofs.Ytkhkcpoadccflaa
open Go.RowKit Go.Deep

/-- the program's gateway, and the document's; nothing of one lies in the other -/
structure GG (B : Nat) (w wr : World) (b m : Nat) (L : List Rc) (Q : List Rp) (L2 : List Rc) (Q2 : List Rp) (v1 v2 u1 u2 : Value) : Prop where
  prog : GateP 28 58 40 B wr b L Q v1 v2
  doc : GateP 33 52 43 B wr m L2 Q2 u1 u2
  apart : ∀ k ∈ fpG b v1 v2, k ∉ fpG m u1 u2
  below : Below B w wr

section
variable {B b m ba : Nat} {w wr wr' : World} {L L' L2 L2' : List Rc} {Q Q' Q2 Q2' : List Rp} {v1 v2 u1 u2 : Value} {x : Ga}

theorem GG.size (h : GG B w wr b m L Q L2 Q2 v1 v2 u1 u2) : B ≤ wr.heap.size := Nat.le_of_lt (Nat.lt_of_le_of_lt h.prog.hb h.prog.box.lt)
theorem GG.keep (h : GG B w wr b m L Q L2 Q2 v1 v2 u1 u2) (hb : Below wr.heap.size wr wr') : GG B w wr' b m L Q L2 Q2 v1 v2 u1 u2 :=
  ⟨h.prog.keep hb, h.doc.keep hb, h.apart, bel_onG h.below h.size hb⟩

/-- the two, and the act in its box -/
structure GGA (B : Nat) (w wr : World) (b m ba : Nat) (x : Ga) (L : List Rc) (Q : List Rp) (L2 : List Rc) (Q2 : List Rp) (v1 v2 u1 u2 : Value) : Prop where
  gg : GG B w wr b m L Q L2 Q2 v1 v2 u1 u2
  act : Blk wr ba 38 (cGa x).toArray
  far1 : ba ∉ fpG b v1 v2
  far2 : ba ∉ fpG m u1 u2

theorem GGA.keep (h : GGA B w wr b m ba x L Q L2 Q2 v1 v2 u1 u2) (hb : Below wr.heap.size wr wr') : GGA B w wr' b m ba x L Q L2 Q2 v1 v2 u1 u2 := ⟨h.gg.keep hb, h.act.since hb, h.far1, h.far2⟩
/-- the program's turns -/
theorem GGA.one (h : GGA B w wr b m ba x L Q L2 Q2 v1 v2 u1 u2) (ht : Turned 28 58 40 B b v1 v2 L' Q' wr wr') : ∃ v1' v2', GGA B w wr' b m ba x L' Q' L2 Q2 v1' v2' u1 u2 := by
  obtain ⟨v1', v2', hg, hs, hn⟩ := ht
  refine ⟨v1', v2', ⟨hg, h.gg.doc.stp hs (fun k hk hm => h.gg.apart k hm hk), fun k hk hm => ?_, h.gg.below.trans (hs.below (fun k hk => (h.gg.prog.lt k hk).2) h.gg.size)⟩, h.act.stp hs h.far1, fun hm => ?_, h.far2⟩
  · rcases hn k hk with h1 | h1
    · exact h.gg.apart k h1 hm
    · have := (h.gg.doc.lt k hm).1; omega
  · rcases hn ba hm with h1 | h1
    · exact h.far1 h1
    · have := h.act.lt; omega
/-- the document's turns -/
theorem GGA.two (h : GGA B w wr b m ba x L Q L2 Q2 v1 v2 u1 u2) (ht : Turned 33 52 43 B m u1 u2 L2' Q2' wr wr') : ∃ u1' u2', GGA B w wr' b m ba x L Q L2' Q2' v1 v2 u1' u2' := by
  obtain ⟨u1', u2', hg, hs, hn⟩ := ht
  refine ⟨u1', u2', ⟨h.gg.prog.stp hs (fun k hk hm => h.gg.apart k hk hm), hg, fun k hk hm => ?_, h.gg.below.trans (hs.below (fun k hk => (h.gg.doc.lt k hk).2) h.gg.size)⟩, h.act.stp hs h.far2, h.far1, fun hm => ?_⟩
  · rcases hn k hm with h1 | h1
    · exact h.gg.apart k hk h1
    · have := (h.gg.prog.lt k hk).1; omega
  · rcases hn ba hm with h1 | h1
    · exact h.far2 h1
    · have := h.act.lt; omega
end

/-- what the two hold at first -/
theorem GG.start (w : World) (B : Nat) (hB : B ≤ w.heap.size) (hb : Below B w w) : GG B w ((w.alloc (.cells #[.slice none 0 0, .slice none 0 0] 28)).alloc (.cells #[.slice none 0 0, .slice none 0 0] 33)) w.heap.size (w.heap.size + 1) [] [] [] [] (.slice none 0 0) (.slice none 0 0) (.slice none 0 0) (.slice none 0 0) := by
  have h1 := zero_gate (tg := 28) (tr := 58) (tq := 40) tyG w B hB
  have h2 := zero_gate (tg := 33) (tr := 52) (tq := 43) tyR (w.alloc (.cells #[.slice none 0 0, .slice none 0 0] 28)) B (by simp; omega)
  have hs : (w.alloc (.cells #[.slice none 0 0, .slice none 0 0] 28)).heap.size = w.heap.size + 1 := by simp
  rw [hs] at h2
  refine ⟨h1.keep ((Below.refl _ _).alloc (Nat.le_refl _) _), h2, fun k hk hm => ?_, (hb.alloc hB _).alloc (by simp; omega) _⟩
  simp [fpG, Value.ownBlock] at hk hm
  omega

/-- a request and a choice of the act at hand -/
def Sgat (ba : Nat) (r : Rq) (ch : Nat) (w : World) : Prop := w.rangeAt ba 0 (cRq r) ∧ w.cell? ⟨ba, 6, none⟩ = some (.int .u8 (ch : Int))
theorem sgat_of {w : World} {ba : Nat} {x : Ga} (h : Blk w ba 38 (cGa x).toArray) : Sgat ba x.1 x.2.1 w := by
  refine ⟨fun j v hv => ?_, h.cell 6⟩
  have hj : j < 6 := (List.getElem?_eq_some_iff.1 hv).1
  rw [Nat.zero_add, h.cell j, List.getElem?_toArray]
  match j, hj with
  | 0, _ => exact hv
  | 1, _ => exact hv
  | 2, _ => exact hv
  | 3, _ => exact hv
  | 4, _ => exact hv
  | 5, _ => exact hv
/-- the fields of the document's gateway -/
def Sgd (m : Nat) (u1 u2 : Value) (w : World) : Prop := w.cell? ⟨m, 0, none⟩ = some u1 ∧ w.cell? ⟨m, 1, none⟩ = some u2
theorem infoReq16 : (Try.prog.info? 35).map (·.size) = some 6 := by kernel_rfl
end Go.Proofs.Ytkhkcpoadccflaa
