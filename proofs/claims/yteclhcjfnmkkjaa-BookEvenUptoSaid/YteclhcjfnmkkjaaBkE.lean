/-
  Rows of lines; contract of book.right.
-/
import Derived.Test.YteclhcjfnmkkjaaBkD
import Derived.Deep.LoopGhost
namespace Go.Proofs.Yteclhcjfnmkkjaa
open Go.RowKit Go.Lib

theorem below_less {B B' : Nat} {a b : World} (h : Below B' a b) (hB : B ≤ B') : Below B a b := ⟨h.os, h.tape, h.output, h.size, fun k hk => h.block k (Nat.lt_of_lt_of_le hk hB)⟩
/-- a box, and what comes behind it -/
theorem below_box {B : Nat} {w wr w1 : World} {o : Obj} (h : Below B w wr) (hB : B ≤ wr.heap.size) (hb : Below (wr.alloc o).heap.size (wr.alloc o) w1) : Below B w w1 :=
  (h.alloc hB o).trans (below_less hb (by simp; omega))
/-- what comes behind it -/
theorem below_on {B : Nat} {w wr w1 : World} (h : Below B w wr) (hB : B ≤ wr.heap.size) (hb : Below wr.heap.size wr w1) : Below B w w1 := h.trans (below_less hb hB)

/-- a row of lines that can be read -/
def RowL (w : World) (a : Option Addr) (ls : List Ln) : Prop :=
  0 < ls.length → ∃ b off, a = some ⟨b, off, none⟩ ∧ ∀ i x, ls[i]? = some x → ∀ j u, (cL x)[j]? = some u → w.cell? ⟨b, off + i * 4 + j, none⟩ = some u

theorem RowL.keep {w w' : World} {a : Option Addr} {ls : List Ln} (h : RowL w a ls) (hb : Below w.heap.size w w') : RowL w' a ls := by
  intro h0
  obtain ⟨b, off, e, hc⟩ := h h0
  refine ⟨b, off, e, fun i x hx j u hu => ?_⟩
  have c := hc i x hx j u hu
  rw [hb.cell (p := ⟨b, off + i * 4 + j, none⟩) (World.block_lt_of_cell? w _ c)]
  exact c

def rightL (l : List Ln) : Bool := l.all fun x => rightA x.1
theorem rightL_take {l : List Ln} {k : Nat} {x : Ln} (hx : l[k]? = some x) : rightL (l.take (k + 1)) = (rightL (l.take k) && rightA x.1) := by
  obtain ⟨hlt, he⟩ := List.getElem?_eq_some_iff.1 hx
  unfold rightL
  rw [List.take_succ_eq_append_getElem hlt, List.all_append, he]; simp
theorem rightL_false {l : List Ln} {k : Nat} {x : Ln} (hx : l[k]? = some x) (h : rightA x.1 = false) : rightL l = false := by
  unfold rightL
  rw [List.all_eq_false]
  exact ⟨x, List.mem_of_getElem? hx, by rw [h]; decide⟩

set_option maxHeartbeats 2000000 in
set_option maxRecDepth 100000 in
theorem bkright_any (a : Option Addr) (c : Nat) (l : List Ln) (w : World) (hr : RowL w a l) (hl : l.length ≤ 2097152) :
    Calls Try.prog 20 #[.slice a l.length c] w fun e w' => e = .returned (.bool (rightL l)) ∧ Below w.heap.size w w' := by
  obtain ⟨n, hn⟩ : ∃ n, n = l.length := ⟨_, rfl⟩
  have HN := Lib.hid hn
  have HR := Lib.hid hr
  obtain ⟨B, hB⟩ : ∃ B, B = w.heap.size := ⟨_, rfl⟩
  have HBE := Lib.hid hB
  rw [← hn] at hl ⊢
  rw [← hB]
  clear hn hr hB
  go_enter Try.func20, Try.ntmps20
  go_wp2
  go_loopg [4, 7] n (fun gk _ i wr => ∃ k : Nat, k ≤ n ∧ i = .int .i64 k ∧ n - k ≤ gk ∧ Hid (rightL (l.take k) = true) ∧ Hid (Below B w wr))
  case atStart => exact ⟨0, Nat.zero_le _, rfl, by omega, rfl, Below.refl _ _⟩
  case round =>
    obtain ⟨k, hk, rfl, hgk, HT, HB⟩ := hrel
    by_cases hlt : k < n
    · obtain ⟨x, hx⟩ : ∃ x, l[k]? = some x := ⟨_, List.getElem?_eq_getElem (by rw [← HN.out]; exact hlt)⟩
      obtain ⟨b, off, rfl, hc⟩ := (HR.out.keep (by rw [← HBE.out]; exact HB.out)) (by rw [← HN.out]; omega)
      have c0 : wr.cell? ⟨b, off + k * 4, none⟩ = some (.string (st x.1.1)) := by simpa using hc k x hx 0 _ rfl
      have c1 := hc k x hx 1 _ rfl
      have c2 := hc k x hx 2 _ rfl
      have c3 := hc k x hx 3 _ rfl
      have hkz : (0 : Int) ≤ (k : Int) := by omega
      have hkn : (k : Int) < (n : Int) := by omega
      have HX := Lib.hid hx
      have H1 : Hid (∀ W, Calls Try.prog 16 #[kv x.1] W fun e w' => e = .returned (.bool (rightA x.1)) ∧ Below W.heap.size W w') := bkRight_any x.1
      unfold kv at H1
      clear hc hx
      go_wp2_with fail
      with_reducible refine (H1.out _).mono ?_
      rintro e w1 ⟨rfl, hb⟩
      have HB1 : Hid (Below B w w1) := below_box HB.out (by rw [HBE.out]; exact (HBE.out ▸ HB.out).size) hb
      clear hb H1 c0 c1 c2 c3
      cases hra : rightA x.1 with
      | true =>
        go_wp2
        go_roundg (n - (k + 1))
        case measure => omega
        case rel => exact ⟨k + 1, by omega, by go_num, by omega, by show _ = _; rw [rightL_take HX.out, HT.out, hra]; rfl, HB1.out⟩
      | false =>
        have HF := Lib.hid (rightL_false HX.out hra)
        go_wp2
        go_ret
        exact ⟨by rw [HF.out]; rfl, HB1.out⟩
    · have e : k = n := by omega
      subst e
      have HT2 : Hid (rightL l = true) := by have := HT.out; rw [List.take_of_length_le (by rw [← HN.out]; exact Nat.le_refl _)] at this; exact this
      go_wp2
      go_ret
      exact ⟨by rw [HT2.out]; rfl, HB.out⟩
end Go.Proofs.Yteclhcjfnmkkjaa
