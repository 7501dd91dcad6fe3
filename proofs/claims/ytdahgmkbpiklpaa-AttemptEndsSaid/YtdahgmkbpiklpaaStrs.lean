/-
  Lists of texts in memory: rows that can be read, rows of one's own.
-/
import Derived.Test.YtdahgmkbpiklpaaProg
import Derived.Test.YtdahgmkbpiklpaaOctP
import Derived.Test.YtdahgmkbpiklpaaOwn
import Derived.Test.YtdahgmkbpiklpaaStp
namespace Go.Proofs.Ytdahgmkbpiklpaa
open Go.RowKit

theorem own_since {w w' : World} {B : Nat} {e : TypeId} {v : Value} {n : Nat} {xs : List Value} (h : w.ownsRow B e 1 v n xs) (hb : Below w.heap.size w w') : w'.ownsRow B e 1 v n xs :=
  own_stp h (Stp.of_below (fp := []) hb) (fun _ _ hk => by cases hk)

/-- values of lists of bytes -/
def sv (l : List (List UInt8)) : List Value := l.map fun s => Value.string (st s)
theorem sv_length (l : List (List UInt8)) : (sv l).length = l.length := by simp [sv]

theorem infoStr : (Try.prog.info? 9).map (fun i => (i.zero, i.size, i.bytes)) = some (some (.string ⟨#[]⟩), 1, 16) := by kernel_rfl

/-- a row of texts -/
def RowS (w : World) (a : Option Addr) (ls : List (List UInt8)) : Prop :=
  0 < ls.length → ∃ b off, a = some ⟨b, off, none⟩ ∧ ∀ i x, ls[i]? = some x → w.cell? ⟨b, off + i, none⟩ = some (.string (st x))

theorem RowS.keep {w w' : World} {a : Option Addr} {ls : List (List UInt8)} (h : RowS w a ls) (hb : Below w.heap.size w w') : RowS w' a ls := by
  intro h0
  obtain ⟨b, off, e, hc⟩ := h h0
  refine ⟨b, off, e, fun i x hx => ?_⟩
  have c := hc i x hx
  rw [hb.cell (p := ⟨b, off + i, none⟩) (World.block_lt_of_cell? w _ c)]
  exact c

theorem RowS.of_own {w : World} {base : Nat} {a : Option Addr} {n c : Nat} {ls : List (List UInt8)} (h : w.ownsRow base 9 1 (.slice a n c) n (sv ls)) : RowS w a ls := by
  intro h0
  obtain ⟨b, off, e, hc⟩ := (Cells.of_own h) (by rw [sv_length]; exact h0)
  refine ⟨b, off, e, fun i x hx => hc i _ ?_⟩
  simp [sv, hx]

theorem own_slice {w : World} {B : Nat} {e : TypeId} {v : Value} {n : Nat} {xs : List Value} (h : w.ownsRow B e 1 v n xs) : ∃ a c, v = .slice a n c := by
  rcases h.2 with ⟨hv, h0⟩ | ⟨g, cap, cur, hv, _⟩
  · exact ⟨none, 0, by rw [hv, h0]⟩
  · exact ⟨_, _, hv⟩

theorem RowS.cells {w : World} {a : Option Addr} {ls : List (List UInt8)} (h : RowS w a ls) : Cells w a (sv ls) := by
  intro h0
  obtain ⟨b, off, e, hc⟩ := h (by rw [sv_length] at h0; exact h0)
  refine ⟨b, off, e, fun i u hu => ?_⟩
  unfold sv at hu
  rw [List.getElem?_map] at hu
  obtain ⟨x, hx, rfl⟩ := Option.map_eq_some_iff.1 hu
  exact hc i x hx

theorem sv_one (ls : List (List UInt8)) : ∀ u ∈ sv ls, u.oneCell' = true := by
  intro u hu
  obtain ⟨x, _, rfl⟩ := List.mem_map.1 hu
  rfl

theorem st_neb {a b : List UInt8} (h : a ≠ b) : ((st a).toList == (st b).toList) = false := by
  rw [Go.Lib.toList_data, Go.Lib.toList_data, st_toList, st_toList, beq_eq_false_iff_ne]
  exact h

theorem st_at (l : List UInt8) (k : Nat) (h : k < (st l).size) : ((st l)[k]'h).toNat = (l.getD k 0).toNat := by
  have h2 : k < l.length := by rw [st_size] at h; exact h
  rw [List.getD_eq_getElem?_getD, List.getElem?_eq_getElem h2]; rfl

end Go.Proofs.Ytdahgmkbpiklpaa
