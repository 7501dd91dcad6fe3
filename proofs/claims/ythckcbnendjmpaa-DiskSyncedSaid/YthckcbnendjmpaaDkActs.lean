/-
  Acts in memory; contract of souklaw05.small.
-/
import Derived.Test.YthckcbnendjmpaaDkTwo
import Derived.Test.YthckcbnendjmpaaDkS
namespace Go.Proofs.Ythckcbnendjmpaa
open Go.RowKit Go.Lib

structure Act5 where
  kd : Nat
  at_ : Int
  nn : Int
  data : List UInt8
  ka : Option Addr
  kc : Nat
  keep : List Nat

def cA (x : Act5) : Array Value := #[.int .u8 (x.kd : Nat), .int .i8 x.at_, .int .i8 x.nn, .string (st x.data), .slice x.ka x.keep.length x.kc]

/-- a row of acts -/
def RowA (w : World) (a : Option Addr) (l : List Act5) : Prop :=
  0 < l.length → ∃ b off, a = some ⟨b, off, none⟩ ∧ ∀ i x, l[i]? = some x → ∀ j u, (cA x)[j]? = some u → w.cell? ⟨b, off + i * 5 + j, none⟩ = some u

structure ActOk (w : World) (x : Act5) : Prop where
  kd : x.kd ≤ 255
  at_ : -128 ≤ x.at_ ∧ x.at_ ≤ 127
  nn : -128 ≤ x.nn ∧ x.nn ≤ 127
  data : x.data.length ≤ 4611686018427387904
  keep : x.keep.length ≤ 4611686018427387904
  row : RowN w x.ka x.keep

theorem RowA.below {w w' : World} {a : Option Addr} {l : List Act5} (h : RowA w a l) (hb : Below w.heap.size w w') : RowA w' a l := by
  intro h0
  obtain ⟨b, off, e, hc⟩ := h h0
  refine ⟨b, off, e, fun i x hx j u hu => ?_⟩
  have c := hc i x hx j u hu
  rw [hb.cell (p := ⟨b, off + i * 5 + j, none⟩) (World.block_lt_of_cell? w _ c)]
  exact c

theorem cells5 {w : World} {b o : Nat} {x : Act5} (hc : ∀ j u, (cA x)[j]? = some u → w.cell? ⟨b, o + j, none⟩ = some u) :
    w.cell? ⟨b, o, none⟩ = some (.int .u8 (x.kd : Nat)) ∧ w.cell? ⟨b, o + 1, none⟩ = some (.int .i8 x.at_) ∧ w.cell? ⟨b, o + 2, none⟩ = some (.int .i8 x.nn) ∧ w.cell? ⟨b, o + 3, none⟩ = some (.string (st x.data)) ∧ w.cell? ⟨b, o + 4, none⟩ = some (.slice x.ka x.keep.length x.kc) :=
  ⟨hc 0 _ rfl, hc 1 _ rfl, hc 2 _ rfl, hc 3 _ rfl, hc 4 _ rfl⟩

set_option maxHeartbeats 2000000 in
theorem small5_any (a : Option Addr) (c : Nat) (l : List Act5) (w : World) (hr : RowA w a l) (ho : ∀ x ∈ l, ActOk w x) (hl : l.length ≤ 4611686018427387904) :
    Calls Try.prog 6 #[.slice a l.length c] w fun e w' => (∃ sb, e = .returned (.bool sb)) ∧ Below w.heap.size w w' := by
  obtain ⟨n, hn⟩ : ∃ n, n = l.length := ⟨_, rfl⟩
  have HN := Lib.hid hn
  rw [← hn] at hl ⊢
  have HR := Lib.hid hr
  have HO := Lib.hid ho
  clear hn hr ho
  go_enter Try.func6, Try.ntmps6
  go_wp2
  go_loopg [3, 8] n (fun gk z i wr => ∃ (j : Nat) (y : Int), j ≤ n ∧ i = .int .i64 j ∧ z = .int .i64 y ∧ n - j ≤ gk ∧ Hid (Below w.heap.size w wr))
  case atStart => exact ⟨0, 0, Nat.zero_le _, rfl, rfl, by omega, Below.refl _ _⟩
  case round =>
    obtain ⟨j, y, hj, rfl, rfl, hgk, HB⟩ := hrel
    by_cases hlt : j < n
    · obtain ⟨x, hx⟩ : ∃ x, l[j]? = some x := ⟨_, List.getElem?_eq_getElem (by rw [← HN.out]; exact hlt)⟩
      obtain ⟨b, off, ea, hc⟩ := (HR.out.below HB.out) (by rw [← HN.out]; omega)
      subst ea
      have hok := HO.out x (List.mem_of_getElem? hx)
      obtain ⟨c0, c1, c2, c3, c4⟩ := cells5 (hc j x hx)
      have hsd := st_size x.data
      have hd1 := hok.data
      have hk1 := hok.keep
      obtain ⟨kd, at_, nn, data, ka, kc, keep⟩ := x
      simp only at c0 c1 c2 c3 c4 hsd hd1 hk1
      have hjz : (0 : Int) ≤ (j : Int) := by omega
      have hjn : (j : Int) < (n : Int) := by omega
      have HB2 := Lib.hid (HB.out.alloc HB.out.size (.cells #[.int .u8 (kd : Nat), .int .i8 at_, .int .i8 nn, .string (st data), .slice ka keep.length kc] 32))
      clear hc hx hok
      go_wp2
      go_roundg (n - (j + 1))
      case measure => omega
      case rel => exact ⟨j + 1, _, by omega, by go_num, rfl, by omega, HB2.out⟩
    · have e : j = n := by omega
      subst e
      clear hgk
      go_wp2
      go_ret
      exact ⟨⟨_, rfl⟩, HB.out⟩
end Go.Proofs.Ythckcbnendjmpaa
