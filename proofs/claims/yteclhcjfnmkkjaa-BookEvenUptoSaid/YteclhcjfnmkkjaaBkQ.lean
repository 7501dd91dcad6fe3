/-
  Contracts of book.New, Book.Get, Book.Clone; of no book.
-/
import Derived.Test.YteclhcjfnmkkjaaBkJ
import Derived.Test.YteclhcjfnmkkjaaShelf
namespace Go.Proofs.Yteclhcjfnmkkjaa
open Go.RowKit Go.Lib

set_option maxHeartbeats 1000000 in
theorem new_any (w : World) : Calls Try.prog 7 #[] w fun e w' => ∃ b, e = .returned (.pointer (some ⟨b, 0, none⟩)) ∧ After [] w w' (PBk b [] 0 w') := by
  have HB : Hid (Blk (w.alloc (.cells #[.map none] 51)) w.heap.size 51 #[.map none]) := Blk.new w _ _
  have HL : Hid (Below w.heap.size w (w.alloc (.cells #[.map none] 51))) := (Below.refl _ w).alloc (Nat.le_refl _) _
  go_enter Try.func7, Try.ntmps7
  go_wp2
  go_ret
  refine ⟨_, rfl, [w.heap.size], ⟨none, 0, fun _ => none, HB.out, .inl ⟨rfl, fun _ => rfl⟩, fun a => ?_, List.Pairwise.nil, (fun x hx => by cases hx), rfl, Nat.le_refl _, rfl⟩, Stp.of_below HL.out, fun k hk => ?_⟩
  · rfl
  · rw [List.mem_singleton] at hk; rw [hk]; exact .inr (Nat.le_refl _)

set_option maxHeartbeats 1000000 in
theorem get_any (bb : Nat) (m : List Ln) (K : Nat) (a : Ac) (fp : List Nat) (w : World) (hp : PBk bb m K w fp) (ha : OkA a) :
    Calls Try.prog 14 #[.pointer (some ⟨bb, 0, none⟩), .string (st a.1), .string (st a.2.1), .string (st a.2.2)] w fun e w' => e = .returned (.int .i64 (rGet m a)) ∧ w = w' := by
  obtain ⟨mb, n, f, q1, q2, q3, q4, q5, q6, q7, q8⟩ := hp
  have hc : w.cell? ⟨bb, 0, none⟩ = some (.map mb) := q1.cell 0
  have hlk := q2.look ha
  rw [q3.getD a] at hlk
  obtain ⟨k, p, c⟩ := a
  unfold kv at hlk
  clear q1 q2 q3 q4 q5 q6 q7 q8 ha
  go_enter Try.func14, Try.ntmps14
  go_wp2
  go_ret
  exact ⟨rfl, rfl⟩

set_option maxHeartbeats 1000000 in
theorem get_nil (a b c : ByteArray) (w : World) : Calls Try.prog 14 #[.pointer none, .string a, .string b, .string c] w fun e w' => e = .returned (.int .i64 0) ∧ w = w' := by
  go_enter Try.func14, Try.ntmps14
  go_wp2
  go_ret
  exact ⟨rfl, rfl⟩
set_option maxHeartbeats 1000000 in
theorem all_nil (w : World) : Calls Try.prog 13 #[.pointer none] w fun e w' => e = .returned (.slice none 0 0) ∧ w = w' := by
  go_enter Try.func13, Try.ntmps13
  go_wp2
  go_ret
  exact ⟨rfl, rfl⟩
set_option maxHeartbeats 1000000 in
theorem clone_nil (w : World) : Calls Try.prog 8 #[.pointer none] w fun e w' => e = .returned (.pointer none) ∧ w = w' := by
  go_enter Try.func8, Try.ntmps8
  go_wp2
  go_ret
  exact ⟨rfl, rfl⟩
set_option maxHeartbeats 1000000 in
theorem post_nil (w : World) : Calls Try.prog 9 #[.pointer none, .slice none 0 0] w fun e w' => e = .returned (.int .i64 1) ∧ w = w' := by
  go_enter Try.func9, Try.ntmps9
  go_wp2
  go_ret
  exact ⟨rfl, rfl⟩

set_option maxHeartbeats 1000000 in
theorem clone_any (bb : Nat) (m : List Ln) (K : Nat) (fp : List Nat) (w : World) (hp : PBk bb m K w fp) :
    Calls Try.prog 8 #[.pointer (some ⟨bb, 0, none⟩)] w fun e w' => ∃ cb, e = .returned (.pointer (some ⟨cb, 0, none⟩)) ∧ Below w.heap.size w w' ∧ ∃ fp', PBk cb m K w' fp' ∧ ∀ k ∈ fp', w.heap.size ≤ k := by
  obtain ⟨mb, n, f, q1, q2, q3, q4, q5, q6, q7, q8⟩ := hp
  have hc : w.cell? ⟨bb, 0, none⟩ = some (.map mb) := q1.cell 0
  have HQ := Lib.hid (And.intro q3 (And.intro q4 (And.intro q5 (And.intro q6 q7))))
  rcases q2 with ⟨rfl, hf⟩ | ⟨bm, rfl, hm⟩
  · have HF := Lib.hid hf
    have H1 := Lib.hid (Try.maps_Clone_nil w)
    have HB : Hid (Blk (w.alloc (.cells #[.map none] 51)) w.heap.size 51 #[.map none]) := Blk.new w _ _
    have HL : Hid (Below w.heap.size w (w.alloc (.cells #[.map none] 51))) := (Below.refl _ w).alloc (Nat.le_refl _) _
    clear q1 q3 q4 q5 q6 q7 q8 hf
    go_enter Try.func8, Try.ntmps8
    go_wp2_with fail
    with_reducible refine H1.out.mono ?_
    rintro e w1 ⟨rfl, rfl⟩
    go_wp2
    go_ret
    obtain ⟨k1, k2, k3, k4, k5⟩ := HQ.out
    refine ⟨_, rfl, HL.out, [w1.heap.size], ⟨none, n, f, HB.out, .inl ⟨rfl, HF.out⟩, k1, k2, k3, k4, k5, rfl⟩, fun k hk => ?_⟩
    rw [List.mem_singleton] at hk; rw [hk]; exact Nat.le_refl _
  · obtain ⟨D, ⟨es, clock, hb, F, hs, hD⟩, rd⟩ := hm
    have H1 := Lib.hid (Try.maps_Clone bm es clock w hb)
    have HM : Hid (MA (w.alloc (.map es clock)) w.heap.size n f) := ⟨D, ⟨es, clock, (MapKept.heap_alloc w _).1, F, hs, hD⟩, rd⟩
    have hbk : Blk ((w.alloc (.map es clock)).alloc (.cells #[.map (some w.heap.size)] 51)) (w.heap.size + 1) 51 #[.map (some w.heap.size)] := by
      have := Blk.new (w.alloc (.map es clock)) 51 #[.map (some w.heap.size)]
      simpa using this
    have HB := Lib.hid hbk
    clear hbk
    have HM2 : Hid (MA ((w.alloc (.map es clock)).alloc (.cells #[.map (some w.heap.size)] 51)) w.heap.size n f) := HM.out.alloc _
    have HL : Hid (Below w.heap.size w ((w.alloc (.map es clock)).alloc (.cells #[.map (some w.heap.size)] 51))) := ((Below.refl _ w).alloc (Nat.le_refl _) _).alloc (by simp) _
    clear q1 q3 q4 q5 q6 q7 q8 hb F hs hD rd HM
    go_enter Try.func8, Try.ntmps8
    go_wp2_with fail
    with_reducible refine H1.out.mono ?_
    rintro e w1 ⟨rfl, rfl⟩
    go_wp2
    go_ret
    obtain ⟨k1, k2, k3, k4, k5⟩ := HQ.out
    refine ⟨_, rfl, HL.out, [w.heap.size + 1, w.heap.size], ⟨some w.heap.size, n, f, HB.out, .inr ⟨_, rfl, HM2.out⟩, k1, k2, k3, k4, k5, rfl⟩, fun k hk => ?_⟩
    simp only [List.mem_cons, List.not_mem_nil, or_false] at hk
    omega
end Go.Proofs.Yteclhcjfnmkkjaa
