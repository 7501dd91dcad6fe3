/-
  Contract of Lots.Due.
-/
import Derived.Test.YtoiiaicjlefclaaLotS
namespace Go.Proofs.Ytoiiaicjlefclaa
open Go.RowKit Go.Deep

set_option maxHeartbeats 800000 in
theorem due_nil (now : Value) (w : World) : Calls Try.prog 9 #[.pointer none, now] w fun e w' => e = .returned (.slice none 0 0) ∧ w = w' := by
  go_enter Try.func9, Try.ntmps9
  go_wp2
  go_ret
  exact ⟨rfl, rfl⟩

/-- those that are due, in a new row; the others are left -/
def DueP (B b : Nat) (now : Int) (l : List Lt) (w : World) (e : Ending) (w' : World) : Prop :=
  ∃ a c v', e = .returned (.slice a (dueL now l).length c) ∧ RowG 4 cLt w' a (dueL now l) ∧ (∀ p, a = some p → w.heap.size ≤ p.block) ∧ LotsP B w' b (restL now l) v' ∧ Stp [b] w w' ∧ ∀ k, v'.ownBlock = some k → w.heap.size ≤ k

theorem due_end {B b : Nat} {now : Int} {l : List Lt} {v v1 v2 : Value} {w wr : World} (h : LotsP B w b l v) (ht : Two14 w.heap.size 30 w wr (dueL now l) (restL now l) v1 v2) :
    DueP B b now l w (.returned v1) (wr.setCell ⟨b, 0, none⟩ v2) := by
  obtain ⟨a1, c1, q1, r1, b1, _⟩ := RowG.own cLt_len ht.one rfl
  have hlt := h.box.lt
  have hbx := h.box.since ht.below
  have hne : ∀ k, v2.ownBlock = some k → k ∉ [b] := fun k hk hm => by
    rw [List.mem_singleton] at hm
    subst hm
    have := (ht.two.lt k hk).1
    omega
  have hst := (Stp.refl [b] wr).setCell (x := ⟨b, 0, none⟩) (.inl (by simp)) v2
  refine ⟨a1, c1, v2, by rw [q1], ?_, b1, ⟨h.hb, hbx.set 0 _, own_baseG (own_stp ht.two hst hne) (Nat.le_trans h.hb (Nat.le_of_lt hlt))⟩, (Stp.of_below (fp := [b]) ht.below).setCell (.inl (by simp)) _, fun k hk => (ht.two.lt k hk).1⟩
  refine r1.stp hst fun p hp hm => ?_
  rw [List.mem_singleton] at hm
  have := b1 p hp
  omega

set_option maxHeartbeats 4000000 in
theorem due_any (now : Int) (B b : Nat) (l : List Lt) (v : Value) (w : World) (h : LotsP B w b l v) (hl : l.length ≤ 1000000) :
    Calls Try.prog 9 #[.pointer (some ⟨b, 0, none⟩), .int .i64 now] w (DueP B b now l w) := by
  have HH := Lib.hid h
  obtain ⟨a, cp, rfl, hrow⟩ := h.row
  have c0 := h.cell
  obtain ⟨n, hn⟩ : ∃ n, n = l.length := ⟨_, rfl⟩
  have HN := Lib.hid hn
  have HR := Lib.hid hrow
  rw [← hn] at hl c0
  clear hn hrow h
  go_enter Try.func9, Try.ntmps9
  go_wp2
  clear c0
  go_loopg [5, 6, 8, 16] n (fun gk z1 z2 _ i wr => ∃ (k n1 n2 : Nat) (v1 v2 : Value), k ≤ n ∧ i = .int .i64 k ∧ v1 = z1 ∧ v2 = z2 ∧ n - k ≤ gk ∧ n1 ≤ k ∧ n2 ≤ k ∧ Hid (n1 = (dueL now (l.take k)).length) ∧ Hid (n2 = (restL now (l.take k)).length) ∧ Hid (Two14 w.heap.size 30 w wr (dueL now (l.take k)) (restL now (l.take k)) v1 v2))
  case atStart => exact ⟨0, 0, 0, _, _, Nat.zero_le _, rfl, rfl, rfl, by omega, Nat.le_refl _, Nat.le_refl _, rfl, rfl, Two14.start _ _ _⟩
  case round =>
    obtain ⟨k, n1, n2, v1, v2, hk, rfl, rfl, rfl, hgk, hn1, hn2, HN1, HN2, HT⟩ := hrel
    by_cases hlt : k < n
    · obtain ⟨x, hx⟩ : ∃ x, l[k]? = some x := ⟨_, List.getElem?_eq_getElem (by rw [← HN.out]; exact hlt)⟩
      obtain ⟨p, c, m, d⟩ := x
      obtain ⟨b1, off, rfl⟩ := HR.out.form (by rw [← HN.out]; omega)
      obtain ⟨f0, f1, f2, f3⟩ := cells4 (HR.out.keep HT.out.below) hx
      have hkz : (0 : Int) ≤ (k : Int) := by omega
      have hkn : (k : Int) < (n : Int) := by omega
      have HBS : Hid (w.heap.size ≤ wr.heap.size) := HT.out.below.size
      by_cases hd : d ≤ now
      · have HY := Lib.hid (due_yes hx hd)
        have HO : Hid (wr.ownsRow w.heap.size 30 4 v1 n1 ((dueL now (l.take k)).flatMap cLt)) := by rw [HN1.out]; exact HT.out.one
        clear hx
        go_wp2_with (first | (at_builtin; refine wpList_append_wide rfl (.tmp 24) (.tmp 26) 25 30 rfl w.heap.size _ 4 48 Try.underlying25 infoLot rfl (by omega) v1 n1 _ rfl _ 1 (new_at _ _) ((HO.out.alloc _).alloc _) #[.string (st p), .string (st c), .int .i64 m, .int .i64 d] (Blk.new _ _ _) rfl (by simp [Value.oneCell']) (by unfold maxLen; omega) (by omega) (by have := HBS.out; simp; omega) ?_; intro v5 w5 h1 h2 h3; have HO5 := Lib.hid h1; have HG5 := Lib.hid h2; have HA5 := Lib.hid h3; clear h1 h2 h3) | fail)
        go_roundg (n - (k + 1))
        case measure => omega
        case rel =>
          refine ⟨k + 1, n1 + 1, n2, v5, v2, by omega, by go_num, rfl, rfl, by omega, by omega, by omega, ?_, ?_, ?_⟩
          · show _ = _; rw [HY.out.1, List.length_append, ← HN1.out]; rfl
          · show _ = _; rw [HY.out.2]; exact HN2.out
          · show Two14 _ _ _ _ _ _ _ _
            rw [HY.out.1, HY.out.2]
            exact (HT.out.keep (((Below.refl _ wr).alloc (Nat.le_refl _) _).alloc (by simp) _) HBS.out).first (x := (p, c, m, d)) (by have := HBS.out; simp; omega) (by rw [← HN1.out]; exact HO5.out) HG5.out HA5.out
      · have HY := Lib.hid (due_no hx hd)
        have HO : Hid (wr.ownsRow w.heap.size 30 4 v2 n2 ((restL now (l.take k)).flatMap cLt)) := by rw [HN2.out]; exact HT.out.two
        clear hx
        go_wp2_with (first | (at_builtin; refine wpList_append_wide rfl (.tmp 28) (.tmp 30) 25 30 rfl w.heap.size _ 4 48 Try.underlying25 infoLot rfl (by omega) v2 n2 _ rfl _ 1 (new_at _ _) ((HO.out.alloc _).alloc _) #[.string (st p), .string (st c), .int .i64 m, .int .i64 d] (Blk.new _ _ _) rfl (by simp [Value.oneCell']) (by unfold maxLen; omega) (by omega) (by have := HBS.out; simp; omega) ?_; intro v5 w5 h1 h2 h3; have HO5 := Lib.hid h1; have HG5 := Lib.hid h2; have HA5 := Lib.hid h3; clear h1 h2 h3) | fail)
        go_roundg (n - (k + 1))
        case measure => omega
        case rel =>
          refine ⟨k + 1, n1, n2 + 1, v1, v5, by omega, by go_num, rfl, rfl, by omega, by omega, by omega, ?_, ?_, ?_⟩
          · show _ = _; rw [HY.out.1]; exact HN1.out
          · show _ = _; rw [HY.out.2, List.length_append, ← HN2.out]; rfl
          · show Two14 _ _ _ _ _ _ _ _
            rw [HY.out.1, HY.out.2]
            exact (HT.out.keep (((Below.refl _ wr).alloc (Nat.le_refl _) _).alloc (by simp) _) HBS.out).second (x := (p, c, m, d)) (by have := HBS.out; simp; omega) (by rw [← HN2.out]; exact HO5.out) HG5.out HA5.out
    · have e : n = k := by omega
      have HTK : Hid (l.take k = l) := List.take_of_length_le (by rw [← HN.out]; omega)
      have ht := HT.out
      rw [HTK.out] at ht
      have HX := Lib.hid (due_end HH.out ht)
      have c0 := (HH.out.keep ht.below).cell
      have g0 := (HH.out.keep ht.below).box.frozen 0
      obtain ⟨a2, c2, rfl⟩ := own_sliceG ht.two
      clear hlt hk ht HT HN1 HN2
      subst e
      go_wp2
      go_ret
      exact HX.out
end Go.Proofs.Ytoiiaicjlefclaa
