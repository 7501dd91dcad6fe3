/-
  Contracts of journal.Open, Journal.Len, Left.
-/
import Derived.Test.YtbpklikmldpeiaaJnCMA
import Derived.Test.YtbpklikmldpeiaaJnAMA
namespace Go.Proofs.Ytbpklikmldpeiaa
open Go.RowKit Go.Lib

/-- the program's journal, as a part of memory: its box, and its disk -/
def PJr (jb b : Nat) (s : DS) (n u : Nat) : World → List Nat → Prop := Sep (BlkR jb 70 #[.pointer (some ⟨b, 0, none⟩), .int .i64 n, .int .i64 u]) (PDr b s)
theorem PJr.stays (jb b : Nat) (s : DS) (n u : Nat) : Stays (PJr jb b s n u) := Stays.sep (BlkR.stays _ _ _) (PDr.stays _ _)
theorem PJr.box {jb b : Nat} {s : DS} {n u : Nat} {w : World} {fp : List Nat} (h : PJr jb b s n u w fp) : Blk w jb 70 #[.pointer (some ⟨b, 0, none⟩), .int .i64 n, .int .i64 u] := by
  obtain ⟨f1, f2, h1, _⟩ := h
  exact h1.1
theorem PJr.disk {jb b : Nat} {s : DS} {n u : Nat} {w : World} {fp : List Nat} (h : PJr jb b s n u w fp) : ∃ f, PDr b s w f := by
  obtain ⟨f1, f2, _, h2, _⟩ := h
  exact ⟨f2, h2⟩
theorem PDr.ok {b : Nat} {s : DS} {w : World} {fp : List Nat} (h : PDr b s w fp) : s.Ok := PD.ok h

theorem jnLen_nil (w : World) : Calls Try.prog 14 #[.pointer none] w fun e w' => e = .returned (.int .i64 0) ∧ w = w' := by
  go_enter Try.func14, Try.ntmps14
  go_wp2
  go_ret
  exact ⟨rfl, rfl⟩
theorem jnLeft_nil (w : World) : Calls Try.prog 15 #[.pointer none] w fun e w' => e = .returned (.int .i64 0) ∧ w = w' := by
  go_enter Try.func15, Try.ntmps15
  go_wp2
  go_ret
  exact ⟨rfl, rfl⟩
theorem jnLen_any (jb b : Nat) (s : DS) (n u : Nat) (fp : List Nat) (w : World) (h : PJr jb b s n u w fp) :
    Calls Try.prog 14 #[.pointer (some ⟨jb, 0, none⟩)] w fun e w' => e = .returned (.int .i64 n) ∧ w = w' := by
  have c1 : w.cell? ⟨jb, 1, none⟩ = some (.int .i64 n) := h.box.cell 1
  clear h
  go_enter Try.func14, Try.ntmps14
  go_wp2
  go_ret
  exact ⟨rfl, rfl⟩
theorem jnLeft_any (jb b : Nat) (s : DS) (n u : Nat) (fp : List Nat) (w : World) (h : PJr jb b s n u w fp) (hu : u ≤ s.bl.length) :
    Calls Try.prog 15 #[.pointer (some ⟨jb, 0, none⟩)] w fun e w' => e = .returned (.int .i64 ((s.bl.length : Int) - (u : Int))) ∧ ∃ q, w' = w.drewN q := by
  have c0 : w.cell? ⟨jb, 0, none⟩ = some (.pointer (some ⟨b, 0, none⟩)) := h.box.cell 0
  have c2 : w.cell? ⟨jb, 2, none⟩ = some (.int .i64 u) := h.box.cell 2
  obtain ⟨f, hd⟩ := h.disk
  have hn := hd.ok.len
  obtain ⟨m, hm⟩ : ∃ m, m = s.bl.length := ⟨_, rfl⟩
  have H1 : ∀ q, Hid (Calls Try.prog 36 #[.pointer (some ⟨b, 0, none⟩)] (w.drewN q) fun e w' => e = .returned (.int .i64 (s.bl.length : Nat)) ∧ w' = w.drewN q) := fun q =>
    (len_any 0 b s f (w.drewN q) ((PDr.stays b s).since hd ⟨rfl, rfl, rfl, Nat.le_refl _, fun _ _ => rfl⟩)).mono (by rintro e w' ⟨rfl, rfl⟩; exact ⟨rfl, rfl⟩)
  rw [← hm] at hn hu H1 ⊢
  clear h hm hd
  go_enter Try.func15, Try.ntmps15
  go_wp2
  go_quiet ((go_at_call 36; exact Calls.quiet_of_same (H1 _).out))
  go_wp2
  go_ret
  exact ⟨rfl, _, rfl⟩

theorem open_nil (w : World) : Calls Try.prog 10 #[.pointer none] w fun e w' => e = .returned (.tuple #[.pointer none, .slice none 0 0, .int .i64 1]) ∧ w = w' := by
  go_enter Try.func10, Try.ntmps10
  go_wp2
  go_ret3
  exact ⟨rfl, rfl⟩

/-- what Open finds and makes -/
structure OpX where
  ps : List (List UInt8)
  u : Nat
  jb : Nat
  v : Value

def OpE (s : DS) (x : OpX) (e : Ending) : Prop :=
  Recs 0 s.bl x.ps x.u ∧ e = .returned (if (s.clear x.u).2 = 0 then .tuple #[.pointer (some ⟨x.jb, 0, none⟩), x.v, .int .i64 0] else .tuple #[.pointer none, .slice none 0 0, .int .i64 (s.clear x.u).2])
def OpP (b : Nat) (s : DS) (x : OpX) : World → List Nat → Prop :=
  if (s.clear x.u).2 = 0 then Sep (PJr x.jb b (s.clear x.u).1 x.ps.length x.u) (TxR x.v x.ps) else PDr b (s.clear x.u).1

set_option maxHeartbeats 2000000 in
set_option maxRecDepth 100000 in
theorem open_any (b : Nat) (s : DS) (fp : List Nat) (w : World) (h : PDr b s w fp) (hp : s.pe = []) (hd : s.dead = false) :
    Calls Try.prog 10 #[.pointer (some ⟨b, 0, none⟩)] w fun e w' => ∃ x, OpE s x e ∧ After fp w w' (OpP b s x w') := by
  have H1 := dead_any 0 b s fp w h
  rw [hd] at H1
  have H1 := Lib.hid H1
  have H2 := Lib.hid (readAll_any b s fp w h hp hd)
  have hlen := h.ok.len
  have HPE : Hid (s.pe.length ≤ 100000) := by show _ ≤ _; rw [hp]; decide
  have HA := Lib.hid (After.start fp h)
  clear h hp hd
  go_enter Try.func10, Try.ntmps10
  go_wp2_with fail
  with_reducible refine H1.out.mono ?_
  rintro e w1 ⟨rfl, rfl⟩
  go_wp2_with fail
  with_reducible refine H2.out.mono ?_
  rintro e w1 ⟨g, n, hn, rfl, hown, hb1⟩
  rw [hn] at hown
  obtain ⟨hr1, hf1⟩ := TxR.of hown
  rw [← hn] at hr1 hf1 hlen
  have HA1 := Lib.hid (HA.out.fresh (PDr.stays b s) hb1 hr1 hf1)
  have HN := Lib.hid hn
  have hrow := hr1.row
  have H3 := records_some g 0 n s.bl w1 hrow (by rw [← hn]; exact hlen) (by omega) (by omega)
  rw [← hn] at H3
  have H3 := Lib.hid H3
  clear hown hr1 hf1 hb1 hrow H1 H2 HA hn
  go_wp2_with fail
  with_reducible refine H3.out.mono ?_
  rintro e w2 ⟨ps, u, v, hrecs, rfl, hb2, hown⟩
  obtain ⟨hr2, hf2⟩ := TxR.of hown
  have HA2 := Lib.hid (HA1.out.fresh (Stays.sep (PDr.stays b s) (TxR.stays _ _)) hb2 hr2 hf2)
  have hu : u ≤ n := by rw [HN.out]; exact hrecs.lead.le
  have HRC := Lib.hid hrecs
  have hfew := hrecs.lead.few
  obtain ⟨va, vc, rfl⟩ := hr2.form
  have H4 := Lib.hid (HA2.out.call1 (f := 31) (args := #[.pointer (some ⟨b, 0, none⟩), .slice (some ⟨g, 0, none⟩) n n, .int .i64 u]) (p := Try.prog) fun fp hp => Sep.callL1 (TxR.stays _ _) hp fun f hf => clear_any b u n n (some ⟨g, 0, none⟩) s f w2 hf HN.out hu HPE.out)
  obtain ⟨t, ht⟩ : ∃ t, t = (s.clear u).2 := ⟨_, rfl⟩
  rw [← ht] at H4
  have HT := Lib.hid ht
  obtain ⟨m, hm⟩ : ∃ m, m = ps.length := ⟨_, rfl⟩
  rw [← hm] at hfew ⊢
  have HM := Lib.hid hm
  clear hown hr2 hf2 hb2 hrecs H3 ht hm
  by_cases h0 : t = 0
  · subst h0
    go_wp2_with fail
    with_reducible refine H4.out.mono ?_
    rintro e w3 ⟨rfl, ha3⟩
    have HA3 : Hid (After fp w w3 (Sep (PDr b (s.clear u).1) (TxR (.slice va ps.length vc) ps) w3)) := ha3.go fun fp hp => Sep.goL (TxR.stays _ _) hp fun f hf => (After.start f hf).left
    clear ha3 H4
    go_wp2
    go_ret3
    refine ⟨⟨ps, u, w3.heap.size, .slice va ps.length vc⟩, ⟨HRC.out, ?_⟩, ?_⟩
    · rw [if_pos HT.out.symm, ← HM.out]; rfl
    · unfold OpP
      rw [if_pos HT.out.symm]
      have hb := (Below.refl w3.heap.size w3).alloc (Nat.le_refl _) (.cells #[.pointer (some ⟨b, 0, none⟩), .int .i64 m, .int .i64 u] 70)
      have hbl : BlkR w3.heap.size 70 #[.pointer (some ⟨b, 0, none⟩), .int .i64 m, .int .i64 u] (w3.alloc (.cells #[.pointer (some ⟨b, 0, none⟩), .int .i64 m, .int .i64 u] 70)) [w3.heap.size] := ⟨Blk.new w3 _ _, rfl⟩
      have := (HA3.out.fresh (Stays.sep (PDr.stays _ _) (TxR.stays _ _)) hb hbl (fun k hk => by rw [List.mem_singleton] at hk; rw [hk]; exact Nat.le_refl _)).swap.into fun _ hp => hp.assoc'
      simp only
      rw [← HM.out] at this ⊢
      exact this
  · have tn : (t == 0) = false := by rw [beq_eq_false_iff_ne]; exact h0
    have HT2 : Hid (¬ (s.clear u).2 = 0) := by rw [← HT.out]; exact h0
    clear h0
    go_wp2_with fail
    with_reducible refine H4.out.mono ?_
    rintro e w3 ⟨rfl, ha3⟩
    have HA3 := Lib.hid ha3.left.left
    clear ha3 H4
    go_wp2
    go_ret3
    refine ⟨⟨ps, u, 0, .slice va ps.length vc⟩, ⟨HRC.out, ?_⟩, ?_⟩
    · rw [if_neg HT2.out, ← HT.out]; rfl
    · unfold OpP
      rw [if_neg HT2.out]
      exact HA3.out
end Go.Proofs.Ytbpklikmldpeiaa
