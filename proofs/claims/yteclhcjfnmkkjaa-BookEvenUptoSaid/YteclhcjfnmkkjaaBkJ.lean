/-
  A book in memory; contract of Book.Post.
-/
import Derived.Test.YteclhcjfnmkkjaaBkI
namespace Go.Proofs.Yteclhcjfnmkkjaa
open Go.RowKit Go.Lib

theorem PMap.stp {w w' : World} {mb : Option Nat} {n : Nat} {f : Ac → Option Int} {fp : List Nat} (h : PMap w mb n f) (hs : Stp fp w w') (hn : ∀ k, mb = some k → k ∉ fp) : PMap w' mb n f := by
  rcases h with h | ⟨bm, e, h⟩
  · exact .inl h
  · exact .inr ⟨bm, e, h.stp hs (hn bm e)⟩
theorem PMap.lt {w : World} {mb : Option Nat} {n : Nat} {f : Ac → Option Int} (h : PMap w mb n f) : ∀ k, mb = some k → k < w.heap.size := by
  intro k hk
  rcases h with ⟨e, _⟩ | ⟨bm, e, h⟩
  · rw [e] at hk; cases hk
  · rw [e] at hk; injection hk with hk; rw [← hk]; exact h.lt

/-- a book: what stands; it holds at most so many -/
def PBk (bb : Nat) (m : List Ln) (K : Nat) (w : World) (fp : List Nat) : Prop :=
  ∃ (mb : Option Nat) (n : Nat) (f : Ac → Option Int), Blk w bb 51 #[.map mb] ∧ PMap w mb n f ∧ Fn m f ∧ Srt m ∧ Nz m ∧ sideL m = true ∧ n ≤ K ∧ fp = bb :: mb.toList

theorem PBk.stays (bb : Nat) (m : List Ln) (K : Nat) : Stays (PBk bb m K) where
  keep := by
    rintro w w' fp fp2 ⟨mb, n, f, h1, h2, h3, h4, h5, h6, h7, rfl⟩ hs hn
    exact ⟨mb, n, f, h1.stp hs (hn bb (by simp)), h2.stp hs (fun k hk => hn k (by simp [hk])), h3, h4, h5, h6, h7, rfl⟩
  lt := by
    rintro w fp ⟨mb, n, f, h1, h2, h3, h4, h5, h6, h7, rfl⟩ k hk
    rcases List.mem_cons.1 hk with e | hk
    · rw [e]; exact h1.lt
    · exact h2.lt k (by simpa using hk)

theorem postL_right {m l : List Ln} (h : rightL l = false) : postL m l = (m, 1) := by unfold postL; rw [h]; simp
theorem postL_even {m l : List Ln} (h : evenL l = false) : postL m l = (m, 1) := by unfold postL; rw [h]; simp
theorem postL_over {m l : List Ln} (h1 : rightL l = true) (h2 : evenL l = true) (h3 : addL m l = none) : postL m l = (m, 2) := by unfold postL; rw [h1, h2, h3]; simp
theorem postL_more {m l mk : List Ln} (h1 : rightL l = true) (h2 : evenL l = true) (h3 : addL m l = some mk) (h4 : sideL mk = false) : postL m l = (m, 10) := by unfold postL; rw [h1, h2, h3]; simp [h4]
theorem postL_ok {m l mk : List Ln} (h1 : rightL l = true) (h2 : evenL l = true) (h3 : addL m l = some mk) (h4 : sideL mk = true) : postL m l = (mk, 0) := by unfold postL; rw [h1, h2, h3]; simp [h4]

/-- nothing booked -/
theorem PBk.same {bb : Nat} {m : List Ln} {K K' : Nat} {w w' : World} {fp : List Nat} (h : PBk bb m K w fp) (hK : K ≤ K') (hb : Below w.heap.size w w') : After fp w w' (PBk bb m K' w') := by
  have h2 := (PBk.stays bb m K).since h hb
  obtain ⟨mb, n, f, q1, q2, q3, q4, q5, q6, q7, q8⟩ := h2
  exact ⟨fp, ⟨mb, n, f, q1, q2, q3, q4, q5, q6, Nat.le_trans q7 hK, q8⟩, Stp.of_below hb, fun k hk => .inl hk⟩

set_option maxHeartbeats 4000000 in
set_option maxRecDepth 100000 in
theorem post_any (bb : Nat) (m : List Ln) (K : Nat) (a : Option Addr) (c : Nat) (l : List Ln) (fp : List Nat) (w : World) (hp : PBk bb m K w fp) (hr : RowL w a l) (hl : l.length ≤ 2097152) (hk : OkLs l) (hK : K + l.length ≤ 4194304) :
    Calls Try.prog 9 #[.pointer (some ⟨bb, 0, none⟩), .slice a l.length c] w fun e w' => e = .returned (.int .i64 (postL m l).2) ∧ After fp w w' (PBk bb (postL m l).1 (K + l.length) w') := by
  have HP := Lib.hid hp
  have HR := Lib.hid hr
  have HK := Lib.hid hk
  have H1 := Lib.hid (bkright_any a c l w hr hl)
  have H2 : Hid (∀ W, Below w.heap.size w W → Calls Try.prog 21 #[.slice a l.length c] W fun e w' => e = .returned (.bool (evenL l)) ∧ Below W.heap.size W w') := fun W hb => bkeven_any a c l W (hr.keep hb) hl hk
  obtain ⟨mb, n, f, q1, q2, q3, q4, q5, q6, q7, q8⟩ := hp
  have H3 : Hid (∀ W, Below w.heap.size w W → Calls Try.prog 22 #[.pointer (some ⟨bb, 0, none⟩), .slice a l.length c] W fun e w' => AddedTo m l W.heap.size w' e ∧ Below W.heap.size W w') := fun W hb => added_any bb mb n f m a c l W (q1.since hb) (q2.since hb) q3 q4 q5 (hr.keep hb) hl hk
  have H4 : Hid (∀ (W : World) (bc : Nat) (g : Ac → Option Int) (sb : Bool), MA W bc l.length g → (sb = true ↔ SideAll g) → Calls Try.prog 23 #[.map (some bc)] W fun e w' => e = .returned (.bool sb) ∧ Below W.heap.size W w') := fun W bc g sb hm hs => may_any bc l.length g W hm sb hs
  have H5 : Hid (∀ (W : World) (bc : Nat) (g : Ac → Option Int), Below w.heap.size w W → MA W bc l.length g → w.heap.size ≤ bc → Calls Try.prog 24 #[.pointer (some ⟨bb, 0, none⟩), .map (some bc)] W fun e w' => e = .returned (.tuple #[]) ∧ KeptTo bb mb n l.length g f W w') := fun W bc g hb hg hbc =>
    keep_any bb mb n f bc l.length g W (q1.since hb) (q2.since hb) hg (fun e => by have := q2.lt bc e; omega) (by omega)
  have HQ := Lib.hid (And.intro q1 (And.intro q2 (And.intro q3 (And.intro q4 (And.intro q5 (And.intro q6 (And.intro q7 q8)))))))
  have HSame : Hid (∀ W, Below w.heap.size w W → After fp w W (PBk bb m (K + l.length) W)) := fun W hb => HP.out.same (by omega) hb
  clear q1 q2 q3 q4 q5 q6 q7 q8 hr hk
  go_enter Try.func9, Try.ntmps9
  cases h1 : rightL l with
  | false =>
    have HE : Hid (postL m l = (m, 1)) := postL_right h1
    rw [h1] at H1
    clear h1 H2 H3 H4 H5
    go_wp2_with fail
    with_reducible refine H1.out.mono ?_
    rintro e w1 ⟨rfl, hb1⟩
    have HB1 := Lib.hid hb1
    clear hb1 H1
    go_wp2
    go_ret
    rw [HE.out]
    exact ⟨rfl, HSame.out _ HB1.out⟩
  | true =>
    rw [h1] at H1
    go_wp2_with fail
    with_reducible refine H1.out.mono ?_
    rintro e w1 ⟨rfl, hb1⟩
    have HB1 := Lib.hid hb1
    have H2' := Lib.hid (H2.out w1 hb1)
    clear hb1 H1 H2
    cases h2 : evenL l with
    | false =>
      have HE : Hid (postL m l = (m, 1)) := postL_even h2
      rw [h2] at H2'
      clear h1 h2 H3 H4 H5
      go_wp2_with fail
      with_reducible refine H2'.out.mono ?_
      rintro e w2 ⟨rfl, hb2⟩
      have HB2 : Hid (Below w.heap.size w w2) := below_on HB1.out HB1.out.size hb2
      clear hb2 H2'
      go_wp2
      go_ret
      rw [HE.out]
      exact ⟨rfl, HSame.out _ HB2.out⟩
    | true =>
      rw [h2] at H2'
      go_wp2_with fail
      with_reducible refine H2'.out.mono ?_
      rintro e w2 ⟨rfl, hb2⟩
      have HB2 : Hid (Below w.heap.size w w2) := below_on HB1.out HB1.out.size hb2
      have H3' := Lib.hid (H3.out w2 HB2.out)
      clear hb2 H2' H3
      go_wp2_with fail
      with_reducible refine H3'.out.mono ?_
      rintro e w3 ⟨ha, hb3⟩
      have HB3 : Hid (Below w.heap.size w w3) := below_on HB2.out HB2.out.size hb3
      clear hb3 H3'
      rcases ha with ⟨h3, rfl⟩ | ⟨bc, mk, g, rfl, hat, hma, hbc⟩
      · have HE : Hid (postL m l = (m, 2)) := postL_over h1 h2 h3
        clear h1 h2 h3 H4 H5
        go_wp2
        go_ret
        rw [HE.out]
        exact ⟨rfl, HSame.out _ HB3.out⟩
      · have hadd : addL m l = some mk := by have := hat.add; rw [List.take_length] at this; exact this
        have hside := hat.side HQ.out.2.2.2.1 HQ.out.2.2.2.2.1 HQ.out.2.2.2.2.2.1
        have HBC : Hid (w.heap.size ≤ bc) := Nat.le_trans HB2.out.size hbc
        have H4' := Lib.hid (H4.out w3 bc g (sideL mk) hma hside)
        have HMA := Lib.hid hma
        have HAT := Lib.hid hat
        have HADD := Lib.hid hadd
        clear hat hma hbc hside hadd H4
        go_wp2_with fail
        with_reducible refine H4'.out.mono ?_
        rintro e w4 ⟨rfl, hb4⟩
        have HB4 : Hid (Below w.heap.size w w4) := below_on HB3.out HB3.out.size hb4
        have HMA4 : Hid (MA w4 bc l.length g) := HMA.out.since hb4
        clear hb4 H4' HMA
        cases h4 : sideL mk with
        | false =>
          have HE : Hid (postL m l = (m, 10)) := postL_more h1 h2 HADD.out h4
          clear h1 h2 h4 H5
          go_wp2
          go_ret
          rw [HE.out]
          exact ⟨rfl, HSame.out _ HB4.out⟩
        | true =>
          have HE : Hid (postL m l = (mk, 0)) := postL_ok h1 h2 HADD.out h4
          have HS4 := Lib.hid h4
          have H5' := Lib.hid (H5.out w4 bc g HB4.out HMA4.out HBC.out)
          clear h1 h2 h4 H5
          go_wp2_with fail
          with_reducible refine H5'.out.mono ?_
          rintro e w5 ⟨rfl, hkt⟩
          have HKT := Lib.hid hkt
          clear hkt H5'
          go_wp2
          go_ret
          rw [HE.out]
          refine ⟨rfl, ?_⟩
          obtain ⟨bm, n', f', k1, k2, k3, k4, k5, k6⟩ := HKT.out
          obtain ⟨q1, q2, q3, q4, q5, q6, q7, q8⟩ := HQ.out
          obtain ⟨s1, s2⟩ := addL_srt q4 q5 HADD.out
          refine ⟨[bb, bm], ⟨some bm, n', f', k1, .inr ⟨bm, rfl, k2⟩, HAT.out.keep q3 k4, s1, s2, HS4.out, by omega, rfl⟩, ?_, fun k hk => ?_⟩
          · rw [q8]; exact (Stp.of_below HB4.out).trans k6 (fun z hz => .inl hz)
          · rw [q8]
            rcases List.mem_cons.1 hk with e | hk
            · exact .inl (by rw [e]; simp)
            · rw [List.mem_singleton] at hk
              rcases k5 with e | ⟨_, e⟩
              · exact .inl (by rw [hk, e]; simp)
              · exact .inr (by rw [hk]; exact Nat.le_trans HB4.out.size e)
end Go.Proofs.Yteclhcjfnmkkjaa
