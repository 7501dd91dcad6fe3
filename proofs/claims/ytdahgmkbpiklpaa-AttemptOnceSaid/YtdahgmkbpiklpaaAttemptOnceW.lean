/-
  The walk of souklaw17.AttemptOnce.
-/
import Derived.Test.YtdahgmkbpiklpaaAtM
namespace Go.Proofs.Ytdahgmkbpiklpaa
open Go.RowKit Go.Deep Go.Lib

set_option maxHeartbeats 1600000 in
theorem once17_many (M : Nat) (ad : Option Addr) (n cp : Nat) (w : World) (hn : 300 < n) :
    Calls Try.prog 4 #[.int .u32 (M : Int), .slice ad n cp] w fun e w' => e = .returned (.bool true) ∧ Below w.heap.size w w' := by
  have HL := Lib.hid lives17_any
  have hgt : (300 : Int) < (n : Int) := by omega
  clear hn
  go_enter Try.func4, Try.ntmps4
  go_wp2_with fail
  refine (HL.out _).mono ?_
  rintro e w1 ⟨rfl, hb⟩
  have HB := Lib.hid hb
  clear hb
  go_wp2_with fail
  refine (HL.out _).mono ?_
  rintro e w2 ⟨rfl, hb⟩
  have HB2 := Lib.hid (bel_onG HB.out HB.out.size hb)
  clear hb HL
  go_wp2
  go_ret
  exact ⟨rfl, HB2.out⟩

set_option maxHeartbeats 6400000 in
set_option maxRecDepth 100000 in
theorem once17_few (M : Nat) (ad : Option Addr) (cp : Nat) (xs : List Nat) (w : World) (hM : M ≤ 4294967295) (hr : RowG 1 cU8 w ad xs) (hx : ∀ x ∈ xs, x ≤ 255) (hn : xs.length ≤ 300) :
    Calls Try.prog 4 #[.int .u32 (M : Int), .slice ad xs.length cp] w fun e w' => e = .returned (.bool true) ∧ Below w.heap.size w w' := by
  have HL := Lib.hid lives17_any
  have HR := Lib.hid hr
  have HX := Lib.hid hx
  obtain ⟨S, hS⟩ : ∃ S, S = runR (fun i => xs.getD i 0) 0 ⟨py0 (M : Int), [], []⟩ xs.length := ⟨_, rfl⟩
  have HSE := Lib.hid hS
  have HQL : Hid (S.Q.length ≤ 1000000) := by
    show _ ≤ _
    have h := (run_few (f := fun i => xs.getD i 0) (fr := 0) (M := 0) (s := ⟨py0 (M : Int), [], []⟩) (by unfold Bd py0; simp only; omega) xs.length).2.2
    rw [hS]
    simp only [List.length_nil] at h
    omega
  have HINV : Hid (Inv (M : Int) S.p S.L S.Q) := by rw [hS]; exact Inv.run (s := ⟨py0 (M : Int), [], []⟩) (Inv.start _) _
  obtain ⟨n, hnn⟩ : ∃ n, n = xs.length := ⟨_, rfl⟩
  have HN := Lib.hid hnn
  rw [← hnn] at hn ⊢
  have hgt : ¬ (300 : Int) < (n : Int) := by omega
  have HM := Lib.hid hM
  have hm0 : (0 : Int) ≤ (M : Int) := by omega
  have hm1 : (M : Int) ≤ 4294967295 := by omega
  clear hr hx hnn hS
  go_enter Try.func4, Try.ntmps4
  go_wp2_with fail
  refine (HL.out _).mono ?_
  rintro e w1 ⟨rfl, hb⟩
  have HG1 := Lib.hid (GB.new hb)
  clear hb HL
  obtain ⟨b, hb⟩ : ∃ b, b = w1.heap.size := ⟨_, rfl⟩
  obtain ⟨w2, hw2⟩ : ∃ w2, w2 = w1.alloc (.cells #[.slice none 0 0, .slice none 0 0] 46) := ⟨_, rfl⟩
  have HRUN : Hid (Calls Try.prog 14 #[.pointer (some ⟨b, 0, none⟩), .agg #[.string ⟨#[107]⟩, .string ⟨#[97, 110, 110]⟩, .string ⟨#[69, 85, 82]⟩, .int .i64 (M : Int), .string ⟨#[114, 101, 97, 100, 121]⟩, .int .i64 0, .int .i64 0, .int .i64 0], .int .i64 0, .slice ad n cp] w2 fun e w' => e = .returned (.agg (cPy S.p).toArray) ∧ Turned 46 63 59 w.heap.size b (.slice none 0 0) (.slice none 0 0) S.L S.Q w2 w') := by
    obtain ⟨hr2, ho2⟩ := HG1.out.apart HR.out
    rw [hb, hw2]
    have h := run_any w.heap.size w1.heap.size [] [] _ _ kK kAnn kEur (M : Int) kReady 0 0 0 0 ad cp xs _ HG1.out.gate hr2 HX.out ho2 (by rw [← HN.out]; omega) (by unfold Bd; simp only; omega) (by simp) (by simp) ⟨by decide, by decide⟩ S HSE.out
    rw [← HN.out] at h
    exact h
  rw [← hb, ← hw2] at HG1
  clear HSE HX HR
  obtain ⟨⟨k2, q2, c2, m2, s2, n2, t2, a2⟩, L, Q⟩ := S
  have HRUN : Hid (Calls Try.prog 14 #[.pointer (some ⟨b, 0, none⟩), .agg #[.string ⟨#[107]⟩, .string ⟨#[97, 110, 110]⟩, .string ⟨#[69, 85, 82]⟩, .int .i64 (M : Int), .string ⟨#[114, 101, 97, 100, 121]⟩, .int .i64 0, .int .i64 0, .int .i64 0], .int .i64 0, .slice ad n cp] w2 fun e w' => e = .returned (.agg #[.string (st k2), .string (st q2), .string (st c2), .int .i64 m2, .string (st s2), .int .i64 n2, .int .i64 t2, .int .i64 a2]) ∧ Turned 46 63 59 w.heap.size b (.slice none 0 0) (.slice none 0 0) L Q w2 w') := HRUN
  have HQL : Hid (Q.length ≤ 1000000) := HQL
  have HINV : Hid (Inv (M : Int) ⟨k2, q2, c2, m2, s2, n2, t2, a2⟩ L Q) := HINV
  go_wp2_with fail
  rw [← hb, ← hw2]
  clear hb hw2
  refine HRUN.out.mono ?_
  rintro e w3 ⟨rfl, ht⟩
  obtain ⟨x1, x2, hg3⟩ := HG1.out.turn ht
  have HG4 := Lib.hid (hg3.keep ((Below.refl _ w3).alloc (Nat.le_refl _) (.cells #[.string (st k2), .string (st q2), .string (st c2), .int .i64 m2, .string (st s2), .int .i64 n2, .int .i64 t2, .int .i64 a2] 23)))
  have HPB : Hid (Blk (w3.alloc (.cells #[.string (st k2), .string (st q2), .string (st c2), .int .i64 m2, .string (st s2), .int .i64 n2, .int .i64 t2, .int .i64 a2] 23)) w3.heap.size 23 #[.string (st k2), .string (st q2), .string (st c2), .int .i64 m2, .string (st s2), .int .i64 n2, .int .i64 t2, .int .i64 a2]) := Blk.new w3 _ _
  obtain ⟨pb, hpb⟩ : ∃ pb, pb = w3.heap.size := ⟨_, rfl⟩
  rw [← hpb] at HPB
  obtain ⟨f1, f2, f3⟩ := HINV.out.few
  have HMV0 : ∀ y1 y2 W Q', GateP 46 63 59 w.heap.size W b L Q' y1 y2 → Calls Try.prog 15 #[.pointer (some ⟨b, 0, none⟩), .string ⟨#[107]⟩] W fun e w' => e = .returned (.tuple #[.int .i64 (mvS L), .int .i64 (mvN L)]) ∧ Below W.heap.size W w' := fun y1 y2 W Q' hg => moved_any w.heap.size b L Q' y1 y2 W hg f1 f2 (fun x hx => by rw [f3 x hx]; have := HM.out; omega)
  obtain ⟨sv, hsv⟩ : ∃ sv, sv = mvS L := ⟨_, rfl⟩
  obtain ⟨nv, hnv⟩ : ∃ nv, nv = mvN L := ⟨_, rfl⟩
  rw [← hsv, ← hnv] at HMV0
  have HMV := Lib.hid HMV0
  have HSV := Lib.hid hsv
  have HNV := Lib.hid hnv
  clear ht hg3 f1 f2 f3 HMV0 hsv hnv HRUN HG1
  go_wp2_with fail
  refine (HMV.out _ _ _ _ HG4.out.gate).mono ?_
  rintro e w5 ⟨rfl, hb5⟩
  have HG5 := Lib.hid (HG4.out.keep hb5)
  have HPB5 := Lib.hid (HPB.out.since hb5)
  try rw [← hpb]
  obtain ⟨c0, c1, c2', c3, c4, c5, c6, c7⟩ := HPB5.out.cells8
  clear hb5 HG4 HPB hpb c0 c1 c2' c3 c5 c6 c7
  by_cases h1 : s2 = kPaid
  · have p1 : ((st s2).toList == [112, 97, 105, 100]) = true := txt_t h1
    have hL := HINV.out.acc (HINV.out.paid h1)
    obtain rfl : sv = (M : Int) := by rw [HSV.out, hL]; rfl
    obtain rfl : nv = 1 := by rw [HNV.out, hL]; rfl
    clear h1 hL HSV HNV HINV HMV
    go_wp2
    go_ret
    exact ⟨rfl, HG5.out.below⟩
  · have p1 : ((st s2).toList == [112, 97, 105, 100]) = false := txt_f h1
    by_cases h2 : s2 = kBack
    · have p2 : ((st s2).toList == [98, 97, 99, 107]) = true := txt_t h2
      have hL := HINV.out.dec (HINV.out.back h2)
      obtain rfl : sv = 0 := by rw [HSV.out, hL]; rfl
      obtain rfl : nv = 0 := by rw [HNV.out, hL]; rfl
      have hql : Q.length ≤ 1000000 := HQL.out
      have hask : askL (kPay, kK, [], [], (M : Int), 0) (1 % 8) L = L := by
        rw [hL]
        unfold askL
        rw [if_neg (by unfold offB; simp [kPay]), recs_has rfl]
      have h0 := ask_any w.heap.size b L Q x1 x2 (kPay, kK, [], [], (M : Int), 0) 1 w5 HG5.out.gate (by rw [hL]; simp) hql (by decide)
      rw [hask] at h0
      have HASK : Hid (Calls Try.prog 16 #[.pointer (some ⟨b, 0, none⟩), .agg #[.string ⟨#[112, 97, 121]⟩, .string ⟨#[107]⟩, .string ⟨#[]⟩, .string ⟨#[]⟩, .int .i64 (M : Int), .int .i64 0], .int .u8 1] w5 fun e w' => ∃ ar cp Q', e = .returned (.slice ar (askA (kPay, kK, [], [], (M : Int), 0) (1 % 8) L).length cp) ∧ Turned 46 63 59 w.heap.size b x1 x2 L Q' w5 w') := h0.mono fun e w' ⟨ar, cp, he, _, _, ht⟩ => ⟨ar, cp, _, he, ht⟩
      clear h1 h2 hL HSV HNV HINV hql hask h0
      go_wp2_with fail
      refine HASK.out.mono ?_
      rintro e w6 ⟨ar, acp, Q2, rfl, ht⟩
      obtain ⟨z1, z2, hg6⟩ := HG5.out.turn ht
      have HG6 := Lib.hid hg6
      clear ht hg6 HG5 HASK
      go_wp2_with fail
      refine (HMV.out _ _ _ _ HG6.out.gate).mono ?_
      rintro e w7 ⟨rfl, hb7⟩
      have HG7 := Lib.hid (HG6.out.keep hb7)
      clear hb7 HG6
      go_wp2
      go_ret
      exact ⟨rfl, HG7.out.below⟩
    · have p2 : ((st s2).toList == [98, 97, 99, 107]) = false := txt_f h2
      have hv : (sv = 0 ∧ nv = 0) ∨ (sv = (M : Int) ∧ nv = 1) := by
        rcases HINV.out.rc with hL | ⟨mv, hL⟩
        · exact .inl ⟨by rw [HSV.out, hL]; rfl, by rw [HNV.out, hL]; rfl⟩
        · cases mv with
          | true => exact .inr ⟨by rw [HSV.out, hL]; rfl, by rw [HNV.out, hL]; rfl⟩
          | false => exact .inl ⟨by rw [HSV.out, hL]; rfl, by rw [HNV.out, hL]; rfl⟩
      clear HSV HNV HINV HMV h1 h2
      rcases hv with ⟨rfl, rfl⟩ | ⟨rfl, rfl⟩
      · go_wp2
        go_ret
        exact ⟨rfl, HG5.out.below⟩
      · go_wp2
        go_ret
        exact ⟨rfl, HG5.out.below⟩

theorem once17_walk (M : Nat) (ad : Option Addr) (cp n : Nat) (xs : List Nat) (w : World) (hl : xs.length = n) (hM : M ≤ 4294967295) (hr : RowG 1 cU8 w ad xs) (hx : ∀ x ∈ xs, x ≤ 255) :
    Calls Try.prog 4 #[.int .u32 (M : Int), .slice ad n cp] w fun e w' => e = .returned (.bool true) ∧ Below w.heap.size w w' := by
  subst hl
  by_cases h : xs.length ≤ 300
  · exact once17_few M ad cp xs w hM hr hx h
  · exact once17_many M ad _ cp w (by omega)
end Go.Proofs.Ytdahgmkbpiklpaa
