/-
  Contract of plan.Show.
-/
import Derived.Test.YtjegfoeempojiaaDoorPlnT
import Derived.Test.YtjegfoeempojiaaDoorPlnU
import Derived.Test.YtjegfoeempojiaaDoorPlnV
import Derived.Test.YtjegfoeempojiaaDoorBdF
namespace Go.Proofs.YtjegfoeempojiaaDoor
open Go.RowKit Go.Maps

theorem prsF_facts : ∀ (f : Nat) (ts : Tks) (k : Nat), (∀ p x, prsF f ts k = .error (p, x) → x ≠ 0) ∧ ∀ l, prsF f ts k = .ok l → l.length ≤ f := by
  intro f
  induction f with
  | zero => intro ts k; exact ⟨fun p x h => (by cases h), fun l h => (by injection h with h; rw [← h]; simp)⟩
  | succ f ih =>
    intro ts k
    cases ts with
    | nil => exact ⟨fun p x h => (by cases h), fun l h => (by injection h with h; rw [← h]; simp)⟩
    | cons t r =>
      simp only [prsF]
      split
      · exact ⟨fun p x h => (by injection h with h; injection h with _ h; omega), fun l h => (by cases h)⟩
      · split
        · exact ⟨fun p x h => (by injection h with h; injection h with _ h; omega), fun l h => (by cases h)⟩
        · split
          · exact ⟨fun p x h => (by injection h with h; injection h with _ h; omega), fun l h => (by cases h)⟩
          · obtain ⟨i1, i2⟩ := ih ((t :: r).drop (endI (t :: r) + 1)) (k + 1)
            constructor
            · intro p x h
              cases hp : prsF f ((t :: r).drop (endI (t :: r) + 1)) (k + 1) with
              | ok u => rw [hp] at h; cases h
              | error z =>
                rw [hp] at h
                injection h with h
                exact i1 p x (by rw [hp, h])
            · intro l h
              obtain ⟨u, hu, rfl⟩ := prepR_ok h
              have := i2 u hu
              simp
              omega
theorem prL_errno {s : List UInt8} {p x : Nat} (h : prL s = .error (p, x)) : x ≠ 0 := by
  unfold prL at h
  split at h
  · rename_i e he
    injection h with h
    rw [h] at he
    exact tokL_errno he
  · exact (prsF_facts _ _ _).1 p x h
theorem prL_len {s : List UInt8} {u : List Rl} (h : prL s = .ok u) : u.length ≤ s.length := by
  unfold prL at h
  split at h
  · cases h
  · rename_i ts hts
    exact Nat.le_trans ((prsF_facts _ _ _).2 u h) (tokL_len hts).1

/-- what rules may be here -/
structure OkRs (l : List Rl) : Prop where
  ok : ∀ r ∈ l, OkR r ∧ r.1.length ≤ 1000000000 ∧ r.2.1.length ≤ 1000000000
  len : l.length ≤ 1000000000
  txt : ∀ k, (textI (l.take k)).length ≤ 100000000
  one : ∀ r ∈ l, (lineI r).length ≤ 100000000

/-- what Show answers -/
def showV (o : Option (List UInt8)) : Value :=
  match o with
  | some s => .tuple #[.string (st s), .int .i64 0]
  | none => .tuple #[.string ⟨#[]⟩, .int .i64 1]

set_option maxHeartbeats 4000000 in
set_option maxRecDepth 100000 in
theorem pshow_any (a : Option Addr) (c : Nat) (l : List Rl) (w : World) (hr : RowK cR w a l) (hok : OkRs l) (ht : Tab w) :
    Calls Tryd.prog 7 #[.slice a l.length c] w fun e w' => e = .returned (showV (showL l)) ∧ Below w.heap.size w w' := by
  obtain ⟨n, hn⟩ : ∃ n, n = l.length := ⟨_, rfl⟩
  have HN := Lib.hid hn
  have HR := Lib.hid hr
  have HOK := Lib.hid hok
  have HT := Lib.hid ht
  obtain ⟨B, hB⟩ : ∃ B, B = w.heap.size := ⟨_, rfl⟩
  have HB0 := Lib.hid hB
  have hnl : n ≤ 1000000000 := by rw [hn]; exact hok.len
  rw [← hn, ← hB]
  have HBd0 : Hid (BdAt (w.alloc (.cells #[.pointer none, .slice none 0 0] 43)) B B (textI (l.take 0))) := by rw [hB]; exact BdAt.new w
  have HBl0 : Hid (Below B w (w.alloc (.cells #[.pointer none, .slice none 0 0] 43))) := by rw [hB]; exact (Below.refl _ w).alloc (Nat.le_refl _) _
  clear hn hr hok ht
  go_enter Tryd.func7, Tryd.ntmps7
  go_wp2
  rw [← hB]
  clear hB
  go_loopg [6, 13] n (fun gk _ iv wr => ∃ k : Nat, k ≤ n ∧ iv = .int .i64 k ∧ n - k ≤ gk ∧ Hid (BdAt wr B B (textI (l.take k))) ∧ Hid (Below B w wr))
  case atStart => exact ⟨0, Nat.zero_le _, rfl, by omega, HBd0, HBl0⟩
  case round =>
    clear HBd0 HBl0
    obtain ⟨k, hk, rfl, hgk, HBd, HB⟩ := hrel
    have HBs : Hid (B ≤ wr.heap.size) := by have := HB.out.size; have := HB0.out; show _ ≤ _; omega
    by_cases hlt : k < n
    case' pos =>
      obtain ⟨x, hx⟩ : ∃ x, l[k]? = some x := ⟨_, List.getElem?_eq_getElem (by rw [← HN.out]; exact hlt)⟩
      obtain ⟨b, off, rfl⟩ := HR.out.form (by rw [← HN.out]; omega)
      obtain ⟨c0, c1, c2, c3⟩ := cells4 (HR.out.keep (HB0.out ▸ HB.out)) hx rfl
      have hkz : (0 : Int) ≤ (k : Int) := by omega
      have hkn : (k : Int) < (n : Int) := by omega
      have hxm := List.mem_of_getElem? hx
      have hox := HOK.out.ok x hxm
      have H1 : ∀ W, Hid (Below B w W → Calls Tryd.prog 13 #[.agg #[.string (st x.1), .string (st x.2.1), .int .i64 x.2.2.1, .int .i64 x.2.2.2]] W fun e w' => e = .returned (.string (st (lineI x))) ∧ Below W.heap.size W w') := fun W hW => line_any x W hox.1 hox.2.1 hox.2.2 (HT.out.keep (HB0.out ▸ hW))
      have HTX : Hid (textI (l.take (k + 1)) = textI (l.take k) ++ lineI x) := textI_take hx
      have hl1 := HOK.out.txt k
      have hl2 := HOK.out.one x hxm
      have H2 : ∀ W, Hid (BdAt W B B (textI (l.take k)) → B ≤ W.heap.size → Calls Tryd.prog 12 #[.pointer (some ⟨B, 0, none⟩), .string (st (lineI x))] W fun e w' => e = .returned (.tuple #[.int .i64 (lineI x).length, .nilIface]) ∧ BdAt w' B B (textI (l.take k) ++ lineI x) ∧ Below B W w') := fun W hW hs => bdWrite_any B B _ _ W hW (by omega) hs
      clear hx hxm hox hl1 hl2
      go_wp2_with (first
        | (go_at_call 13; (refine ((H1 _).out (HB.out.alloc HBs.out _)).mono ?_); rintro e w2 ⟨rfl, hb⟩; have HB2 := Lib.hid (bel_on (HB.out.alloc HBs.out _) (Nat.le_trans HBs.out (by simp)) hb); have HBd2 := Lib.hid ((HBd.out.keep ((Below.refl _ wr).alloc (Nat.le_refl _) _)).keep hb); have HS2 := Lib.hid (Nat.le_trans HBs.out (Nat.le_trans (by simp) hb.size) : B ≤ w2.heap.size); clear hb)
        | (go_at_call 12; (refine ((H2 _).out HBd2.out HS2.out).mono ?_); rintro e w3 ⟨rfl, hbd, hb⟩; have HBd3 := Lib.hid hbd; have HB3 := Lib.hid (HB2.out.trans hb); clear hbd hb)
        | fail)
      go_roundg (n - (k + 1))
      case measure => omega
      case rel => exact ⟨k + 1, by omega, by go_num, by omega, by rw [HTX.out]; exact HBd3, HB3⟩
    case' neg =>
      have e : k = n := by omega
      have hkn : ¬ ((k : Int) < (n : Int)) := by omega
      obtain ⟨T, hT⟩ : ∃ T, T = textI l := ⟨_, rfl⟩
      have HTE := Lib.hid hT
      have hbd : BdAt wr B B T := by
        have h := HBd.out
        rw [List.take_of_length_le (by rw [← HN.out, e]; exact Nat.le_refl _), ← hT] at h
        exact h
      have HTl : Hid (T.length ≤ 100000000) := by
        have h := HOK.out.txt n
        rw [List.take_of_length_le (by rw [← HN.out]; exact Nat.le_refl _), ← hT] at h
        exact h
      have HS := Lib.hid (bdString_any B B T wr hbd HBs.out)
      clear e HBd hbd hT
      cases hp : prL T with
      | error px =>
        obtain ⟨p, x⟩ := px
        have hx := prL_errno hp
        have hx2 : ¬ ((x : Int) = 0) := by omega
        have HSH : Hid (showL l = none) := showL_err (by rw [← HTE.out]; exact hp)
        have HP : ∀ W, Hid (Calls Tryd.prog 9 #[.string (st T)] W fun e w' => e = .returned (.tuple #[.slice none 0 0, .int .i64 (p : Int), .int .i64 (x : Int)]) ∧ Below W.heap.size W w') := fun W => by
          have := parse_any T W (Nat.le_trans HTl.out (by decide))
          rw [hp] at this
          exact this
        clear hp hx
        go_wp2_with (first
          | (go_at_call 14; (refine HS.out.mono ?_); rintro e w2 ⟨rfl, hb⟩; have HB2 := Lib.hid (HB.out.trans hb); have HS2 := Lib.hid (Nat.le_trans HBs.out hb.size : B ≤ w2.heap.size); clear hb)
          | (go_at_call 9; (refine (HP _).out.mono ?_); rintro e w3 ⟨rfl, hb⟩; have HB3 := Lib.hid (bel_on HB2.out HS2.out hb); clear hb)
          | fail)
        go_ret2
        refine ⟨?_, HB3.out⟩
        rw [HSH.out]
        rfl
      | ok u =>
        have HUL : Hid (u.length ≤ 1000000000) := Nat.le_trans (prL_len hp) (Nat.le_trans HTl.out (by decide))
        obtain ⟨m, hm⟩ : ∃ m, m = u.length := ⟨_, rfl⟩
        have HP : ∀ W, Hid (Calls Tryd.prog 9 #[.string (st T)] W fun e w' => ∃ a2 c2, e = .returned (.tuple #[.slice a2 m c2, .int .i64 0, .int .i64 0]) ∧ RowK cR w' a2 u ∧ Below W.heap.size W w') := fun W => by
          refine (parse_any T W (Nat.le_trans HTl.out (by decide))).mono ?_
          rintro e w' ⟨h, hb⟩
          rw [hp] at h
          obtain ⟨v, he, ho⟩ := h
          obtain ⟨a2, c2, hv, hrk, _⟩ := RowK.own cR_len ho rfl
          exact ⟨a2, c2, by rw [he, hv, hm], hrk, hb⟩
        have HM := Lib.hid hm
        have HSH : Hid (showL l = if u = l then some T else none) := by
          show _ = _
          by_cases hul : u = l
          · rw [if_pos hul, HTE.out]; exact showL_eq (by rw [← HTE.out, hp, hul])
          · rw [if_neg hul]; exact showL_ne (by rw [← HTE.out]; exact hp) hul
        obtain ⟨R, hR⟩ : ∃ R : Bool, R = decide (u = l) := ⟨_, rfl⟩
        have HRE := Lib.hid hR
        have HEQ : Hid (∀ a2 c2 W, RowK cR W a2 u → Below B w W → Calls Tryd.prog 10 #[.slice a2 m c2, .slice a n c] W fun e w' => e = .returned (.bool R) ∧ Below W.heap.size W w') := by
          intro a2 c2 W h1 h2
          have := equalRule_any a2 a c2 c u l W h1 (HR.out.keep (HB0.out ▸ h2)) HUL.out HOK.out.len
          rw [← hR, ← HN.out, ← HM.out] at this
          exact this
        clear hp hm hR
        cases R with
        | true =>
          have hul : u = l := of_decide_eq_true HRE.out.symm
          have HSH2 : Hid (showL l = some T) := by show _ = _; rw [HSH.out, if_pos hul]
          clear hul
          go_wp2_with (first
            | (go_at_call 14; (refine HS.out.mono ?_); rintro e w2 ⟨rfl, hb⟩; have HB2 := Lib.hid (HB.out.trans hb); have HS2 := Lib.hid (Nat.le_trans HBs.out hb.size : B ≤ w2.heap.size); clear hb)
            | (go_at_call 9; (refine (HP _).out.mono ?_); rintro e w3 ⟨a2, c2, rfl, hrk, hb⟩; have HB3 := Lib.hid (bel_on HB2.out HS2.out hb); have HS3 := Lib.hid (Nat.le_trans HS2.out hb.size : B ≤ w3.heap.size); have HRK := Lib.hid hrk; clear hb hrk)
            | (go_at_call 10; (refine (HEQ.out _ _ _ HRK.out HB3.out).mono ?_); rintro e w4 ⟨rfl, hb⟩; have HB4 := Lib.hid (bel_on HB3.out HS3.out hb); clear hb)
            | fail)
          go_ret2
          refine ⟨?_, HB4.out⟩
          rw [HSH2.out]
          rfl
        | false =>
          have hul : u ≠ l := of_decide_eq_false HRE.out.symm
          have HSH2 : Hid (showL l = none) := by show _ = _; rw [HSH.out, if_neg hul]
          clear hul
          go_wp2_with (first
            | (go_at_call 14; (refine HS.out.mono ?_); rintro e w2 ⟨rfl, hb⟩; have HB2 := Lib.hid (HB.out.trans hb); have HS2 := Lib.hid (Nat.le_trans HBs.out hb.size : B ≤ w2.heap.size); clear hb)
            | (go_at_call 9; (refine (HP _).out.mono ?_); rintro e w3 ⟨a2, c2, rfl, hrk, hb⟩; have HB3 := Lib.hid (bel_on HB2.out HS2.out hb); have HS3 := Lib.hid (Nat.le_trans HS2.out hb.size : B ≤ w3.heap.size); have HRK := Lib.hid hrk; clear hb hrk)
            | (go_at_call 10; (refine (HEQ.out _ _ _ HRK.out HB3.out).mono ?_); rintro e w4 ⟨rfl, hb⟩; have HB4 := Lib.hid (bel_on HB3.out HS3.out hb); clear hb)
            | fail)
          go_ret2
          refine ⟨?_, HB4.out⟩
          rw [HSH2.out]
          rfl
end Go.Proofs.YtjegfoeempojiaaDoor
