/-
  Contracts of gate.moves, find, known, of slices.IndexFunc of records.
-/
import Derived.Test.YtdahgmkbpiklpaaGtP
import Derived.Deep.LoopGhost
import Derived.BigQuiet
import Derived.Lib.Hide
namespace Go.Proofs.Ytdahgmkbpiklpaa
open Go.RowKit

theorem moves_any (c : Nat) (w : World) (hc : c ≤ 7) : Calls Try.prog 31 #[.int .u8 (c : Int)] w fun e w' => e = .returned (.bool (mvB c)) ∧ w = w' := by
  have h : c = 3 ∨ c = 4 ∨ c = 7 ∨ (¬ c = 3 ∧ ¬ c = 4 ∧ ¬ c = 7) := by omega
  rcases h with rfl | rfl | rfl | ⟨h1, h2, h3⟩
  case inr.inr.inr =>
    have e : mvB c = true := by unfold mvB; rw [decide_eq_false h1, decide_eq_false h2, decide_eq_false h3]; rfl
    have t1 : ((c : Int) == 3) = false := by rw [beq_eq_false_iff_ne]; omega
    have t2 : ((c : Int) == 4) = false := by rw [beq_eq_false_iff_ne]; omega
    have t3 : ((c : Int) == 7) = false := by rw [beq_eq_false_iff_ne]; omega
    rw [e]
    clear e hc h1 h2 h3
    go_enter Try.func31, Try.ntmps31
    go_wp2
    go_ret
    exact ⟨rfl, rfl⟩
  all_goals
    clear hc
    go_enter Try.func31, Try.ntmps31
    go_wp2
    go_ret
    exact ⟨rfl, rfl⟩

/-- what slices.IndexFunc answers -/
def IdxG (q : List UInt8) (xs : List Rc) (w : World) (e : Ending) (w' : World) : Prop := ∃ n : Int, e = .returned (.int .i64 n) ∧ Found q xs n ∧ Below w.heap.size w w'

set_option maxHeartbeats 400000 in
theorem fnd_any (x : Rc) (q : List UInt8) (b : Nat) (w : World) (hc : w.cell? ⟨b, 0, none⟩ = some (.string (st q))) :
    Calls Try.prog 33 #[.agg #[.string (st x.1), .string (st x.2.1), .string (st x.2.2.1), .int .i64 x.2.2.2.1, .bool x.2.2.2.2], .pointer (some ⟨b, 0, none⟩)] w fun e w' => e = .returned (.bool (decide (x.1 = q))) ∧ Below w.heap.size w w' := by
  have hlt := World.block_lt_of_cell? w _ hc
  have HB : Hid (∀ o, Below w.heap.size w (w.alloc o)) := fun o => (Below.refl _ w).alloc (Nat.le_refl _) o
  obtain ⟨p, a1, a2, a3, a4⟩ := x
  have hc2 : (w.alloc (.cells #[.string (st p), .string (st a1), .string (st a2), .int .i64 a3, .bool a4] 63)).cell? ⟨b, 0, none⟩ = some (.string (st q)) := by
    rw [World.cell?_alloc_lt _ _ _ hlt]; exact hc
  simp only
  by_cases h : p = q
  · subst h
    have e : decide (p = p) = true := decide_eq_true rfl
    rw [e]; clear e
    go_enter Try.func33, Try.ntmps33
    go_wp2
    go_ret
    exact ⟨by first | done | rfl | simp, HB.out _⟩
  · have h1 := st_neb h
    have e : decide (p = q) = false := decide_eq_false h
    rw [e]
    clear h e
    go_enter Try.func33, Try.ntmps33
    go_wp2
    go_ret
    exact ⟨rfl, HB.out _⟩

set_option maxHeartbeats 800000 in
theorem ifF_any (a : Option Addr) (c : Nat) (xs : List Rc) (q : List UInt8) (b : Nat) (w : World) (hr : RowG 5 cRc w a xs) (hl : xs.length ≤ 1000000) (hq : w.cell? ⟨b, 0, none⟩ = some (.string (st q))) :
    Calls Try.prog 32 #[.slice a xs.length c, .func (.func 33) #[] #[.pointer (some ⟨b, 0, none⟩)]] w (IdxG q xs w) := by
  obtain ⟨n, hn⟩ : ∃ n, n = xs.length := ⟨_, rfl⟩
  have HN := Lib.hid hn
  have HR := Lib.hid hr
  have HQ := Lib.hid hq
  rw [← hn] at hl ⊢
  clear hn hr hq
  go_enter Try.func32, Try.ntmps32
  go_wp2
  go_loopg [5, 8] n (fun gk _ i wr => ∃ k : Nat, k ≤ n ∧ i = .int .i64 k ∧ n - k ≤ gk ∧ Hid (∀ (j : Nat) (s : Rc), j < k → xs[j]? = some s → s.1 ≠ q) ∧ Hid (Below w.heap.size w wr))
  case atStart => exact ⟨0, Nat.zero_le _, rfl, by omega, fun j s hj => by omega, Below.refl _ _⟩
  case round =>
    obtain ⟨k, hk, rfl, hgk, HJ, HB⟩ := hrel
    by_cases hlt : k < n
    · obtain ⟨x, hx⟩ : ∃ x, xs[k]? = some x := ⟨_, List.getElem?_eq_getElem (by rw [← HN.out]; exact hlt)⟩
      obtain ⟨b1, off, rfl⟩ := HR.out.form (by rw [← HN.out]; omega)
      obtain ⟨c0, c1, c2, c3, c4⟩ := cells5 (HR.out.keep HB.out) hx
      have hqr : wr.cell? ⟨b, 0, none⟩ = some (.string (st q)) := by
        rw [HB.out.cell (p := ⟨b, 0, none⟩) (World.block_lt_of_cell? w _ HQ.out)]; exact HQ.out
      have HC := Lib.hid (fnd_any x q b wr hqr)
      have hkz : (0 : Int) ≤ (k : Int) := by omega
      have hkn : (k : Int) < (n : Int) := by omega
      have HX := Lib.hid hx
      obtain ⟨p, a1, a2, a3, a4⟩ := x
      simp only at c0 c1 c2 c3 c4 HC
      clear hx hqr
      by_cases hpq : p = q
      · have t1 : decide (p = q) = true := decide_eq_true hpq
        rw [t1] at HC
        have HP := Lib.hid hpq
        clear t1 hpq
        go_wp2_with fail
        refine HC.out.mono ?_
        rintro e w' ⟨rfl, hb⟩
        have HB2 := Lib.hid (bel_onG HB.out HB.out.size hb)
        clear hb
        go_wp2
        go_ret
        exact ⟨_, rfl, .inr ⟨k, _, rfl, HX.out, HP.out, HJ.out⟩, HB2.out⟩
      · have t1 : decide (p = q) = false := decide_eq_false hpq
        rw [t1] at HC
        have HP := Lib.hid hpq
        clear t1 hpq
        go_wp2_with fail
        refine HC.out.mono ?_
        rintro e w' ⟨rfl, hb⟩
        have HB2 := Lib.hid (bel_onG HB.out HB.out.size hb)
        clear hb
        go_wp2
        go_roundg (n - (k + 1))
        case measure => omega
        case rel =>
          refine ⟨k + 1, by omega, by go_num, by omega, fun j s hj hs => ?_, HB2.out⟩
          by_cases e : j = k
          · subst e
            rw [HX.out] at hs
            injection hs with hs
            subst hs
            exact HP.out
          · exact HJ.out j s (by omega) hs
    · have hkn : ¬ ((k : Int) < (n : Int)) := by omega
      have HK : Hid (k = n) := by show _ = _; omega
      go_wp2
      go_ret
      exact ⟨-1, rfl, .inl ⟨rfl, fun j s hs => HJ.out j s (by have := (List.getElem?_eq_some_iff.1 hs).1; rw [HK.out, HN.out]; exact this) hs⟩, HB.out⟩

set_option maxHeartbeats 800000 in
theorem find_any (B b : Nat) (L : List Rc) (Q : List Rp) (v1 v2 : Value) (q : List UInt8) (w : World) (h : GateP 46 63 59 B w b L Q v1 v2) (hl : L.length ≤ 1000000) :
    Calls Try.prog 30 #[.pointer (some ⟨b, 0, none⟩), .string (st q)] w (IdxG q L w) := by
  obtain ⟨a, cp, rfl, hrow⟩ := h.row1
  have hb1 : Below w.heap.size w (w.alloc (.cells #[.string (st q)] 9)) := (Below.refl _ w).alloc (Nat.le_refl _) _
  have HB := Lib.hid hb1
  have c0 := (h.keep hb1).cell0
  have H := Lib.hid (ifF_any a cp L q w.heap.size _ (hrow.keep hb1) hl ((Blk.new w 9 #[.string (st q)]).cell 0))
  have HL : Hid (w.heap.size ≤ (w.alloc (.cells #[.string (st q)] 9)).heap.size) := hb1.size
  obtain ⟨n, hn⟩ : ∃ n, n = L.length := ⟨_, rfl⟩
  rw [← hn] at H c0
  clear hb1 hrow h hl hn
  go_enter Try.func30, Try.ntmps30
  go_wp2_with fail
  refine H.out.mono ?_
  rintro e w' ⟨n, rfl, h1, h2⟩
  have H1 := Lib.hid h1
  have H2 := Lib.hid (bel_onG HB.out HL.out h2)
  clear h1 h2
  go_wp2
  go_ret
  exact ⟨n, rfl, H1.out, H2.out⟩

set_option maxHeartbeats 800000 in
theorem known_any (B b : Nat) (L : List Rc) (Q : List Rp) (v1 v2 : Value) (q : List UInt8) (w : World) (h : GateP 46 63 59 B w b L Q v1 v2) (hl : L.length ≤ 1000000) :
    Calls Try.prog 25 #[.pointer (some ⟨b, 0, none⟩), .string (st q)] w fun e w' => e = .returned (.string (st (knd q L))) ∧ Below w.heap.size w w' := by
  have H := Lib.hid (find_any B b L Q v1 v2 q w h hl)
  have HG := Lib.hid h
  obtain ⟨K, hK⟩ : ∃ K, K = knd q L := ⟨_, rfl⟩
  have HK := Lib.hid hK
  rw [← hK]
  clear h hl hK
  go_enter Try.func25, Try.ntmps25
  go_wp2_with fail
  refine H.out.mono ?_
  rintro e w' ⟨n, rfl, h1, h2⟩
  have H2 := Lib.hid h2
  clear h2
  rcases h1 with ⟨rfl, h1⟩ | ⟨k, x, rfl, hx, hkey, hno⟩
  · have HE : Hid (st K = ⟨#[117, 110, 107, 110, 111, 119, 110]⟩) := by show _ = _; rw [HK.out, knd_none h1]; rfl
    clear h1
    go_wp2
    go_ret
    exact ⟨by rw [HE.out]; first | done | rfl, H2.out⟩
  · have HE : Hid (K = knR x) := by show _ = _; rw [HK.out]; exact knd_at hx hkey hno
    have hG := HG.out.keep H2.out
    obtain ⟨a, cp, hv, hrow⟩ := hG.row1
    have hlt := (List.getElem?_eq_some_iff.1 hx).1
    obtain ⟨b1, off, rfl⟩ := hrow.form (by omega)
    obtain ⟨_, _, _, _, c4⟩ := cells5 hrow hx
    have c0 := hG.cell0
    rw [hv] at c0
    have hkn : (k : Int) < (L.length : Int) := by omega
    have hkz : ¬ (k : Int) < 0 := by omega
    have hkz2 : (0 : Int) ≤ (k : Int) := by omega
    obtain ⟨n, hn⟩ : ∃ n, n = L.length := ⟨_, rfl⟩
    rw [← hn] at c0 hkn
    obtain ⟨p, a1, a2, a3, a4⟩ := x
    simp only at c4 HE
    clear hG hrow hv hx hkey hno hlt hn
    cases a4 with
    | true =>
      have HE2 : Hid (st K = ⟨#[97, 99, 99, 101, 112, 116, 101, 100]⟩) := by show _ = _; rw [HE.out]; rfl
      go_wp2
      go_ret
      exact ⟨by rw [HE2.out]; first | done | rfl, H2.out⟩
    | false =>
      have HE2 : Hid (st K = ⟨#[100, 101, 99, 108, 105, 110, 101, 100]⟩) := by show _ = _; rw [HE.out]; rfl
      go_wp2
      go_ret
      exact ⟨by rw [HE2.out]; first | done | rfl, H2.out⟩

end Go.Proofs.Ytdahgmkbpiklpaa
