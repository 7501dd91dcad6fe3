/-
  Contract of basis.Text.
-/
import Derived.Test.YtagailghjfkafaaDoorBasF
import Derived.Lib.AppendIntMem
namespace Go.Proofs.YtagailghjfkafaaDoor
open Go.RowKit Ieee

theorem tab_below {P : Program} {w w' : World} {nm : String} {k : IntKind} {zs : List Int} (h : Lib.TabIs P w nm k zs) (hb : Below w.heap.size w w') : Lib.TabIs P w' nm k zs := by
  unfold Lib.TabIs World.var? at h ⊢
  cases hg : P.globalNamed nm with
  | none => rw [hg] at h; cases h
  | some g =>
    rw [hg] at h
    simp only [Option.bind_some] at h ⊢
    have hlt : g < w.heap.size := by
      rcases Nat.lt_or_ge g w.heap.size with h' | h'
      · exact h'
      · rw [Array.getElem?_eq_none h'] at h; cases h
    rw [hb.block g hlt]
    exact h

def Tab (w : World) : Prop := Lib.TabIs Tryd.prog w "internal/strconv.uint64pow10" .u64 Lib.pow10Tab

theorem text_nan (s : Bool) (r : Nat) (w : World) (h1 : infR < r) (h : r < 9223372036854775808) :
    Calls Tryd.prog 12 #[.float .f64 (wd s r)] w fun e w' => e = .returned (.string ⟨#[45]⟩) ∧ w = w' := by
  have HO := of_any s r w h
  rw [show kindN r = 0 from by unfold kindN; rw [if_pos h1]] at HO
  have H1 := Lib.hid HO
  clear HO h1 h
  go_enter Tryd.func12, Tryd.ntmps12
  go_wp2_with fail
  refine H1.out.mono ?_
  rintro e w' ⟨rfl, rfl⟩
  go_wp2
  go_ret
  exact ⟨rfl, rfl⟩

set_option maxHeartbeats 400000 in
/-- the text, but of a whole -/
theorem text_most (s : Bool) (r : Nat) (w : World) (h : r < 9223372036854775808) (hn : ptsN s r ≠ 10000) :
    Calls Tryd.prog 12 #[.float .f64 (wd s r)] w fun e w' => e = .returned (.string (txt s r)) ∧ w = w' := by
  unfold txt
  by_cases h1 : infR < r
  · rw [if_pos h1]; exact text_nan s r w h1 h
  · rw [if_neg h1]
    have HO := of_any s r w h
    have HP := points_any s r w h
    have hk0 : (kindN r == 0) = false := by unfold kindN; rw [if_neg h1]; (repeat' split) <;> rfl
    obtain ⟨k, hkk⟩ : ∃ k, k = kindN r := ⟨_, rfl⟩
    have hN := ptsN_le s r
    obtain ⟨n, hnn⟩ : ∃ n, n = (ptsN s r).toNat := ⟨_, rfl⟩
    have en : ptsN s r = (n : Int) := by omega
    rw [← hkk] at HO hk0
    rw [en] at HP hN hn
    rw [← hnn]
    have H1 := Lib.hid HO
    rcases ptsE_cases s r with he | he | he
    · rw [he] at HP ⊢
      have H2 := Lib.hid HP
      rw [if_neg (by decide), if_neg (by decide)]
      unfold numTxt
      rw [if_neg (by omega)]
      have q1 : (n : Int) / 100 = ((n / 100 : Nat) : Int) := by omega
      have q2 : (n : Int) % 100 = ((n % 100 : Nat) : Int) := by omega
      obtain ⟨q, hq⟩ : ∃ q, q = n / 100 := ⟨_, rfl⟩
      obtain ⟨m, hm⟩ : ∃ m, m = n % 100 := ⟨_, rfl⟩
      rw [← hq] at q1 ⊢
      rw [← hm] at q2 ⊢
      have b0 : (0 : Int) ≤ (n : Int) := by omega
      have b1 : (n : Int) ≤ 10000 := by omega
      have H3 := fmt_small q (by omega) w
      have H4 := Lib.hid (twoF_any m w (by omega))
      unfold S1 at H3 ⊢
      by_cases h10 : q < 10
      · rw [if_pos h10] at H3 ⊢
        have H5 := Lib.hid H3
        clear HO HP H3 h10 hq hm hN he hkk h1 h hnn en hn
        go_enter Tryd.func12, Tryd.ntmps12
        go_wp2_with fail
        refine H1.out.mono ?_
        rintro e w' ⟨rfl, rfl⟩
        go_wp2_with fail
        refine H2.out.mono ?_
        rintro e w' ⟨rfl, rfl⟩
        go_wp2_with fail
        refine H5.out.mono ?_
        rintro e w' ⟨rfl, rfl⟩
        go_wp2_with fail
        refine H4.out.mono ?_
        rintro e w' ⟨rfl, rfl⟩
        go_wp2
        go_ret
        exact ⟨rfl, rfl⟩
      · rw [if_neg h10] at H3 ⊢
        have H5 := Lib.hid H3
        clear HO HP H3 h10 hq hm hN he hkk h1 h hnn en hn
        go_enter Tryd.func12, Tryd.ntmps12
        go_wp2_with fail
        refine H1.out.mono ?_
        rintro e w' ⟨rfl, rfl⟩
        go_wp2_with fail
        refine H2.out.mono ?_
        rintro e w' ⟨rfl, rfl⟩
        go_wp2_with fail
        refine H5.out.mono ?_
        rintro e w' ⟨rfl, rfl⟩
        go_wp2_with fail
        refine H4.out.mono ?_
        rintro e w' ⟨rfl, rfl⟩
        go_wp2
        go_ret
        exact ⟨rfl, rfl⟩
    · rw [he] at HP ⊢
      have H2 := Lib.hid HP
      rw [if_neg (by decide), if_pos rfl]
      clear HO HP hN he hkk h1 h hnn en hn
      go_enter Tryd.func12, Tryd.ntmps12
      go_wp2_with fail
      refine H1.out.mono ?_
      rintro e w' ⟨rfl, rfl⟩
      go_wp2_with fail
      refine H2.out.mono ?_
      rintro e w' ⟨rfl, rfl⟩
      go_wp2
      go_ret
      exact ⟨rfl, rfl⟩
    · rw [he] at HP ⊢
      have H2 := Lib.hid HP
      rw [if_pos rfl]
      clear HO HP hN he hkk h1 h hnn en hn
      go_enter Tryd.func12, Tryd.ntmps12
      go_wp2_with fail
      refine H1.out.mono ?_
      rintro e w' ⟨rfl, rfl⟩
      go_wp2_with fail
      refine H2.out.mono ?_
      rintro e w' ⟨rfl, rfl⟩
      go_wp2
      go_ret
      exact ⟨rfl, rfl⟩

def TextPost (s : Bool) (r : Nat) (w : World) (e : Ending) (w' : World) : Prop := e = .returned (.string (txt s r)) ∧ Below w.heap.size w w'

theorem whole_kind {s : Bool} {r : Nat} (h : ptsN s r = 10000) : ¬ infR < r ∧ ptsE s r = 0 := by
  unfold ptsN at h
  unfold ptsE
  refine ⟨fun h1 => by rw [if_pos h1] at h; omega, ?_⟩
  revert h
  (repeat' split) <;> omega

set_option maxHeartbeats 400000 in
theorem text_any (s : Bool) (r : Nat) (w : World) (h : r < 9223372036854775808) (ht : Tab w) :
    Calls Tryd.prog 12 #[.float .f64 (wd s r)] w (TextPost s r w) := by
  by_cases hn : ptsN s r = 10000
  · obtain ⟨h1, he⟩ := whole_kind hn
    have e3 : txt s r = ⟨#[49, 48, 48, 46, 48, 48, 37]⟩ := by
      unfold txt; rw [if_neg h1, he, hn]; rfl
    unfold TextPost
    rw [e3]
    have HO := of_any s r w h
    have HP := points_any s r w h
    have hk0 : (kindN r == 0) = false := by unfold kindN; rw [if_neg h1]; (repeat' split) <;> rfl
    obtain ⟨k, hkk⟩ : ∃ k, k = kindN r := ⟨_, rfl⟩
    rw [← hkk] at HO hk0
    rw [hn, he] at HP
    have H1 := Lib.hid HO
    have H2 := Lib.hid HP
    have H3 := Tryd.strconv_FormatInt_10 100 (by omega) (by omega) w ht
    rw [show (Lib.itoa 100).toArray = #[49, 48, 48] from by decide +kernel] at H3
    have H5 := Lib.hid H3
    clear HO HP H3 hn h1 he e3 h ht hkk
    go_enter Tryd.func12, Tryd.ntmps12
    go_wp2_with fail
    refine H1.out.mono ?_
    rintro e w' ⟨rfl, rfl⟩
    go_wp2_with fail
    refine H2.out.mono ?_
    rintro e w1 ⟨rfl, rfl⟩
    go_wp2_with fail
    refine H5.out.mono ?_
    rintro e w2 ⟨rfl, kk, os, rfl⟩
    have H4 := twoF_any 0 (Go.Sort.grow (w.drewN kk) os) (by omega)
    rw [show ((0 : Nat) : Int) = 0 from rfl] at H4
    have H6 := Lib.hid H4
    have HB := Lib.hid (Lib.below_grow w.heap.size w (Nat.le_refl _) kk os)
    clear H4
    go_wp2_with fail
    refine H6.out.mono ?_
    rintro e w3 ⟨rfl, rfl⟩
    go_wp2
    go_ret
    exact ⟨rfl, HB.out⟩
  · exact (text_most s r w h hn).mono fun e w' ⟨he, hw⟩ => ⟨he, by rw [← hw]; exact Below.refl _ _⟩
end Go.Proofs.YtagailghjfkafaaDoor
