/-
  Contracts of lex.isBlank, isLetter, isFigure, longest.
-/
import Derived.Test.YtjegfoeempojiaaDoorProg
import Derived.Test.YtjegfoeempojiaaDoorLexP
import Derived.Test.YtjegfoeempojiaaDoorStrs
import Derived.Test.YtjegfoeempojiaaDoorHeap
import Derived.Lib.Hide
import Derived.Deep.LoopGhost
namespace Go.Proofs.YtjegfoeempojiaaDoor
open Go.RowKit

theorem blank_any (c : UInt8) (w : World) :
    Calls Tryd.prog 28 #[.int .u8 (c.toNat : Int)] w fun e w' => e = .returned (.bool (isBlk c)) ∧ w = w' := by
  have hc : c.toNat < 256 := UInt8.toNat_lt c
  obtain ⟨n, hn⟩ : ∃ n, n = c.toNat := ⟨_, rfl⟩
  have HB : Hid (isBlk c = (decide (n = 32) || (decide (n = 10) || decide (n = 9)))) := by show _ = _; rw [hn]; rfl
  rw [← hn] at hc ⊢
  rw [HB.out]
  clear hn HB
  go_enter Tryd.func28, Tryd.ntmps28
  by_cases h1 : n = 32
  · subst h1; go_wp2; go_ret; exact ⟨rfl, rfl⟩
  by_cases h2 : n = 10
  · subst h2; go_wp2; go_ret; exact ⟨rfl, rfl⟩
  by_cases h3 : n = 9
  · subst h3; go_wp2; go_ret; exact ⟨rfl, rfl⟩
  have k1 : ¬ ((n : Int) = 32) := by omega
  have k2 : ¬ ((n : Int) = 10) := by omega
  have k3 : ¬ ((n : Int) = 9) := by omega
  go_wp2
  go_ret
  exact ⟨by simp [h1, h2, h3]; exact ⟨⟨k1, k2⟩, k3⟩, rfl⟩

theorem letter_any (c : UInt8) (w : World) :
    Calls Tryd.prog 29 #[.int .u8 (c.toNat : Int)] w fun e w' => e = .returned (.bool (isLet c)) ∧ w = w' := by
  have hc : c.toNat < 256 := UInt8.toNat_lt c
  obtain ⟨n, hn⟩ : ∃ n, n = c.toNat := ⟨_, rfl⟩
  have HB : Hid (isLet c = (decide (97 ≤ n) && decide (n ≤ 122))) := by show _ = _; rw [hn]; rfl
  rw [← hn] at hc ⊢
  rw [HB.out]
  clear hn HB
  go_enter Tryd.func29, Tryd.ntmps29
  by_cases h1 : 97 ≤ n
  · have k1 : (97 : Int) ≤ (n : Int) := by omega
    by_cases h2 : n ≤ 122
    · have k2 : (n : Int) ≤ 122 := by omega
      go_wp2; go_ret; exact ⟨by simp <;> omega, rfl⟩
    · have k2 : ¬ ((n : Int) ≤ 122) := by omega
      go_wp2; go_ret; exact ⟨by simp <;> omega, rfl⟩
  · have k1 : ¬ ((97 : Int) ≤ (n : Int)) := by omega
    go_wp2; go_ret; exact ⟨by simp <;> omega, rfl⟩

theorem figure_any (c : UInt8) (w : World) :
    Calls Tryd.prog 31 #[.int .u8 (c.toNat : Int)] w fun e w' => e = .returned (.bool (isFig c)) ∧ w = w' := by
  have hc : c.toNat < 256 := UInt8.toNat_lt c
  obtain ⟨n, hn⟩ : ∃ n, n = c.toNat := ⟨_, rfl⟩
  have HB : Hid (isFig c = (decide (48 ≤ n) && decide (n ≤ 57))) := by show _ = _; rw [hn]; rfl
  rw [← hn] at hc ⊢
  rw [HB.out]
  clear hn HB
  go_enter Tryd.func31, Tryd.ntmps31
  by_cases h1 : 48 ≤ n
  · have k1 : (48 : Int) ≤ (n : Int) := by omega
    by_cases h2 : n ≤ 57
    · have k2 : (n : Int) ≤ 57 := by omega
      go_wp2; go_ret; exact ⟨by simp <;> omega, rfl⟩
    · have k2 : ¬ ((n : Int) ≤ 57) := by omega
      go_wp2; go_ret; exact ⟨by simp <;> omega, rfl⟩
  · have k1 : ¬ ((48 : Int) ≤ (n : Int)) := by omega
    go_wp2; go_ret; exact ⟨by simp <;> omega, rfl⟩

theorem takeWhile_all {p : UInt8 → Bool} : ∀ (l : List UInt8), (∀ c ∈ l, p c = true) → l.takeWhile p = l
  | [], _ => rfl
  | c :: r, h => by rw [List.takeWhile_cons, if_pos (h c List.mem_cons_self), takeWhile_all r (fun x hx => h x (List.mem_cons_of_mem _ hx))]

theorem takeWhile_at {p : UInt8 → Bool} {l : List UInt8} {k : Nat} (h : (l.take k).all p = true) (hs : k = l.length ∨ p (l.getD k 0) = false) : l.takeWhile p = l.take k := by
  have e : l = l.take k ++ l.drop k := (List.take_append_drop k l).symm
  have h1 : (l.take k).takeWhile p = l.take k := by
    exact takeWhile_all _ (List.all_eq_true.1 h)
  have h2 : (l.drop k).takeWhile p = [] := by
    rcases hs with hs | hs
    · rw [hs, List.drop_length]; rfl
    · cases hd : l.drop k with
      | nil => rfl
      | cons x r =>
        have : l.getD k 0 = x := by
          have := congrArg (fun t : List UInt8 => t[0]?) hd
          simp at this
          rw [List.getD_eq_getElem?_getD, this]; rfl
        rw [this] at hs
        rw [List.takeWhile_cons, hs]; rfl
  conv => lhs; rw [e]
  rw [List.takeWhile_append, h1, h2]
  simp

theorem all_take_succ {p : UInt8 → Bool} {l : List UInt8} {k : Nat} (h : (l.take k).all p = true) (hk : k < l.length) (hp : p (l.getD k 0) = true) : (l.take (k + 1)).all p = true := by
  rw [List.take_succ_eq_append_getElem hk, List.all_append, h]
  have : l.getD k 0 = l[k] := by rw [List.getD_eq_getElem?_getD, List.getElem?_eq_getElem hk]; rfl
  rw [this] at hp
  simp [hp]

set_option maxHeartbeats 1000000 in
theorem longFig (l : List UInt8) (w : World) (hl : l.length ≤ 4611686018427387904) :
    Calls Tryd.prog 38 #[.string (st l), .func (.func 31) #[] #[]] w fun e w' => e = .returned (.string (st (l.takeWhile isFig))) ∧ w = w' := by
  have hsz := st_size l
  obtain ⟨n, hn⟩ : ∃ n, n = l.length := ⟨_, rfl⟩
  rw [← hn] at hsz hl
  have HN := Lib.hid hn
  clear hn
  go_enter Tryd.func38, Tryd.ntmps38
  go_wp2
  go_loopg [5] n (fun gk i wr => w = wr ∧ ∃ k : Nat, k ≤ n ∧ i = .int .i64 k ∧ n - k ≤ gk ∧ Hid ((l.take k).all isFig = true))
  case atStart => exact ⟨rfl, 0, Nat.zero_le _, rfl, by omega, rfl⟩
  case round =>
    obtain ⟨rfl, k, hk, rfl, hgk, HT⟩ := hrel
    by_cases hlt : k < n
    · have hkk : k < (st l).size := by omega
      have hat := st_at l k hkk
      have hkz : (0 : Int) ≤ (k : Int) := by omega
      have hkn : (k : Int) < (n : Int) := by omega
      have H1 : ∀ W, Hid (Calls Tryd.prog 31 #[.int .u8 (((l.getD k 0).toNat : Nat) : Int)] W fun e w' => e = .returned (.bool (isFig (l.getD k 0))) ∧ W = w') := fun W => figure_any _ W
      cases hp : isFig (l.getD k 0) with
      | true =>
        rw [hp] at H1
        have HP := Lib.hid hp
        clear hp
        go_wp2_with (first | (go_at_call 31; refine (H1 _).out.mono ?_; rintro e w' ⟨rfl, rfl⟩) | fail)
        go_roundg (n - (k + 1))
        case measure => omega
        case rel => exact ⟨rfl, k + 1, by omega, by go_num, by omega, all_take_succ HT.out (by rw [← HN.out]; exact hlt) HP.out⟩
      | false =>
        rw [hp] at H1
        have HX : Hid (l.takeWhile isFig = l.take k) := takeWhile_at HT.out (.inr hp)
        clear hp
        go_wp2_with (first | (go_at_call 31; refine (H1 _).out.mono ?_; rintro e w' ⟨rfl, rfl⟩) | fail)
        go_ret
        refine ⟨?_, rfl⟩
        rw [HX.out, st_extract]
        simp
    · have e : k = n := by omega
      subst e
      have HX : Hid (l.takeWhile isFig = l.take k) := takeWhile_at HT.out (.inl HN.out)
      go_wp2
      go_ret
      refine ⟨?_, rfl⟩
      rw [HX.out, st_extract]
      simp

set_option maxHeartbeats 1000000 in
theorem longLet (l : List UInt8) (w : World) (hl : l.length ≤ 4611686018427387904) :
    Calls Tryd.prog 38 #[.string (st l), .func (.func 29) #[] #[]] w fun e w' => e = .returned (.string (st (l.takeWhile isLet))) ∧ w = w' := by
  have hsz := st_size l
  obtain ⟨n, hn⟩ : ∃ n, n = l.length := ⟨_, rfl⟩
  rw [← hn] at hsz hl
  have HN := Lib.hid hn
  clear hn
  go_enter Tryd.func38, Tryd.ntmps38
  go_wp2
  go_loopg [5] n (fun gk i wr => w = wr ∧ ∃ k : Nat, k ≤ n ∧ i = .int .i64 k ∧ n - k ≤ gk ∧ Hid ((l.take k).all isLet = true))
  case atStart => exact ⟨rfl, 0, Nat.zero_le _, rfl, by omega, rfl⟩
  case round =>
    obtain ⟨rfl, k, hk, rfl, hgk, HT⟩ := hrel
    by_cases hlt : k < n
    · have hkk : k < (st l).size := by omega
      have hat := st_at l k hkk
      have hkz : (0 : Int) ≤ (k : Int) := by omega
      have hkn : (k : Int) < (n : Int) := by omega
      have H1 : ∀ W, Hid (Calls Tryd.prog 29 #[.int .u8 (((l.getD k 0).toNat : Nat) : Int)] W fun e w' => e = .returned (.bool (isLet (l.getD k 0))) ∧ W = w') := fun W => letter_any _ W
      cases hp : isLet (l.getD k 0) with
      | true =>
        rw [hp] at H1
        have HP := Lib.hid hp
        clear hp
        go_wp2_with (first | (go_at_call 29; refine (H1 _).out.mono ?_; rintro e w' ⟨rfl, rfl⟩) | fail)
        go_roundg (n - (k + 1))
        case measure => omega
        case rel => exact ⟨rfl, k + 1, by omega, by go_num, by omega, all_take_succ HT.out (by rw [← HN.out]; exact hlt) HP.out⟩
      | false =>
        rw [hp] at H1
        have HX : Hid (l.takeWhile isLet = l.take k) := takeWhile_at HT.out (.inr hp)
        clear hp
        go_wp2_with (first | (go_at_call 29; refine (H1 _).out.mono ?_; rintro e w' ⟨rfl, rfl⟩) | fail)
        go_ret
        refine ⟨?_, rfl⟩
        rw [HX.out, st_extract]
        simp
    · have e : k = n := by omega
      subst e
      have HX : Hid (l.takeWhile isLet = l.take k) := takeWhile_at HT.out (.inl HN.out)
      go_wp2
      go_ret
      refine ⟨?_, rfl⟩
      rw [HX.out, st_extract]
      simp
end Go.Proofs.YtjegfoeempojiaaDoor
