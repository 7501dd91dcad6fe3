/-
  The document's letter, digit, long, value, rate.
-/
import Derived.Test.YtjegfoeempojiaaDoorLexC
namespace Go.Proofs.YtjegfoeempojiaaDoor
open Go.RowKit

theorem rletter_any (c : UInt8) (w : World) :
    Calls Tryd.prog 43 #[.int .u8 (c.toNat : Int)] w fun e w' => e = .returned (.bool (isLet c)) ∧ w = w' := by
  have hc : c.toNat < 256 := UInt8.toNat_lt c
  obtain ⟨n, hn⟩ : ∃ n, n = c.toNat := ⟨_, rfl⟩
  have HB : Hid (isLet c = (decide (97 ≤ n) && decide (n ≤ 122))) := by show _ = _; rw [hn]; rfl
  rw [← hn] at hc ⊢
  rw [HB.out]
  clear hn HB
  go_enter Tryd.func43, Tryd.ntmps43
  by_cases h1 : 97 ≤ n
  · have k1 : (97 : Int) ≤ (n : Int) := by omega
    by_cases h2 : n ≤ 122
    · have k2 : (n : Int) ≤ 122 := by omega
      go_wp2; go_ret; exact ⟨by simp <;> omega, rfl⟩
    · have k2 : ¬ ((n : Int) ≤ 122) := by omega
      go_wp2; go_ret; exact ⟨by simp <;> omega, rfl⟩
  · have k1 : ¬ ((97 : Int) ≤ (n : Int)) := by omega
    go_wp2; go_ret; exact ⟨by simp <;> omega, rfl⟩

theorem rdigit_any (c : UInt8) (w : World) :
    Calls Tryd.prog 44 #[.int .u8 (c.toNat : Int)] w fun e w' => e = .returned (.bool (isFig c)) ∧ w = w' := by
  have hc : c.toNat < 256 := UInt8.toNat_lt c
  obtain ⟨n, hn⟩ : ∃ n, n = c.toNat := ⟨_, rfl⟩
  have HB : Hid (isFig c = (decide (48 ≤ n) && decide (n ≤ 57))) := by show _ = _; rw [hn]; rfl
  rw [← hn] at hc ⊢
  rw [HB.out]
  clear hn HB
  go_enter Tryd.func44, Tryd.ntmps44
  by_cases h1 : 48 ≤ n
  · have k1 : (48 : Int) ≤ (n : Int) := by omega
    by_cases h2 : n ≤ 57
    · have k2 : (n : Int) ≤ 57 := by omega
      go_wp2; go_ret; exact ⟨by simp <;> omega, rfl⟩
    · have k2 : ¬ ((n : Int) ≤ 57) := by omega
      go_wp2; go_ret; exact ⟨by simp <;> omega, rfl⟩
  · have k1 : ¬ ((48 : Int) ≤ (n : Int)) := by omega
    go_wp2; go_ret; exact ⟨by simp <;> omega, rfl⟩

/-- a sort of bytes -/
def sortB (b : Bool) : UInt8 → Bool := if b then isLet else isFig
/-- how many of it come first -/
def longL (b : Bool) (l : List UInt8) : Nat := (l.takeWhile (sortB b)).length

theorem longL_at {b : Bool} {l : List UInt8} {k : Nat} (h : (l.take k).all (sortB b) = true) (hs : k = l.length ∨ sortB b (l.getD k 0) = false) (hk : k ≤ l.length) : longL b l = k := by
  unfold longL
  rw [takeWhile_at h hs, List.length_take]
  omega

set_option maxHeartbeats 2000000 in
theorem rlong_any (b : Bool) (l : List UInt8) (w : World) (hl : l.length ≤ 4611686018427387904) :
    Calls Tryd.prog 45 #[.string (st l), .bool b] w fun e w' => e = .returned (.int .i64 (longL b l : Nat)) ∧ w = w' := by
  have hsz := st_size l
  obtain ⟨n, hn⟩ : ∃ n, n = l.length := ⟨_, rfl⟩
  rw [← hn] at hsz hl
  have HN := Lib.hid hn
  clear hn
  cases b with
  | true =>
    go_enter Tryd.func45, Tryd.ntmps45
    go_wp2
    go_loopg [5, 6, 7] n (fun gk i _ _ wr => w = wr ∧ ∃ k : Nat, k ≤ n ∧ i = .int .i64 k ∧ n - k ≤ gk ∧ Hid ((l.take k).all (sortB true) = true))
    case atStart => exact ⟨rfl, 0, Nat.zero_le _, rfl, by omega, rfl⟩
    case round =>
      obtain ⟨rfl, k, hk, rfl, hgk, HT⟩ := hrel
      by_cases hlt : k < n
      · have hkk : k < (st l).size := by omega
        have hat := st_at l k hkk
        have hkz : (0 : Int) ≤ (k : Int) := by omega
        have hkn : (k : Int) < (n : Int) := by omega
        have H1 : ∀ W, Hid (Calls Tryd.prog 43 #[.int .u8 (((l.getD k 0).toNat : Nat) : Int)] W fun e w' => e = .returned (.bool (isLet (l.getD k 0))) ∧ W = w') := fun W => rletter_any _ W
        have H2 : ∀ W, Hid (Calls Tryd.prog 44 #[.int .u8 (((l.getD k 0).toNat : Nat) : Int)] W fun e w' => e = .returned (.bool (isFig (l.getD k 0))) ∧ W = w') := fun W => rdigit_any _ W
        cases hp : isLet (l.getD k 0) with
        | true =>
          rw [hp] at H1
          have HP := Lib.hid hp
          clear hp
          go_wp2_with (first | (go_at_call 43; refine (H1 _).out.mono ?_; rintro e w' ⟨rfl, rfl⟩) | (go_at_call 44; refine (H2 _).out.mono ?_; rintro e w' ⟨rfl, rfl⟩) | fail)
          go_roundg (n - (k + 1))
          case measure => omega
          case rel => exact ⟨rfl, k + 1, by omega, by go_num, by omega, all_take_succ HT.out (by rw [← HN.out]; exact hlt) HP.out⟩
        | false =>
          rw [hp] at H1
          have HX : Hid (longL true l = k) := longL_at HT.out (.inr hp) (by rw [← HN.out]; exact hk)
          clear hp
          go_wp2_with (first | (go_at_call 43; refine (H1 _).out.mono ?_; rintro e w' ⟨rfl, rfl⟩) | (go_at_call 44; refine (H2 _).out.mono ?_; rintro e w' ⟨rfl, rfl⟩) | fail)
          go_ret
          exact ⟨by rw [HX.out]; rfl, rfl⟩
      · have e : k = n := by omega
        have HX : Hid (longL true l = n) := by show _ = _; rw [← e]; exact longL_at HT.out (.inl (by rw [e]; exact HN.out)) (by rw [← HN.out]; exact hk)
        have hkn : ¬ ((k : Int) < (n : Int)) := by omega
        go_wp2
        go_ret
        exact ⟨by rw [HX.out]; rfl, rfl⟩
  | false =>
    go_enter Tryd.func45, Tryd.ntmps45
    go_wp2
    go_loopg [5, 6, 7] n (fun gk i _ _ wr => w = wr ∧ ∃ k : Nat, k ≤ n ∧ i = .int .i64 k ∧ n - k ≤ gk ∧ Hid ((l.take k).all (sortB false) = true))
    case atStart => exact ⟨rfl, 0, Nat.zero_le _, rfl, by omega, rfl⟩
    case round =>
      obtain ⟨rfl, k, hk, rfl, hgk, HT⟩ := hrel
      by_cases hlt : k < n
      · have hkk : k < (st l).size := by omega
        have hat := st_at l k hkk
        have hkz : (0 : Int) ≤ (k : Int) := by omega
        have hkn : (k : Int) < (n : Int) := by omega
        have H1 : ∀ W, Hid (Calls Tryd.prog 43 #[.int .u8 (((l.getD k 0).toNat : Nat) : Int)] W fun e w' => e = .returned (.bool (isLet (l.getD k 0))) ∧ W = w') := fun W => rletter_any _ W
        have H2 : ∀ W, Hid (Calls Tryd.prog 44 #[.int .u8 (((l.getD k 0).toNat : Nat) : Int)] W fun e w' => e = .returned (.bool (isFig (l.getD k 0))) ∧ W = w') := fun W => rdigit_any _ W
        cases hp : isFig (l.getD k 0) with
        | true =>
          rw [hp] at H2
          have HP := Lib.hid hp
          clear hp
          go_wp2_with (first | (go_at_call 43; refine (H1 _).out.mono ?_; rintro e w' ⟨rfl, rfl⟩) | (go_at_call 44; refine (H2 _).out.mono ?_; rintro e w' ⟨rfl, rfl⟩) | fail)
          go_roundg (n - (k + 1))
          case measure => omega
          case rel => exact ⟨rfl, k + 1, by omega, by go_num, by omega, all_take_succ HT.out (by rw [← HN.out]; exact hlt) HP.out⟩
        | false =>
          rw [hp] at H2
          have HX : Hid (longL false l = k) := longL_at HT.out (.inr hp) (by rw [← HN.out]; exact hk)
          clear hp
          go_wp2_with (first | (go_at_call 43; refine (H1 _).out.mono ?_; rintro e w' ⟨rfl, rfl⟩) | (go_at_call 44; refine (H2 _).out.mono ?_; rintro e w' ⟨rfl, rfl⟩) | fail)
          go_ret
          exact ⟨by rw [HX.out]; rfl, rfl⟩
      · have e : k = n := by omega
        have HX : Hid (longL false l = n) := by show _ = _; rw [← e]; exact longL_at HT.out (.inl (by rw [e]; exact HN.out)) (by rw [← HN.out]; exact hk)
        have hkn : ¬ ((k : Int) < (n : Int)) := by omega
        go_wp2
        go_ret
        exact ⟨by rw [HX.out]; rfl, rfl⟩

set_option maxHeartbeats 1000000 in
/-- value: the number that at most sixteen figures say -/
theorem rvalue_any (l : List UInt8) (w : World) (hl : l.length ≤ 16) (hf : ∀ c ∈ l, isFig c = true) :
    Calls Tryd.prog 47 #[.string (st l)] w fun e w' => e = .returned (.int .i64 ((woL l : Nat) : Int)) ∧ w = w' := by
  have hsz := st_size l
  have HF := Lib.hid hf
  have HL := Lib.hid hl
  obtain ⟨n, hn⟩ : ∃ n, n = l.length := ⟨_, rfl⟩
  rw [← hn] at hsz hl
  have HN := Lib.hid hn
  clear hn hf
  go_enter Tryd.func47, Tryd.ntmps47
  go_wp2
  go_loopg [3, 4] n (fun gk x i wr => w = wr ∧ ∃ k : Nat, k ≤ n ∧ i = .int .i64 k ∧ n - k ≤ gk ∧ x = .int .i64 ((woL (l.take k) : Nat) : Int))
  case atStart => exact ⟨rfl, 0, Nat.zero_le _, rfl, by omega, rfl⟩
  case round =>
    obtain ⟨rfl, k, hk, rfl, hgk, rfl⟩ := hrel
    by_cases hlt : k < n
    · have hkk : k < (st l).size := by omega
      have hat := st_at l k hkk
      have hkz : (0 : Int) ≤ (k : Int) := by omega
      have hkn : (k : Int) < (n : Int) := by omega
      have hc := woL_take_lt HF.out HL.out k
      have hfg : isFig (l.getD k 0) = true := by
        have h2 : k < l.length := by rw [← HN.out]; exact hlt
        rw [List.getD_eq_getElem?_getD, List.getElem?_eq_getElem h2]
        exact HF.out _ (List.getElem_mem h2)
      have HS := Lib.hid (woL_take (l := l) (k := k) (by rw [← HN.out]; exact hlt))
      obtain ⟨d, hd⟩ : ∃ d, d = (l.getD k 0).toNat := ⟨_, rfl⟩
      obtain ⟨v, hv⟩ : ∃ v, v = woL (l.take k) := ⟨_, rfl⟩
      have hdl : 48 ≤ d ∧ d ≤ 57 := by rw [hd]; simp [isFig] at hfg; exact hfg
      obtain ⟨hd1, hd2⟩ := hdl
      rw [← hd] at hat HS
      rw [← hv] at hc HS ⊢
      clear hd hv hfg
      go_wp2
      go_roundg (n - (k + 1))
      case measure => omega
      case rel =>
        refine ⟨rfl, k + 1, by omega, by go_num, by omega, ?_⟩
        rw [HS.out]
        go_num
    · have e : k = n := by omega
      subst e
      have HX : Hid (l.take k = l) := List.take_of_length_le (by rw [← HN.out]; exact Nat.le_refl _)
      go_wp2
      go_ret
      refine ⟨?_, rfl⟩
      rw [HX.out]
      rfl

theorem rEnd_dot (r : List UInt8) : rEnd (46 :: r) = if longL false r < 1 ∨ 2 < longL false r ∨ (r.drop (longL false r)).head? ≠ some 37 then [] else (46 :: r).take (longL false r + 2) := rfl
theorem rEnd_pct (r : List UInt8) : rEnd (37 :: r) = [37] := rfl
theorem rEnd_else {c : UInt8} (r : List UInt8) (h1 : ¬ c = 37) (h2 : ¬ c = 46) : rEnd (c :: r) = [] := by
  show (if c = 37 then [37] else if c = 46 then _ else []) = _
  rw [if_neg h1, if_neg h2]
theorem head_at {c : UInt8} {r : List UInt8} {k : Nat} (hk : k + 1 < (c :: r).length) (h : (c :: r).getD (k + 1) 0 = 37) : (r.drop k).head? = some 37 := by
  simp only [List.length_cons] at hk
  have hk2 : k < r.length := by omega
  rw [List.getD_eq_getElem?_getD, List.getElem?_cons_succ, List.getElem?_eq_getElem hk2] at h
  rw [List.drop_eq_getElem_cons hk2, List.head?_cons]
  exact congrArg some h
theorem head_not {c : UInt8} {r : List UInt8} {k : Nat} (h : ¬ (c :: r).getD (k + 1) 0 = 37) : (r.drop k).head? ≠ some 37 := by
  intro e
  apply h
  rw [List.getD_eq_getElem?_getD, List.getElem?_cons_succ]
  rw [List.head?_drop] at e
  rw [e]; rfl

set_option maxHeartbeats 2000000 in
/-- rate: how many bytes of a rate's end come -/
theorem rrate_any (l : List UInt8) (w : World) (hl : l.length ≤ 4611686018427387904) :
    Calls Tryd.prog 46 #[.string (st l)] w fun e w' => e = .returned (.int .i64 ((rEnd l).length : Nat)) ∧ w = w' := by
  have hsz := st_size l
  cases l with
  | nil =>
    have hem : (st []).toList.isEmpty = true := by rw [Go.Lib.toList_data, st_toList]; rfl
    go_enter Tryd.func46, Tryd.ntmps46
    go_wp2
    go_ret
    exact ⟨rfl, rfl⟩
  | cons c r =>
    have hem : (st (c :: r)).toList.isEmpty = false := by rw [Go.Lib.toList_data, st_toList]; rfl
    obtain ⟨n, hn⟩ : ∃ n, n = (c :: r).length := ⟨_, rfl⟩
    have HN := Lib.hid hn
    rw [← hn] at hsz hl
    have hex : (st (c :: r)).extract 1 n = st r := st_drop_to (c :: r) 1 n hn
    have hn1 : 1 ≤ n := by rw [hn]; simp
    have HL : ∀ W, Hid (Calls Tryd.prog 45 #[.string (st r), .bool false] W fun e w' => e = .returned (.int .i64 (longL false r : Nat)) ∧ W = w') := fun W => rlong_any false r W (by have := HN.out; simp only [List.length_cons] at this; omega)
    have z1 : (1 : Int) ≤ (n : Int) := by omega
    clear hn
    have hat0 := st_at (c :: r) 0 (by rw [hsz]; exact hn1)
    have hat1 : (c :: r).getD 0 0 = c := rfl
    rw [hat1] at hat0
    clear hat1
    by_cases h37 : c = 37
    · subst h37
      have HX : Hid ((rEnd (37 :: r)).length = 1) := by show _ = _; rw [rEnd_pct]; rfl
      go_enter Tryd.func46, Tryd.ntmps46
      go_wp2
      go_ret
      exact ⟨by rw [HX.out]; rfl, rfl⟩
    by_cases h46 : c = 46
    · subst h46
      have hkv : longL false r = 1 ∨ longL false r = 2 ∨ (longL false r < 1 ∨ 2 < longL false r) := by omega
      rcases hkv with hk | hk | hk
      · -- k = 1
        have hk : longL false r = 1 := hk
        rw [hk] at HL
        by_cases hlen : 2 < n
        · have hlen' : (2 : Int) < (n : Int) := by omega
          have hkk : 2 < (st (46 :: r)).size := by omega
          have hat := st_at (46 :: r) 2 hkk
          by_cases h37 : (46 :: r).getD 2 0 = 37
          · rw [h37] at hat
            have HX : Hid ((rEnd (46 :: r)).length = 3) := by
              show _ = _
              rw [rEnd_dot, hk, if_neg]
              · rw [List.length_take, ← HN.out]; omega
              · rintro (h | h | h)
                · omega
                · omega
                · exact h (head_at (by rw [← HN.out]; omega) h37)
            clear h37 hlen hk
            go_enter Tryd.func46, Tryd.ntmps46
            go_wp2_with (first | (go_at_call 45; refine (HL _).out.mono ?_; rintro e w' ⟨rfl, rfl⟩) | fail)
            go_ret
            exact ⟨by rw [HX.out]; rfl, rfl⟩
          · have hne : ¬ (((46 :: r).getD 2 0).toNat = 37) := fun e => h37 (UInt8.toNat_inj.1 (by rw [e]; rfl))
            obtain ⟨d, hd⟩ : ∃ d, d = ((46 :: r).getD 2 0).toNat := ⟨_, rfl⟩
            rw [← hd] at hat hne
            have hne2 : ¬ ((d : Int) = 37) := by omega
            have HX : Hid ((rEnd (46 :: r)).length = 0) := by
              show _ = _
              rw [rEnd_dot, hk, if_pos]
              · rfl
              · exact .inr (.inr (head_not h37))
            clear h37 hlen hk hd hne
            go_enter Tryd.func46, Tryd.ntmps46
            go_wp2_with (first | (go_at_call 45; refine (HL _).out.mono ?_; rintro e w' ⟨rfl, rfl⟩) | fail)
            go_ret
            exact ⟨by rw [HX.out]; rfl, rfl⟩
        · have hlen' : ¬ ((2 : Int) < (n : Int)) := by omega
          have HX : Hid ((rEnd (46 :: r)).length = 0) := by
            show _ = _
            rw [rEnd_dot, hk, if_pos]
            · rfl
            · refine .inr (.inr ?_)
              rw [List.drop_of_length_le (by have := HN.out; simp only [List.length_cons] at this; omega)]
              simp
          clear hlen hk
          go_enter Tryd.func46, Tryd.ntmps46
          go_wp2_with (first | (go_at_call 45; refine (HL _).out.mono ?_; rintro e w' ⟨rfl, rfl⟩) | fail)
          go_ret
          exact ⟨by rw [HX.out]; rfl, rfl⟩
      · -- k = 2
        have hk : longL false r = 2 := hk
        rw [hk] at HL
        by_cases hlen : 3 < n
        · have hlen' : (3 : Int) < (n : Int) := by omega
          have hkk : 3 < (st (46 :: r)).size := by omega
          have hat := st_at (46 :: r) 3 hkk
          by_cases h37 : (46 :: r).getD 3 0 = 37
          · rw [h37] at hat
            have HX : Hid ((rEnd (46 :: r)).length = 4) := by
              show _ = _
              rw [rEnd_dot, hk, if_neg]
              · rw [List.length_take, ← HN.out]; omega
              · rintro (h | h | h)
                · omega
                · omega
                · exact h (head_at (by rw [← HN.out]; omega) h37)
            clear h37 hlen hk
            go_enter Tryd.func46, Tryd.ntmps46
            go_wp2_with (first | (go_at_call 45; refine (HL _).out.mono ?_; rintro e w' ⟨rfl, rfl⟩) | fail)
            go_ret
            exact ⟨by rw [HX.out]; rfl, rfl⟩
          · have hne : ¬ (((46 :: r).getD 3 0).toNat = 37) := fun e => h37 (UInt8.toNat_inj.1 (by rw [e]; rfl))
            obtain ⟨d, hd⟩ : ∃ d, d = ((46 :: r).getD 3 0).toNat := ⟨_, rfl⟩
            rw [← hd] at hat hne
            have hne2 : ¬ ((d : Int) = 37) := by omega
            have HX : Hid ((rEnd (46 :: r)).length = 0) := by
              show _ = _
              rw [rEnd_dot, hk, if_pos]
              · rfl
              · exact .inr (.inr (head_not h37))
            clear h37 hlen hk hd hne
            go_enter Tryd.func46, Tryd.ntmps46
            go_wp2_with (first | (go_at_call 45; refine (HL _).out.mono ?_; rintro e w' ⟨rfl, rfl⟩) | fail)
            go_ret
            exact ⟨by rw [HX.out]; rfl, rfl⟩
        · have hlen' : ¬ ((3 : Int) < (n : Int)) := by omega
          have HX : Hid ((rEnd (46 :: r)).length = 0) := by
            show _ = _
            rw [rEnd_dot, hk, if_pos]
            · rfl
            · refine .inr (.inr ?_)
              rw [List.drop_of_length_le (by have := HN.out; simp only [List.length_cons] at this; omega)]
              simp
          clear hlen hk
          go_enter Tryd.func46, Tryd.ntmps46
          go_wp2_with (first | (go_at_call 45; refine (HL _).out.mono ?_; rintro e w' ⟨rfl, rfl⟩) | fail)
          go_ret
          exact ⟨by rw [HX.out]; rfl, rfl⟩
      · have HX : Hid ((rEnd (46 :: r)).length = 0) := by
          show _ = _
          rw [rEnd_dot, if_pos]
          · rfl
          · rcases hk with h | h
            · exact .inl h
            · exact .inr (.inl h)
        obtain ⟨k, hkk⟩ : ∃ k, k = longL false r := ⟨_, rfl⟩
        rw [← hkk] at hk HL
        have q1 : ¬ ((k : Int) = 1) := by omega
        have q2 : ¬ ((k : Int) = 2) := by omega
        clear hk hkk
        go_enter Tryd.func46, Tryd.ntmps46
        go_wp2_with (first | (go_at_call 45; refine (HL _).out.mono ?_; rintro e w' ⟨rfl, rfl⟩) | fail)
        go_ret
        exact ⟨by rw [HX.out]; rfl, rfl⟩
    · have HX : Hid ((rEnd (c :: r)).length = 0) := by show _ = _; rw [rEnd_else r h37 h46]; rfl
      have g1 : ¬ (c.toNat = 37) := fun e => h37 (UInt8.toNat_inj.1 (by rw [e]; rfl))
      have g2 : ¬ (c.toNat = 46) := fun e => h46 (UInt8.toNat_inj.1 (by rw [e]; rfl))
      obtain ⟨d, hd⟩ : ∃ d, d = c.toNat := ⟨_, rfl⟩
      rw [← hd] at hat0 g1 g2
      have g3 : ¬ ((d : Int) = 37) := by omega
      have g4 : ¬ ((d : Int) = 46) := by omega
      clear h37 h46 g1 g2 hd
      go_enter Tryd.func46, Tryd.ntmps46
      go_wp2_with (first | (go_at_call 45; refine (HL _).out.mono ?_; rintro e w' ⟨rfl, rfl⟩) | fail)
      go_ret
      exact ⟨by rw [HX.out]; rfl, rfl⟩
end Go.Proofs.YtjegfoeempojiaaDoor
