/-
  Contracts of lex.worth, rateEnd, hundredths.
-/
import Derived.Test.YtjegfoeempojiaaDoorLexA
import Derived.Test.YtjegfoeempojiaaDoorShelf
import Derived.Shelf.Strings.SlTrimAscii
namespace Go.Proofs.YtjegfoeempojiaaDoor
open Go.RowKit

theorem woL_take {l : List UInt8} {k : Nat} (h : k < l.length) : woL (l.take (k + 1)) = woL (l.take k) * 10 + ((l.getD k 0).toNat - 48) := by
  rw [List.take_succ_eq_append_getElem h, foldl_wo_snoc]
  have : l.getD k 0 = l[k] := by rw [List.getD_eq_getElem?_getD, List.getElem?_eq_getElem h]; rfl
  rw [this]

theorem woL_take_lt {l : List UInt8} (hf : ∀ c ∈ l, isFig c = true) (hl : l.length ≤ 16) (k : Nat) : woL (l.take k) < 10000000000000000 := by
  have h1 := woL_lt _ (l.take k) rfl (fun c hc => hf c (List.mem_of_mem_take hc))
  have h2 : 10 ^ (l.take k).length ≤ 10 ^ 16 := Nat.pow_le_pow_right (by omega) (by rw [List.length_take]; omega)
  have h3 : (10 : Nat) ^ 16 = 10000000000000000 := by decide
  omega

set_option maxHeartbeats 1000000 in
/-- worth: the number that at most sixteen figures say -/
theorem worth_any (l : List UInt8) (w : World) (hl : l.length ≤ 16) (hf : ∀ c ∈ l, isFig c = true) :
    Calls Tryd.prog 39 #[.string (st l)] w fun e w' => e = .returned (.int .i64 ((woL l : Nat) : Int)) ∧ w = w' := by
  have hsz := st_size l
  have HF := Lib.hid hf
  have HL := Lib.hid hl
  obtain ⟨n, hn⟩ : ∃ n, n = l.length := ⟨_, rfl⟩
  rw [← hn] at hsz hl
  have HN := Lib.hid hn
  clear hn hf
  go_enter Tryd.func39, Tryd.ntmps39
  go_wp2
  go_loopg [3, 4, 7] n (fun gk x _ i wr => w = wr ∧ ∃ k : Nat, k ≤ n ∧ i = .int .i64 k ∧ n - k ≤ gk ∧ x = .int .i64 ((woL (l.take k) : Nat) : Int))
  case atStart => exact ⟨rfl, 0, Nat.zero_le _, rfl, by omega, rfl⟩
  case round =>
    obtain ⟨rfl, k, hk, rfl, hgk, rfl⟩ := hrel
    by_cases hlt : k < n
    · have hkk : k < (st l).size := by omega
      have hat := st_at l k hkk
      have hkz : (0 : Int) ≤ (k : Int) := by omega
      have hkn : (k : Int) < (n : Int) := by omega
      have hc := woL_take_lt HF.out HL.out k
      have hfg : isFig (l.getD k 0) = true := by
        have h2 : k < l.length := by rw [← HN.out]; exact hlt
        rw [List.getD_eq_getElem?_getD, List.getElem?_eq_getElem h2]
        exact HF.out _ (List.getElem_mem h2)
      have HS := Lib.hid (woL_take (l := l) (k := k) (by rw [← HN.out]; exact hlt))
      obtain ⟨d, hd⟩ : ∃ d, d = (l.getD k 0).toNat := ⟨_, rfl⟩
      obtain ⟨v, hv⟩ : ∃ v, v = woL (l.take k) := ⟨_, rfl⟩
      have hdl : 48 ≤ d ∧ d ≤ 57 := by rw [hd]; simp [isFig] at hfg; exact hfg
      obtain ⟨hd1, hd2⟩ := hdl
      rw [← hd] at hat HS
      rw [← hv] at hc HS ⊢
      clear hd hv hfg
      go_wp2
      go_roundg (n - (k + 1))
      case measure => omega
      case rel =>
        refine ⟨rfl, k + 1, by omega, by go_num, by omega, ?_⟩
        rw [HS.out]
        go_num
    · have e : k = n := by omega
      subst e
      have HX : Hid (l.take k = l) := List.take_of_length_le (by rw [← HN.out]; exact Nat.le_refl _)
      go_wp2
      go_ret
      refine ⟨?_, rfl⟩
      rw [HX.out]
      rfl

theorem head_eq (b c : UInt8) (r : List UInt8) : Go.Lib.hasPrefix (c :: r) [b] = ((c :: r).head? == some b) := by
  show ((b == c) && List.isPrefixOf [] r) = (some c == some b)
  have e : List.isPrefixOf [] r = true := by cases r <;> rfl
  rw [e, Bool.and_true]
  show (b == c) = (c == b)
  exact BEq.comm

/-- HasPrefix with a text of one byte -/
theorem pfx_any (l : List UInt8) (b : UInt8) (w : World) :
    Calls Tryd.prog 48 #[.string (st l), .string (st [b])] w fun e w' => e = .returned (.bool (l.head? == some b)) ∧ w = w' := by
  refine (Tryd.strings_HasPrefix (st l) (st [b]) w).mono ?_
  rintro e w' ⟨rfl, rfl⟩
  refine ⟨?_, rfl⟩
  rw [st_toList, st_toList]
  cases l with
  | nil => rfl
  | cons c r => rw [head_eq]

/-- CutPrefix with a text of one byte -/
theorem cutp_any (l : List UInt8) (b : UInt8) (w : World) :
    Calls Tryd.prog 49 #[.string (st l), .string (st [b])] w fun e w' => e = .returned (.tuple #[.string (st (if l.head? == some b then l.drop 1 else l)), .bool (l.head? == some b)]) ∧ w = w' := by
  refine (Tryd.strings_CutPrefix (st l) (st [b]) w).mono ?_
  rintro e w' ⟨rfl, rfl⟩
  refine ⟨?_, rfl⟩
  have hp : Go.Lib.hasPrefix l [b] = (l.head? == some b) := by
    cases l with
    | nil => rfl
    | cons c r => exact head_eq b c r
  rw [st_toList, st_toList, Go.Lib.trimPrefix, hp]
  rfl

theorem st_drop_to (l : List UInt8) (n m : Nat) (h : m = l.length) : (st l).extract n m = st (l.drop n) := by
  rw [st_extract, h]
  congr 1
  rw [List.take_of_length_le (by simp)]

set_option maxHeartbeats 1000000 in
/-- rateEnd: what makes the figures ahead of a text a rate -/
theorem rateEnd_any (l : List UInt8) (w : World) (hl : l.length ≤ 4611686018427387904) :
    Calls Tryd.prog 40 #[.string (st l)] w fun e w' => e = .returned (.string (st (rEnd l))) ∧ w = w' := by
  have HP : ∀ l W, Hid (Calls Tryd.prog 48 #[.string (st l), .string ⟨#[37]⟩] W fun e w' => e = .returned (.bool (l.head? == some 37)) ∧ W = w') := fun l W => pfx_any l 37 W
  have HC : ∀ W, Hid (Calls Tryd.prog 49 #[.string (st l), .string ⟨#[46]⟩] W fun e w' => e = .returned (.tuple #[.string (st (if l.head? == some 46 then l.drop 1 else l)), .bool (l.head? == some 46)]) ∧ W = w') := fun W => cutp_any l 46 W
  go_enter Tryd.func40, Tryd.ntmps40
  cases hp : (l.head? == some 37) with
  | true =>
    have HR : Hid (rEnd l = [37]) := by
      show _ = _
      cases l with
      | nil => simp at hp
      | cons c r => simp at hp; subst hp; rfl
    have H1 := fun W => HP l W
    rw [hp] at H1
    clear hp HP HC
    go_wp2_with (first | (go_at_call 48; refine (H1 _).out.mono ?_; rintro e w' ⟨rfl, rfl⟩) | fail)
    go_ret
    refine ⟨?_, rfl⟩
    rw [HR.out]
    rfl
  | false =>
    have H1 := fun W => HP l W
    rw [hp] at H1
    have hpN : ¬ l.head? = some 37 := by simpa using hp
    clear hp
    cases hc : (l.head? == some 46) with
    | false =>
      have hcN : ¬ l.head? = some 46 := by simpa using hc
      have HR : Hid (rEnd l = []) := by
        show _ = _
        cases l with
        | nil => rfl
        | cons c r =>
          simp at hpN hcN
          show (if c = 37 then _ else if c = 46 then _ else _) = _
          rw [if_neg hpN, if_neg hcN]
      rw [hc] at HC
      clear hpN hcN hc HP
      go_wp2_with (first | (go_at_call 48; refine (H1 _).out.mono ?_; rintro e w' ⟨rfl, rfl⟩) | (go_at_call 49; refine (HC _).out.mono ?_; rintro e w' ⟨rfl, rfl⟩) | fail)
      go_ret
      refine ⟨?_, rfl⟩
      rw [HR.out]
      rfl
    | true =>
      obtain ⟨r, rfl⟩ : ∃ r, l = 46 :: r := by
        cases l with
        | nil => simp at hc
        | cons c r => simp at hc; subst hc; exact ⟨r, rfl⟩
      have hrl : r.length ≤ 4611686018427387904 := by simp at hl; omega
      have HC2 : ∀ W, Hid (Calls Tryd.prog 49 #[.string (st (46 :: r)), .string ⟨#[46]⟩] W fun e w' => e = .returned (.tuple #[.string (st r), .bool true]) ∧ W = w') := fun W => HC W
      clear HC hpN hc
      have HL : ∀ W, Hid (Calls Tryd.prog 38 #[.string (st r), .func (.func 31) #[] #[]] W fun e w' => e = .returned (.string (st (r.takeWhile isFig))) ∧ W = w') := fun W => longFig r W hrl
      obtain ⟨T, hT⟩ : ∃ T, T = r.takeWhile isFig := ⟨_, rfl⟩
      obtain ⟨n, hn⟩ : ∃ n, n = T.length := ⟨_, rfl⟩
      have hnr : n ≤ r.length := by rw [hn, hT]; exact (List.takeWhile_sublist _).length_le
      have hsz : (st T).size = n := by rw [st_size, hn]
      have hszr := st_size r
      have hszl : (st (46 :: r)).size = r.length + 1 := by rw [st_size]; rfl
      rw [← hT] at HL
      have HR0 : Hid (rEnd (46 :: r) = if n < 1 ∨ 2 < n ∨ (r.drop n).head? ≠ some 37 then [] else (46 :: r).take (n + 2)) := by
        show _ = _
        rw [hn, hT]
        rfl
      have hex : (st r).extract n r.length = st (r.drop n) := st_drop_to r n _ rfl
      have hex2 : (st (46 :: r)).extract 0 (n + 2) = st ((46 :: r).take (n + 2)) := by rw [st_extract]; rfl
      have hnl : ((r.drop n).head? == some 37) = true → n < r.length := by
        intro h
        rcases Nat.lt_or_ge n r.length with k | k
        · exact k
        · rw [List.drop_eq_nil_of_le k] at h; simp at h
      generalize r.length = m at hszr hszl hrl hnr hex hnl
      clear hT hn hl
      by_cases h1 : n < 1
      · have h1' : (n : Int) < 1 := by omega
        have HR : Hid (rEnd (46 :: r) = []) := by show _ = _; rw [HR0.out, if_pos (.inl h1)]
        clear HR0
        go_wp2_with (first | (go_at_call 48; refine (H1 _).out.mono ?_; rintro e w' ⟨rfl, rfl⟩) | (go_at_call 49; refine (HC2 _).out.mono ?_; rintro e w' ⟨rfl, rfl⟩) | (go_at_call 38; refine (HL _).out.mono ?_; rintro e w' ⟨rfl, rfl⟩) | fail)
        go_ret
        refine ⟨?_, rfl⟩
        rw [HR.out]
        rfl
      have h1' : ¬ (n : Int) < 1 := by omega
      by_cases h2 : 2 < n
      · have h2' : (2 : Int) < (n : Int) := by omega
        have HR : Hid (rEnd (46 :: r) = []) := by show _ = _; rw [HR0.out, if_pos (.inr (.inl h2))]
        clear HR0
        go_wp2_with (first | (go_at_call 48; refine (H1 _).out.mono ?_; rintro e w' ⟨rfl, rfl⟩) | (go_at_call 49; refine (HC2 _).out.mono ?_; rintro e w' ⟨rfl, rfl⟩) | (go_at_call 38; refine (HL _).out.mono ?_; rintro e w' ⟨rfl, rfl⟩) | fail)
        go_ret
        refine ⟨?_, rfl⟩
        rw [HR.out]
        rfl
      have h2' : ¬ (2 : Int) < (n : Int) := by omega
      have hn0 : (0 : Int) ≤ (n : Int) := by omega
      have hnm : (n : Int) ≤ (m : Int) := by omega
      have H2 := fun W => HP (r.drop n) W
      cases hp : ((r.drop n).head? == some 37) with
      | false =>
        have HR : Hid (rEnd (46 :: r) = []) := by show _ = _; rw [HR0.out, if_pos (.inr (.inr (by simpa using hp)))]
        rw [hp] at H2
        clear HR0 HP hp
        go_wp2_with (first | (go_at_call 48; with_reducible refine (H1 _).out.mono ?_; rintro e w' ⟨rfl, rfl⟩) | (go_at_call 48; with_reducible refine (H2 _).out.mono ?_; rintro e w' ⟨rfl, rfl⟩) | (go_at_call 49; refine (HC2 _).out.mono ?_; rintro e w' ⟨rfl, rfl⟩) | (go_at_call 38; refine (HL _).out.mono ?_; rintro e w' ⟨rfl, rfl⟩) | fail)
        go_ret
        refine ⟨?_, rfl⟩
        rw [HR.out]
        rfl
      | true =>
        have HR : Hid (rEnd (46 :: r) = (46 :: r).take (n + 2)) := by show _ = _; rw [HR0.out, if_neg (by simp at hp; simp [hp]; omega)]
        have hlt := hnl hp
        rw [hp] at H2
        clear HR0 HP hp hnl
        go_wp2_with (first | (go_at_call 48; with_reducible refine (H1 _).out.mono ?_; rintro e w' ⟨rfl, rfl⟩) | (go_at_call 48; with_reducible refine (H2 _).out.mono ?_; rintro e w' ⟨rfl, rfl⟩) | (go_at_call 49; refine (HC2 _).out.mono ?_; rintro e w' ⟨rfl, rfl⟩) | (go_at_call 38; refine (HL _).out.mono ?_; rintro e w' ⟨rfl, rfl⟩) | fail)
        go_ret
        refine ⟨?_, rfl⟩
        rw [HR.out, ← hex2, show n + 2 = 1 + n + 1 by omega]
        rfl
end Go.Proofs.YtjegfoeempojiaaDoor
