/-
  Plain: what is parsed of a text, and that a command's text is parsed as it.
-/
import Derived.Test.YtkflakeocdlinaaGreatDoorCmGMP
import Derived.Lib.SplitLaws
import Derived.Lib.ParseIntBTie
import Derived.Lib.ParseIntBCases
namespace Go.Proofs.YtkflakeocdlinaaGreatDoor
open Go.RowKit
set_option linter.unusedSimpArgs false

theorem index_not : ∀ (w : List UInt8) (c : UInt8), c ∉ w → Go.Lib.index w [c] = -1
  | [], c, _ => rfl
  | b :: l, c, h => by
    have h1 : (c == b) = false := by rw [beq_eq_false_iff_ne]; exact fun e => h (by rw [e]; simp)
    have h2 := index_not l c (fun e => h (List.mem_cons_of_mem _ e))
    unfold Go.Lib.index
    simp only [List.isPrefixOf, h1, Bool.false_and, Bool.false_eq_true, if_false, h2]
    rfl
theorem index_hit : ∀ (w : List UInt8) (c : UInt8) (r : List UInt8), c ∉ w → Go.Lib.index (w ++ c :: r) [c] = (w.length : Int)
  | [], c, r, _ => by simp [Go.Lib.index, List.isPrefixOf]
  | b :: l, c, r, h => by
    have h1 : (c == b) = false := by rw [beq_eq_false_iff_ne]; exact fun e => h (by rw [e]; simp)
    have h2 := index_hit l c r (fun e => h (List.mem_cons_of_mem _ e))
    rw [List.cons_append]
    unfold Go.Lib.index
    simp only [List.isPrefixOf, h1, Bool.false_and, Bool.false_eq_true, if_false, h2]
    rw [if_neg (by simp)]
    simp

/-- figures as a number -/
def numW (l : List UInt8) : Int :=
  match Go.Lib.parseIntB 64 l with
  | .ok v => v
  | .range => Go.Lib.intSat 64 l
  | _ => 0

theorem digL_lo {n : Nat} (h : n < 10) : digL n = [UInt8.ofNat (48 + n)] := Go.Lib.decDigits_one h
theorem digL_hi {n : Nat} (h : ¬ n < 10) : digL n = digL (n / 10) ++ [UInt8.ofNat (48 + n % 10)] := by unfold digL; rw [Go.Lib.decDigits, dif_neg h]
theorem digL_all (n : Nat) : ∀ b ∈ digL n, 48 ≤ b.toNat ∧ b.toNat ≤ 57 := by
  induction n using Nat.strongRecOn with
  | ind n ih =>
    intro b hb
    have hx : ∀ d, d < 10 → 48 ≤ (UInt8.ofNat (48 + d)).toNat ∧ (UInt8.ofNat (48 + d)).toNat ≤ 57 := fun d hd => by
      have : (UInt8.ofNat (48 + d)).toNat = 48 + d := by
        rw [UInt8.toNat_ofNat']
        exact Nat.mod_eq_of_lt (by omega)
      omega
    by_cases h : n < 10
    · rw [digL_lo h, List.mem_singleton] at hb
      rw [hb]
      exact hx n h
    · rw [digL_hi h, List.mem_append, List.mem_singleton] at hb
      rcases hb with hb | hb
      · exact ih (n / 10) (by omega) b hb
      · rw [hb]; exact hx _ (by omega)
theorem digL_ne (n : Nat) : digL n ≠ [] := by
  by_cases h : n < 10
  · rw [digL_lo h]; simp
  · rw [digL_hi h]; simp

theorem uintM_append (M : Nat) : ∀ (l : List UInt8) (acc a : Nat) (r : List UInt8), Go.Lib.parseUintM M acc l = .ok a → Go.Lib.parseUintM M acc (l ++ r) = Go.Lib.parseUintM M a r
  | [], acc, a, r, h => by
    rw [Go.Lib.parseUintM] at h
    injection h with h
    rw [h]; rfl
  | c :: l, acc, a, r, h => by
    rw [Go.Lib.parseUintM] at h
    rw [List.cons_append, Go.Lib.parseUintM]
    split at h
    · rename_i h1
      rw [if_pos h1]
      split at h
      · cases h
      · rename_i h2
        rw [if_neg h2]
        split at h
        · cases h
        · rename_i h3
          rw [if_neg h3]
          exact uintM_append M l _ a r h
    · cases h
theorem uintM_dig (n : Nat) (h : n ≤ 9223372036854775807) : Go.Lib.parseUintM (2 ^ 64 - 1) 0 (digL n) = .ok n := by
  induction n using Nat.strongRecOn with
  | ind n ih =>
    have hx : ∀ d, d < 10 → (UInt8.ofNat (48 + d)).toNat = 48 + d := fun d hd => by
      rw [UInt8.toNat_ofNat']
      exact Nat.mod_eq_of_lt (by omega)
    by_cases h9 : n < 10
    · rw [digL_lo h9, Go.Lib.parseUintM, hx n h9, if_pos (by omega), if_neg (by omega), if_neg (by omega), Go.Lib.parseUintM]
      congr 1; omega
    · rw [digL_hi h9, uintM_append _ _ _ _ _ (ih (n / 10) (by omega) (by omega)), Go.Lib.parseUintM, hx (n % 10) (by omega), if_pos (by omega), if_neg (by omega), if_neg (by omega), Go.Lib.parseUintM]
      congr 1; omega
theorem numW_dig (n : Nat) (h : n ≤ 1125899906842624) : numW (digL n) = (n : Int) := by
  have h1 := uintM_dig n (by omega)
  have h2 := digL_all n
  unfold numW
  cases hd : digL n with
  | nil => exact absurd hd (digL_ne n)
  | cons c r =>
    rw [hd] at h1 h2
    have hc := h2 c (by simp)
    rw [Go.Lib.parseIntB_plain 64 c r (by omega) (by omega)]
    have e : Go.Lib.parseUintB 64 (c :: r) = .ok n := by
      unfold Go.Lib.parseUintB
      rw [if_neg (by simp), h1]
    rw [e]
    unfold Go.Lib.signlessC
    simp only
    rw [if_neg (by omega)]

/-- a word as a share -/
def shW (w : List UInt8) : Sh := ((Go.Lib.cut w [58]).1, numW (Go.Lib.cut w [58]).2.1)
theorem shW_of (p : List UInt8) (n : Nat) (hp : (58 : UInt8) ∉ p) (h : n ≤ 1125899906842624) : shW (p ++ [58] ++ digL n) = (p, (n : Int)) := by
  have e : p ++ [58] ++ digL n = p ++ 58 :: digL n := by simp
  have hi := index_hit p 58 (digL n) hp
  unfold shW Go.Lib.cut
  rw [e, hi, if_pos (by omega)]
  simp [numW_dig n h]

/-- a text's words -/
def splitW (s : List UInt8) : List (List UInt8) := Go.Lib.splitK [32] 0 (min 14 (s.length + 1) - 1) s
theorem splitK_join : ∀ (r : List (List UInt8)) (x : List UInt8) (k : Nat), (∀ w ∈ x :: r, (32 : UInt8) ∉ w) → r.length ≤ k → Go.Lib.splitK [32] 0 k (Go.Lib.join (x :: r) [32]) = x :: r
  | [], x, k, h, _ => by
    rw [Go.Lib.join_one]
    cases k with
    | zero => rfl
    | succ k =>
      rw [Go.Lib.splitK, index_not x 32 (h x (by simp))]
      rfl
  | y :: r, x, k, h, hk => by
    obtain ⟨k, rfl⟩ : ∃ k', k = k' + 1 := ⟨k - 1, by simp at hk; omega⟩
    have e : Go.Lib.join (x :: y :: r) [32] = x ++ 32 :: Go.Lib.join (y :: r) [32] := by
      rw [Go.Lib.join_cons, Go.Lib.join_cons]
      simp [Go.Lib.joinTail]
    rw [e, Go.Lib.splitK, index_hit x 32 _ (h x (by simp))]
    rw [if_neg (by simp)]
    have e2 : (x ++ 32 :: Go.Lib.join (y :: r) [32]).drop ((x.length : Int).toNat + [(32 : UInt8)].length) = Go.Lib.join (y :: r) [32] := by simp
    rw [e2, splitK_join r y k (fun w hw => h w (List.mem_cons_of_mem _ hw)) (by simp at hk; omega)]
    simp
theorem splitW_join (x : List UInt8) (r : List (List UInt8)) (h : ∀ w ∈ x :: r, (32 : UInt8) ∉ w) (hr : r.length ≤ 13) : splitW (Go.Lib.join (x :: r) [32]) = x :: r := by
  unfold splitW
  refine splitK_join r x _ h ?_
  rw [Go.Lib.join_length]
  simp only [List.length_cons, List.length_nil]
  omega

/-- a command with a field that is read -/
def readF (c : Cm) (f : Nat) (ws : List (List UInt8)) : Cm :=
  match f with
  | 0 => { c with id := ws.headD [] }
  | 1 => { c with about := ws.headD [] }
  | 2 => { c with about := ws.headD [] }
  | 3 => { c with cur := ws.headD [] }
  | 4 => if ws.headD [] = [45] then c else { c with cat := ws.headD [] }
  | 5 => { c with cat := ws.headD [] }
  | 6 => { c with amt := numW (ws.headD []) }
  | 7 => { c with amt := numW (ws.headD []) }
  | 8 => { c with sh := ws.map shW }
  | _ => c
def readL : List Nat → List (List UInt8) → Cm → Cm
  | f :: fs, w :: ws, c => readL fs ws (readF c f (w :: ws))
  | _, _, c => c
def parW (ws : List (List UInt8)) : Cm := readL ((formC (ws.headD [])).getD []) ws.tail ⟨ws.headD [], [], [], [], [], 0, []⟩
def parC (s : List UInt8) : Cm := parW (splitW s)

theorem name_no {s : List UInt8} {m : Nat} (h : nameB s m = true) {b : UInt8} (hb : nlB b.toNat = false) : b ∉ s := fun e => by
  have := (nameB_some h).2.2.2 b e
  rw [hb] at this; cases this
theorem cur_no {s : List UInt8} (h : curB s = true) {b : UInt8} (hb : capB b.toNat = false) : b ∉ s := fun e => by
  have := (curB_some h).2 b e
  rw [hb] at this; cases this
theorem dig_no (n : Nat) {b : UInt8} (hb : b.toNat < 48 ∨ 57 < b.toNat) : b ∉ digL n := fun e => by
  have := digL_all n b e; omega
theorem orD_no {t : List UInt8} (h : t = [] ∨ nameB t 20 = true) : (32 : UInt8) ∉ orD t := by
  unfold orD
  split
  · decide
  · rcases h with h | h
    · contradiction
    · exact name_no h (by decide)

theorem names_each {s : List Sh} (h : namesB s = true) : ∀ x ∈ s, nameB x.1 20 = true := by
  unfold namesB at h
  exact List.all_eq_true.1 h

/-- what is printed is parsed -/
theorem parC_text {c : Cm} (h : GoodC c) : parC (textC c) = c := by
  cases h with
  | sale i u t a s h1 h2 h3 h4 h5 h6 =>
    obtain ⟨r1, r2, r3⟩ := rgF_few8 h6
    have hw : wordsC ⟨kSale, i, [], u, t, a, s⟩ [0, 3, 4, 6, 8] = kSale :: i :: u :: orD t :: digL a.toNat :: s.map fun y => y.1 ++ [58] ++ digL y.2.toNat := by simp [wordsC, wordsF]
    have ht : textC ⟨kSale, i, [], u, t, a, s⟩ = Go.Lib.join (wordsC ⟨kSale, i, [], u, t, a, s⟩ [0, 3, 4, 6, 8]) [32] := rfl
    rw [ht, hw]
    unfold parC
    rw [splitW_join _ _ (fun w hm => by
      simp only [List.mem_cons] at hm
      rcases hm with rfl | rfl | rfl | rfl | rfl | hm
      · decide
      · exact name_no h1 (by decide)
      · exact cur_no h2 (by decide)
      · exact orD_no h3
      · exact dig_no _ (.inl (by decide))
      · obtain ⟨y, hy, rfl⟩ := List.mem_map.1 hm
        simp only [List.mem_append, not_or]
        exact ⟨⟨name_no (names_each h5 y hy) (by decide), by decide⟩, dig_no _ (.inl (by decide))⟩) (by simp; omega)]
    have hs : (s.map fun y => y.1 ++ [58] ++ digL y.2.toNat).map shW = s := by
      rw [List.map_map]
      conv => rhs; rw [← List.map_id s]
      refine List.map_congr_left fun y hy => ?_
      have hb := badS_not (r3 y hy)
      show shW (y.1 ++ [58] ++ digL y.2.toNat) = y
      rw [shW_of y.1 y.2.toNat (name_no (names_each h5 y hy) (by decide)) (by omega), show ((y.2.toNat : Nat) : Int) = y.2 by omega]
    have hn : numW (digL a.toNat) = a := by rw [numW_dig _ (by omega)]; omega
    have hf : formC kSale = some [0, 3, 4, 6, 8] := rfl
    unfold parW
    simp only [List.headD_cons, List.tail_cons, hf, Option.getD_some]
    obtain ⟨ys, hys⟩ : ∃ ys, ys = s.map fun y => y.1 ++ [58] ++ digL y.2.toNat := ⟨_, rfl⟩
    rw [← hys] at hs ⊢
    clear hys
    cases ys with
    | nil => rw [← hs] at r1; simp at r1
    | cons y0 ys =>
      simp only [List.map_cons] at hs
      by_cases e : t = []
      · simp [readL, readF, orD, e, hn, hs]
      · have e45 : t ≠ [45] := by
          rcases h3 with h3 | h3
          · exact absurd h3 e
          · exact (nameB_some h3).2.1
        simp [readL, readF, orD, e, e45, hn, hs]
  | take k i b a hk h1 h2 h4 =>
    have hf : formC k = some [0, 1, 6] := by rcases hk with rfl | rfl <;> rfl
    have hw : wordsC ⟨k, i, b, [], [], a, []⟩ [0, 1, 6] = k :: [i, b, digL a.toNat] := by simp [wordsC, wordsF]
    have ht : textC ⟨k, i, b, [], [], a, []⟩ = Go.Lib.join (wordsC ⟨k, i, b, [], [], a, []⟩ [0, 1, 6]) [32] := by unfold textC; simp only [hf]; rfl
    rw [ht, hw]
    unfold parC
    rw [splitW_join _ _ (fun w hm => by
      simp only [List.mem_cons, List.not_mem_nil, or_false] at hm
      rcases hm with rfl | rfl | rfl | rfl
      · rcases hk with rfl | rfl <;> decide
      · exact name_no h1 (by decide)
      · exact name_no h2 (by decide)
      · exact dig_no _ (.inl (by decide))) (by simp)]
    have hn : numW (digL a.toNat) = a := by rw [numW_dig _ (by omega)]; omega
    unfold parW
    simp [hf, readL, readF, hn]
  | two k i b hk h1 h2 =>
    have hf : formC k = some [0, 1] := by rcases hk with rfl | rfl | rfl <;> rfl
    have hw : wordsC ⟨k, i, b, [], [], 0, []⟩ [0, 1] = k :: [i, b] := by simp [wordsC, wordsF]
    have ht : textC ⟨k, i, b, [], [], 0, []⟩ = Go.Lib.join (wordsC ⟨k, i, b, [], [], 0, []⟩ [0, 1]) [32] := by unfold textC; simp only [hf]; rfl
    rw [ht, hw]
    unfold parC
    rw [splitW_join _ _ (fun w hm => by
      simp only [List.mem_cons, List.not_mem_nil, or_false] at hm
      rcases hm with rfl | rfl | rfl
      · rcases hk with rfl | rfl | rfl <;> decide
      · exact name_no h1 (by decide)
      · exact name_no h2 (by decide)) (by simp)]
    unfold parW
    simp [hf, readL, readF]
  | tick =>
    have ht : textC ⟨kTick, [], [], [], [], 0, []⟩ = Go.Lib.join (kTick :: []) [32] := rfl
    rw [ht]
    unfold parC
    rw [splitW_join _ _ (fun w hm => by
      simp only [List.mem_cons, List.not_mem_nil, or_false] at hm
      rw [hm]; decide) (by simp)]
    rfl
  | reply b t a h1 h2 h4 =>
    have hf : formC kReply = some [2, 5, 7] := rfl
    have hot : orD t = t := by unfold orD; rw [if_neg (nameB_some h2).1]
    have hw : wordsC ⟨kReply, [], b, [], t, a, []⟩ [2, 5, 7] = kReply :: [b, t, digL a.toNat] := by simp [wordsC, wordsF, hot]
    have ht : textC ⟨kReply, [], b, [], t, a, []⟩ = Go.Lib.join (wordsC ⟨kReply, [], b, [], t, a, []⟩ [2, 5, 7]) [32] := rfl
    rw [ht, hw]
    unfold parC
    rw [splitW_join _ _ (fun w hm => by
      simp only [List.mem_cons, List.not_mem_nil, or_false] at hm
      rcases hm with rfl | rfl | rfl | rfl
      · decide
      · exact name_no h1 (by decide)
      · exact name_no h2 (by decide)
      · exact dig_no _ (.inl (by decide))) (by simp)]
    have hn : numW (digL a.toNat) = a := by rw [numW_dig _ (by omega)]; omega
    unfold parW
    simp [hf, readL, readF, hn]
end Go.Proofs.YtkflakeocdlinaaGreatDoor
