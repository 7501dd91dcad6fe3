/-
  Contracts of souklaw06.lives, small.
-/
import Derived.Test.YtbpklikmldpeiaaMA05
namespace Go.Proofs.Ytbpklikmldpeiaa
open Go.RowKit Go.Lib

def a10 : List UInt8 := List.replicate 10 97
def b60 : List UInt8 := List.replicate 60 98
theorem a10_len : a10.length = 10 := by simp [a10]
theorem b60_len : b60.length = 60 := by simp [b60]
theorem lives_ok1 : AllOk [a10] := by
  have := AllOk.nil.snoc (p := a10) ⟨by simp, by simp, by rw [a10_len]; omega, by rw [a10_len]; omega⟩
  simpa using this
theorem lives_ok2 : AllOk [a10, b60] := by
  have := lives_ok1.snoc (p := b60) ⟨by simp, by simp, by rw [b60_len]; omega, by rw [b60_len]; omega⟩
  simpa using this
theorem lives_u1 : used [a10] = 1 := by
  have := used_snoc [] a10
  rw [a10_len] at this
  simpa [used, layd, cnt] using this
theorem lives_u2 : used [a10, b60] = 3 := by
  have := used_snoc [a10] b60
  rw [b60_len, lives_u1] at this
  simpa [cnt] using this
theorem lives_n1 : Next [] 9 a10 [a10] 8 0 := by
  have he := app_yes (ps := []) (z := 9) (p := a10) (lives_ok1 0 a10 rfl) (by rw [a10_len]; decide)
  rw [a10_len] at he
  refine ⟨he, lives_ok1, by rw [lives_u1]; rfl, rfl, ?_, .inl ⟨rfl, rfl⟩⟩
  unfold uAfter; rw [if_pos rfl, a10_len, lives_u1]; rfl
theorem lives_n2 : Next [a10] 8 b60 [a10, b60] 6 0 := by
  have he := app_yes (ps := [a10]) (z := 8) (p := b60) (lives_ok2 1 b60 rfl) (by rw [b60_len]; decide)
  rw [b60_len] at he
  refine ⟨he, lives_ok2, by rw [lives_u1, lives_u2], rfl, ?_, .inl ⟨rfl, rfl⟩⟩
  unfold uAfter; rw [if_pos rfl, b60_len, lives_u1, lives_u2]; rfl

set_option maxHeartbeats 2000000 in
set_option maxRecDepth 100000 in
theorem lives6_any (w : World) : Calls Try.prog 6 #[] w fun e w' => e = .returned (.bool true) ∧ Below w.heap.size w w' := by
  have H1 : Hid (Calls Try.prog 8 #[.int .i64 9] w fun e w' => ∃ b, e = .returned (.pointer (some ⟨b, 0, none⟩)) ∧ ∃ fp, PDr b (Cl [] 9) w' fp ∧ Below w.heap.size w w' ∧ ∀ k ∈ fp, w.heap.size ≤ k) := new_cl 9 w (by omega)
  have HRA : ∀ W, Hid (Calls Try.prog 22 #[.string ⟨#[97]⟩, .int .i64 10] W fun e w' => e = .returned (.string (st a10)) ∧ Below W.heap.size W w') := fun W => repeat_one 97 10 W (by omega)
  have HRB : ∀ W, Hid (Calls Try.prog 22 #[.string ⟨#[98]⟩, .int .i64 60] W fun e w' => e = .returned (.string (st b60)) ∧ Below W.heap.size W w') := fun W => repeat_one 98 60 W (by omega)
  go_enter Try.func6, Try.ntmps6
  go_wp2_with fail
  with_reducible refine H1.out.mono ?_
  rintro e w1 ⟨b, rfl, fp, hp, hb1, hf⟩
  have HA1 : Hid (After [] w w1 (PDr b (Cl [] 9) w1)) := ⟨fp, hp, Stp.of_below hb1, fun k hk => .inr (hf k hk)⟩
  clear hp hb1 hf H1
  have H2 := Lib.hid (HA1.out.call (f := 10) (args := #[.pointer (some ⟨b, 0, none⟩)]) (p := Try.prog) fun fp hp => open_cl_any b [] 9 fp w1 hp AllOk.nil (by simp [used, layd]))
  go_wp2_with fail
  with_reducible refine H2.out.mono ?_
  rintro e w2 ⟨⟨jb, v⟩, rfl, ha⟩
  have HA2 : Hid (After [] w w2 (JCl jb b [] 9 w2)) := ha.left
  obtain ⟨va, vc, hv⟩ := ha.right.know fun _ hp => hp.form
  simp only at hv
  subst hv
  clear ha H2 HA1
  go_wp2_with fail
  with_reducible refine (HRA _).out.mono ?_
  rintro e w3 ⟨rfl, hb⟩
  have H3 := Lib.hid ((HA2.out.since (JCl.stays _ _ _ _) hb).call1 (f := 12) (args := #[.pointer (some ⟨jb, 0, none⟩), .string (st a10)]) (p := Try.prog) fun fp hp => append_cl jb b lives_n1 fp w3 hp AllOk.nil (by simp [used, layd]) (by rw [a10_len]; omega))
  clear hb HA2 HRA
  go_wp2_with fail
  with_reducible refine H3.out.mono ?_
  rintro e w4 ⟨rfl, ha⟩
  have HA4 := Lib.hid ha
  clear ha H3
  go_wp2_with fail
  with_reducible refine (HRB _).out.mono ?_
  rintro e w5 ⟨rfl, hb⟩
  have H4 := Lib.hid ((HA4.out.since (JCl.stays _ _ _ _) hb).call1 (f := 12) (args := #[.pointer (some ⟨jb, 0, none⟩), .string (st b60)]) (p := Try.prog) fun fp hp => append_cl jb b lives_n2 fp w5 hp lives_ok1 (by rw [lives_u1]; omega) (by rw [b60_len]; omega))
  clear hb HA4 HRB
  go_wp2_with fail
  with_reducible refine H4.out.mono ?_
  rintro e w6 ⟨rfl, ha⟩
  have HA6 := Lib.hid ha
  have H5 : Hid (Calls Try.prog 17 #[.pointer (some ⟨b, 0, none⟩)] w6 fun e w' => ∃ g n, n = (Cl [a10, b60] 6).bl.length ∧ e = .returned (.slice (some ⟨g, 0, none⟩) n n) ∧ RowS w' (some ⟨g, 0, none⟩) (Cl [a10, b60] 6).bl ∧ Below w6.heap.size w6 w') := by
    obtain ⟨f, hd⟩ := ha.know fun _ hp => hp.disk
    exact all_row b _ f w6 hd
  clear ha H4
  go_wp2_with fail
  with_reducible refine H5.out.mono ?_
  rintro e w7 ⟨g, n, hn, rfl, hrow, hb⟩
  have HA7 := Lib.hid (HA6.out.since (JCl.stays _ _ _ _) hb)
  have H6 := records_cl g n [a10, b60] 6 w7 hrow hn lives_ok2 (by rw [lives_u2]; omega)
  rw [lives_u2] at H6
  have H6 := Lib.hid H6
  clear hb hrow hn H5 HA6
  go_wp2_with fail
  with_reducible refine H6.out.mono ?_
  rintro e w8 ⟨v, rfl, hb, hx, _⟩
  obtain ⟨xa, xc, rfl⟩ := hx.form
  have HA8 := Lib.hid (HA7.out.since (JCl.stays _ _ _ _) hb)
  have H7 := Lib.hid (HA8.out.know fun fp hp => jnLen_any jb b (Cl [a10, b60] 6) 2 (used [a10, b60]) fp w8 hp)
  have H8 := HA8.out.know fun fp hp => jnLeft_any jb b (Cl [a10, b60] 6) 2 (used [a10, b60]) fp w8 hp (by rw [Cl.len]; omega)
  rw [Cl.len, lives_u2] at H8
  have H8 := Lib.hid H8
  rw [show [a10, b60].length = 2 from rfl]
  clear hb hx H6 HA7
  go_wp2_with fail
  with_reducible refine H7.out.mono ?_
  rintro e w9 ⟨rfl, rfl⟩
  go_wp2_with fail
  with_reducible refine H8.out.mono ?_
  rintro e w9 ⟨rfl, q, rfl⟩
  go_wp2
  go_ret
  exact ⟨rfl, (HA8.out.drewN (JCl.stays _ _ _ _) q).bel⟩

/-- how much texts are -/
def bulk6 (ls : List (List UInt8)) : Nat := (ls.map fun s => 1 + s.length).sum
theorem bulk6_succ {ls : List (List UInt8)} {k : Nat} {x : List UInt8} (h : ls[k]? = some x) : bulk6 (ls.take (k + 1)) = bulk6 (ls.take k) + (1 + x.length) := by
  obtain ⟨hlt, he⟩ := List.getElem?_eq_some_iff.1 h
  unfold bulk6
  rw [List.take_succ_eq_append_getElem hlt, he, List.map_append, List.sum_append]
  simp
theorem bulk6_mem {ls : List (List UInt8)} {x : List UInt8} (h : x ∈ ls) : x.length ≤ bulk6 ls := by
  induction ls with
  | nil => cases h
  | cons y r ih =>
    unfold bulk6
    rw [List.map_cons, List.sum_cons]
    rcases List.mem_cons.1 h with rfl | h
    · omega
    · have := ih h
      unfold bulk6 at this
      omega
theorem bulk6_le (ls : List (List UInt8)) {m : Nat} (h : ∀ x ∈ ls, x.length ≤ m) : ∀ k, bulk6 (ls.take k) ≤ ls.length * (1 + m) := by
  intro k
  induction ls generalizing k with
  | nil => simp [bulk6]
  | cons y r ih =>
    cases k with
    | zero => simp [bulk6]
    | succ k =>
      have h1 := ih (fun x hx => h x (List.mem_cons_of_mem _ hx)) k
      have h2 := h y List.mem_cons_self
      unfold bulk6 at h1 ⊢
      rw [List.take_succ_cons, List.map_cons, List.sum_cons, List.length_cons, Nat.succ_mul]
      omega

/-- are they few -/
def Few (ls : List (List UInt8)) : Prop := bulk6 ls ≤ 4000 ∧ ls.length ≤ 30

theorem few_not {ls : List (List UInt8)} (h : ¬ ls.length ≤ 30) : ¬ Few ls := fun hf => h hf.2

set_option maxHeartbeats 1000000 in
set_option maxRecDepth 100000 in
theorem small6_few (a : Option Addr) (c : Nat) (ls : List (List UInt8)) (w : World) (hr : RowS w a ls) (hs : ∀ x ∈ ls, x.length ≤ 281474976710656) (hl : ls.length ≤ 30) (sb : Bool) (hsb : sb = true ↔ bulk6 ls ≤ 4000) :
    Calls Try.prog 7 #[.slice a ls.length c] w fun e w' => e = .returned (.bool sb) ∧ w = w' := by
  have HBL := Lib.hid (bulk6_le ls hs)
  obtain ⟨n, hn⟩ : ∃ n, n = ls.length := ⟨_, rfl⟩
  have HN := Lib.hid hn
  have HR := Lib.hid hr
  have HSB := Lib.hid hsb
  rw [← hn] at hl HBL ⊢
  have HB2 : Hid (∀ k, bulk6 (ls.take k) ≤ 30 * 281474976710657) := fun k => Nat.le_trans (HBL.out k) (Nat.mul_le_mul_right _ hl)
  clear hn hr hs HBL hsb
  go_enter Try.func7, Try.ntmps7
  go_wp2
  go_loopg [3, 5, 8] n (fun gk z _ i wr => ∃ k m : Nat, k ≤ n ∧ i = .int .i64 k ∧ z = .int .i64 (m : Int) ∧ n - k ≤ gk ∧ Hid (m = bulk6 (ls.take k)) ∧ Hid (wr = w))
  case atStart => exact ⟨0, 0, Nat.zero_le _, rfl, rfl, by omega, rfl, rfl⟩
  case round =>
    obtain ⟨k, m, hk, rfl, rfl, hgk, HM, HW⟩ := hrel
    have e := HW.out
    subst e
    by_cases hlt : k < n
    · obtain ⟨x, hx⟩ : ∃ x, ls[k]? = some x := ⟨_, List.getElem?_eq_getElem (by rw [← HN.out]; exact hlt)⟩
      obtain ⟨b, off, rfl, hc⟩ := HR.out (by rw [← HN.out]; omega)
      have ck := hc k x hx
      have hkz : (0 : Int) ≤ (k : Int) := by omega
      have hkn : (k : Int) < (n : Int) := by omega
      have hsz := st_size x
      have hsu := bulk6_succ hx
      have hms : m + (1 + x.length) ≤ 30 * 281474976710657 := by
        have h1 := HB2.out (k + 1)
        have h2 := HM.out
        omega
      have w1 : IntKind.i64.wrap (1 + (x.length : Int)) = 1 + (x.length : Int) := IntWalk.i64_in _ (by omega)
      have w2 : IntKind.i64.wrap ((m : Int) + (1 + (x.length : Int))) = (m : Int) + (1 + (x.length : Int)) := IntWalk.i64_in _ (by omega)
      have HSU := Lib.hid hsu
      clear hc hx hms hsu
      go_wp2
      go_roundg (n - (k + 1))
      case measure => omega
      case rel => exact ⟨k + 1, m + (1 + x.length), by omega, by go_num, by go_num, by omega, by show _ = _; rw [HSU.out, HM.out], rfl⟩
    · have e : k = n := by omega
      subst e
      have e2 : m = bulk6 ls := by rw [HM.out, List.take_of_length_le (by rw [← HN.out]; exact Nat.le_refl _)]
      have hk30 : (k : Int) ≤ 30 := by omega
      by_cases hb : m ≤ 4000
      · have hbz : (m : Int) ≤ 4000 := by omega
        have e3 : sb = true := HSB.out.2 (by omega)
        subst e3
        clear e2
        go_wp2
        go_ret
        exact ⟨rfl, rfl⟩
      · have hbz : ¬ (m : Int) ≤ 4000 := by omega
        have e3 : sb = false := by
          cases sb with
          | false => rfl
          | true => exact absurd (HSB.out.1 rfl) (by omega)
        subst e3
        clear e2
        go_wp2
        go_ret
        exact ⟨rfl, rfl⟩

set_option maxHeartbeats 1000000 in
set_option maxRecDepth 100000 in
theorem small6_many (a : Option Addr) (c : Nat) (ls : List (List UInt8)) (w : World) (hr : RowS w a ls) (hl : 30 < ls.length) (hm : ls.length ≤ 9223372036854775807) :
    Calls Try.prog 7 #[.slice a ls.length c] w fun e w' => e = .returned (.bool false) ∧ w = w' := by
  obtain ⟨n, hn⟩ : ∃ n, n = ls.length := ⟨_, rfl⟩
  have HN := Lib.hid hn
  have HR := Lib.hid hr
  rw [← hn] at hl hm ⊢
  clear hn hr
  go_enter Try.func7, Try.ntmps7
  go_wp2
  go_loopg [3, 5, 8] n (fun gk z _ i wr => ∃ (k : Nat) (m : Int), k ≤ n ∧ i = .int .i64 k ∧ z = .int .i64 m ∧ n - k ≤ gk ∧ Hid (wr = w))
  case atStart => exact ⟨0, 0, Nat.zero_le _, rfl, rfl, by omega, rfl⟩
  case round =>
    obtain ⟨k, m, hk, rfl, rfl, hgk, HW⟩ := hrel
    have e := HW.out
    subst e
    by_cases hlt : k < n
    · obtain ⟨x, hx⟩ : ∃ x, ls[k]? = some x := ⟨_, List.getElem?_eq_getElem (by rw [← HN.out]; exact hlt)⟩
      obtain ⟨b, off, rfl, hc⟩ := HR.out (by rw [← HN.out]; omega)
      have ck := hc k x hx
      have hkz : (0 : Int) ≤ (k : Int) := by omega
      have hkn : (k : Int) < (n : Int) := by omega
      clear hc hx
      go_wp2
      go_roundg (n - (k + 1))
      case measure => omega
      case rel => exact ⟨k + 1, _, by omega, by go_num, rfl, by omega, rfl⟩
    · have e : k = n := by omega
      subst e
      have hk30 : ¬ (k : Int) ≤ 30 := by omega
      by_cases hb : m ≤ 4000
      · go_wp2
        go_ret
        exact ⟨rfl, rfl⟩
      · go_wp2
        go_ret
        exact ⟨rfl, rfl⟩

/-- small, of whatever came in -/
theorem small6_any (a : Option Addr) (c : Nat) (ls : List (List UInt8)) (w : World) (hr : RowS w a ls) (hs : ∀ x ∈ ls, x.length ≤ 281474976710656) (hl : ls.length ≤ 9223372036854775807) :
    ∃ sb : Bool, (sb = true → Few ls) ∧ ∀ W, Below w.heap.size w W → Calls Try.prog 7 #[.slice a ls.length c] W fun e w' => e = .returned (.bool sb) ∧ W = w' := by
  by_cases h : ls.length ≤ 30
  · refine ⟨decide (bulk6 ls ≤ 4000), fun hd => ⟨by simpa using hd, h⟩, fun W hb => small6_few a c ls W (hr.keep hb) hs h _ (by simp)⟩
  · exact ⟨false, (fun hd => by cases hd), fun W hb => small6_many a c ls W (hr.keep hb) (by omega) hl⟩
theorem Few.each {ls : List (List UInt8)} (h : Few ls) : ∀ x ∈ ls, x.length ≤ 4000 := fun _ hx => Nat.le_trans (bulk6_mem hx) h.1
end Go.Proofs.Ytbpklikmldpeiaa
