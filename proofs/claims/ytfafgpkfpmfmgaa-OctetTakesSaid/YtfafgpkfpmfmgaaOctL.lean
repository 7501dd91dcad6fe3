/-
  Contracts of octet.Reader.End, souklaw03.lives, souklaw03.small.
-/
import Derived.Test.YtfafgpkfpmfmgaaOctR
namespace Go.Proofs.Ytfafgpkfpmfmgaa
open Go.RowKit

theorem st_ne (x : UInt8) (r : List UInt8) : (st (x :: r)).toList.isEmpty = false := by
  rw [Go.Lib.toList_data, st_toList]; rfl

def endV (l : List UInt8) (c : Bool) : Int := if c then 4 else if l = [] then 0 else 3

theorem rEnd_any (b : Nat) (l : List UInt8) (c : Bool) (w : World) (h : RAt w b l c) :
    Calls Try.prog 14 #[.pointer (some ⟨b, 0, none⟩)] w fun e w' => e = .returned (.int .i64 (endV l c)) ∧ w = w' := by
  have c0 : w.cell? ⟨b, 0, none⟩ = some (.string (st l)) := h.cell 0
  have c1 : w.cell? ⟨b, 1, none⟩ = some (.bool c) := h.cell 1
  clear h
  cases c with
  | true =>
    go_enter Try.func14, Try.ntmps14
    go_wp2
    go_ret
    exact ⟨rfl, rfl⟩
  | false =>
    cases l with
    | nil =>
      have e0 : st [] = ⟨#[]⟩ := rfl
      rw [e0] at c0
      go_enter Try.func14, Try.ntmps14
      go_wp2
      go_ret
      exact ⟨rfl, rfl⟩
    | cons x r =>
      have e0 : (st (x :: r)).toList.isEmpty = false := st_ne x r
      go_enter Try.func14, Try.ntmps14
      go_wp2
      go_ret
      exact ⟨rfl, rfl⟩

theorem rEnd_nil (w : World) :
    Calls Try.prog 14 #[.pointer none] w fun e w' => e = .returned (.int .i64 1) ∧ w = w' := by
  go_enter Try.func14, Try.ntmps14
  go_wp2
  go_ret
  exact ⟨rfl, rfl⟩

theorem new_writer (w : World) : WAt (w.alloc (.cells #[.pointer none, .bool false] 28)) w.heap.size w.heap.size (some []) :=
  ⟨Nat.le_refl _, none, Blk.new w _ _, rfl⟩

theorem one_a : st (flat [txt [97], lowL 8 (wd 1)]) = ⟨#[1, 0, 0, 0, 0, 0, 0, 0, 1, 0, 97]⟩ := by decide +kernel

theorem lives3_any (w : World) : Calls Try.prog 5 #[] w fun e w' => e = .returned (.bool true) ∧ Below w.heap.size w w' := by
  have H1 := Lib.hid (wInt_any w.heap.size w.heap.size (some []) 1 _ (new_writer w) (by simp))
  have H0 := Lib.hid ((Below.refl w.heap.size w).alloc (Nat.le_refl _) (.cells #[.pointer none, .bool false] 28))
  go_enter Try.func5, Try.ntmps5
  go_wp2_with fail
  refine H1.out.mono ?_
  rintro e w1 ⟨rfl, hg, ha⟩
  have HB1 := Lib.hid (Below.of_grown H0.out hg (by simp) (Nat.le_refl _))
  have H2 := Lib.hid (wText_any w.heap.size w.heap.size _ [97] w1 ha HB1.out.size)
  clear hg ha H1
  go_wp2_with fail
  refine H2.out.mono ?_
  rintro e w2 ⟨rfl, hg, ha⟩
  have HB2 := Lib.hid (Below.of_grown HB1.out hg HB1.out.size (Nat.le_refl _))
  have H3 := Lib.hid (bytes_any w.heap.size w.heap.size [txt [97], lowL 8 (wd 1)] w2 ha (by decide))
  rw [one_a] at H3
  clear hg ha H2
  go_wp2_with fail
  refine H3.out.mono ?_
  rintro e w3 ⟨rfl, hb⟩
  have HB3 := Lib.hid (HB2.out.trans (hb.mono HB2.out.size))
  clear hb H3
  go_wp2
  go_ret
  exact ⟨rfl, HB3.out⟩

/-- an item -/
structure Itm where
  t : Bool
  n : Int
  s : List UInt8

/-- a row of items, three cells each -/
def RowT (w : World) (a : Option Addr) (ls : List Itm) : Prop :=
  0 < ls.length → ∃ b off, a = some ⟨b, off, none⟩ ∧ ∀ i x, ls[i]? = some x → w.cell? ⟨b, off + i * 3, none⟩ = some (.bool x.t) ∧ w.cell? ⟨b, off + i * 3 + 1, none⟩ = some (.int .i64 x.n) ∧ w.cell? ⟨b, off + i * 3 + 2, none⟩ = some (.string (st x.s))

theorem RowT.keep {w w' : World} {a : Option Addr} {ls : List Itm} (h : RowT w a ls) (hb : Below w.heap.size w w') : RowT w' a ls := by
  intro h0
  obtain ⟨b, off, e, hc⟩ := h h0
  refine ⟨b, off, e, fun i x hx => ?_⟩
  obtain ⟨c0, c1, c2⟩ := hc i x hx
  have hlt := World.block_lt_of_cell? w _ c0
  refine ⟨?_, ?_, ?_⟩
  · rw [hb.cell (p := ⟨b, off + i * 3, none⟩) hlt]; exact c0
  · rw [hb.cell (p := ⟨b, off + i * 3 + 1, none⟩) hlt]; exact c1
  · rw [hb.cell (p := ⟨b, off + i * 3 + 2, none⟩) hlt]; exact c2

def bulk : List Itm → Nat
  | [] => 0
  | x :: r => 1 + x.s.length + bulk r

theorem bulk_append (a b : List Itm) : bulk (a ++ b) = bulk a + bulk b := by
  induction a with
  | nil => simp [bulk]
  | cons x r ih => simp [bulk, ih]; omega

theorem w64 {z : Int} (h1 : -9223372036854775808 ≤ z) (h2 : z ≤ 9223372036854775807) : wrap64 z = z := by unfold wrap64; omega

theorem ret_bool {a b : Bool} (h : a = b) : Ending.returned (.bool a) = .returned (.bool b) := by rw [h]

theorem bulk_le : ∀ (ls : List Itm), (∀ x ∈ ls, x.s.length ≤ 281474976710656) → bulk ls ≤ ls.length * 281474976710657
  | [], _ => by simp [bulk]
  | x :: r, h => by
    have h1 := h x (by simp)
    have h2 := bulk_le r (fun y hy => h y (by simp [hy]))
    simp only [bulk, List.length_cons]
    omega

theorem bulk_succ {ls : List Itm} {k : Nat} {x : Itm} (h : ls[k]? = some x) : bulk (ls.take (k + 1)) = bulk (ls.take k) + (1 + x.s.length) := by
  obtain ⟨hlt, he⟩ := List.getElem?_eq_some_iff.1 h
  rw [List.take_succ_eq_append_getElem hlt, bulk_append, he]
  simp [bulk]

theorem bulk_take_le (ls : List Itm) (k : Nat) : bulk (ls.take k) ≤ bulk ls := by
  have h := bulk_append (ls.take k) (ls.drop k)
  rw [List.take_append_drop] at h
  omega

set_option maxHeartbeats 1000000 in
theorem small_few (a : Option Addr) (c : Nat) (ls : List Itm) (w : World) (hr : RowT w a ls) (hs : ∀ x ∈ ls, x.s.length ≤ 281474976710656) (hl : ls.length ≤ 200) :
    Calls Try.prog 6 #[.slice a ls.length c] w fun e w' => e = .returned (.bool (decide (bulk ls ≤ 200000))) ∧ Below w.heap.size w w' := by
  by_cases h0 : ls = []
  · subst h0
    go_enter Try.func6, Try.ntmps6
    go_wp2
    refine wp_loop_rounds 1 ?_
    rw [rounds_succ]
    go_wp2
    go_ret
    exact ⟨rfl, Below.refl _ _⟩
  have hp : 0 < ls.length := List.length_pos_iff.mpr h0
  obtain ⟨b, off, rfl, hc⟩ := hr hp
  have HC := Lib.hid hc
  have HS := Lib.hid hs
  have HL := Lib.hid (bulk_le ls hs)
  obtain ⟨n, hn⟩ : ∃ n, n = ls.length := ⟨_, rfl⟩
  have HN := Lib.hid hn
  rw [← hn] at hl hp HL ⊢
  have HL2 : Hid (bulk ls ≤ 200 * 281474976710657) := Nat.le_trans HL.out (Nat.mul_le_mul_right _ hl)
  clear hc h0 hs hn hr HL
  go_enter Try.func6, Try.ntmps6
  go_wp2
  go_loopg [3, 8] n (fun gk z i wr => ∃ k m : Nat, k ≤ n ∧ i = .int .i64 k ∧ z = .int .i64 (m : Int) ∧ n - k ≤ gk ∧ Hid (m = bulk (ls.take k)) ∧ Hid (Below w.heap.size w wr))
  case atStart => exact ⟨0, 0, Nat.zero_le _, rfl, rfl, by omega, rfl, Below.refl _ _⟩
  case round =>
    obtain ⟨k, m, hk, rfl, rfl, hgk, HM, HB⟩ := hrel
    by_cases hlt : k < n
    · obtain ⟨x, hx⟩ : ∃ x, ls[k]? = some x := ⟨ls[k]'(by have := HN.out; omega), List.getElem?_eq_getElem _⟩
      have hblk : b < w.heap.size := World.block_lt_of_cell? w _ (HC.out k x hx).1
      have c0 : wr.cell? ⟨b, off + k * 3, none⟩ = some (.bool x.t) := by rw [HB.out.cell (p := ⟨b, off + k * 3, none⟩) hblk]; exact (HC.out k x hx).1
      have c1 : wr.cell? ⟨b, off + k * 3 + 1, none⟩ = some (.int .i64 x.n) := by rw [HB.out.cell (p := ⟨b, off + k * 3 + 1, none⟩) hblk]; exact (HC.out k x hx).2.1
      have c2 : wr.cell? ⟨b, off + k * 3 + 2, none⟩ = some (.string (st x.s)) := by rw [HB.out.cell (p := ⟨b, off + k * 3 + 2, none⟩) hblk]; exact (HC.out k x hx).2.2
      have hkz : (0 : Int) ≤ (k : Int) := by omega
      have hkn : (k : Int) < (n : Int) := by omega
      have hsz := st_size x.s
      have hms : m + (1 + x.s.length) ≤ 200 * 281474976710657 := by
        have h1 := bulk_succ hx
        have h2 := bulk_take_le ls (k + 1)
        have h3 := HM.out
        have h4 := HL2.out
        omega
      have w1 : wrap64 (1 + (x.s.length : Int)) = 1 + (x.s.length : Int) := w64 (by omega) (by omega)
      have w2 : wrap64 ((m : Int) + (1 + (x.s.length : Int))) = (m : Int) + (1 + (x.s.length : Int)) := w64 (by omega) (by omega)
      have HX := Lib.hid hx
      clear hx hblk hms
      go_wp2
      go_roundg (n - (k + 1))
      case measure => omega
      case rel => exact ⟨k + 1, m + (1 + x.s.length), by omega, by go_num, by go_num, by omega, by show _ = _; rw [bulk_succ HX.out, HM.out], HB.out.alloc HB.out.size _⟩
    · have e : k = n := by omega
      subst e
      have e2 : m = bulk ls := by rw [HM.out, List.take_of_length_le (by have := HN.out; omega)]
      subst e2
      by_cases hb : bulk ls ≤ 200000
      · have t1 : decide (bulk ls ≤ 200000) = true := decide_eq_true hb
        have t2 : (bulk ls : Int) ≤ 200000 := by omega
        have t3 : decide ((k : Int) ≤ 200) = true := decide_eq_true (by omega)
        go_wp2
        go_ret
        exact ⟨ret_bool t1.symm, HB.out⟩
      · have t1 : decide (bulk ls ≤ 200000) = false := decide_eq_false hb
        go_wp2
        go_ret
        exact ⟨by simp, HB.out⟩

set_option maxHeartbeats 1000000 in
theorem small_many (a : Option Addr) (c : Nat) (ls : List Itm) (w : World) (hr : RowT w a ls) (hl : 200 < ls.length) (hm : ls.length ≤ 9223372036854775807) :
    Calls Try.prog 6 #[.slice a ls.length c] w fun e w' => e = .returned (.bool false) ∧ Below w.heap.size w w' := by
  have hp : 0 < ls.length := by omega
  obtain ⟨b, off, rfl, hc⟩ := hr hp
  have HC := Lib.hid hc
  obtain ⟨n, hn⟩ : ∃ n, n = ls.length := ⟨_, rfl⟩
  have HN := Lib.hid hn
  rw [← hn] at hl hp hm ⊢
  clear hc hn hr
  go_enter Try.func6, Try.ntmps6
  go_wp2
  go_loopg [3, 8] n (fun gk z i wr => ∃ (k : Nat) (m : Int), k ≤ n ∧ i = .int .i64 k ∧ z = .int .i64 m ∧ n - k ≤ gk ∧ Hid (Below w.heap.size w wr))
  case atStart => exact ⟨0, 0, Nat.zero_le _, rfl, rfl, by omega, Below.refl _ _⟩
  case round =>
    obtain ⟨k, m, hk, rfl, rfl, hgk, HB⟩ := hrel
    by_cases hlt : k < n
    · obtain ⟨x, hx⟩ : ∃ x, ls[k]? = some x := ⟨ls[k]'(by have := HN.out; omega), List.getElem?_eq_getElem _⟩
      have hblk : b < w.heap.size := World.block_lt_of_cell? w _ (HC.out k x hx).1
      have c0 : wr.cell? ⟨b, off + k * 3, none⟩ = some (.bool x.t) := by rw [HB.out.cell (p := ⟨b, off + k * 3, none⟩) hblk]; exact (HC.out k x hx).1
      have c1 : wr.cell? ⟨b, off + k * 3 + 1, none⟩ = some (.int .i64 x.n) := by rw [HB.out.cell (p := ⟨b, off + k * 3 + 1, none⟩) hblk]; exact (HC.out k x hx).2.1
      have c2 : wr.cell? ⟨b, off + k * 3 + 2, none⟩ = some (.string (st x.s)) := by rw [HB.out.cell (p := ⟨b, off + k * 3 + 2, none⟩) hblk]; exact (HC.out k x hx).2.2
      have hkz : (0 : Int) ≤ (k : Int) := by omega
      have hkn : (k : Int) < (n : Int) := by omega
      clear hx hblk
      go_wp2
      go_roundg (n - (k + 1))
      case measure => omega
      case rel => exact ⟨k + 1, _, by omega, by go_num, rfl, by omega, HB.out.alloc HB.out.size _⟩
    · have e : k = n := by omega
      subst e
      by_cases hb : m ≤ 200000
      · have t3 : decide ((k : Int) ≤ 200) = false := decide_eq_false (by omega)
        go_wp2
        go_ret
        exact ⟨rfl, HB.out⟩
      · go_wp2
        go_ret
        exact ⟨rfl, HB.out⟩
end Go.Proofs.Ytfafgpkfpmfmgaa
