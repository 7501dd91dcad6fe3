/-
  What items are as bytes; contract of soukref03.Put.
-/
import Derived.Test.YtkflakeocdlinaaGreatDoorMC10
import Derived.Deep.RegionHeld3
namespace Go.Proofs.YtkflakeocdlinaaGreatDoor
open Go.RowKit

/-- an item's bytes -/
def itB (x : Itm) : List UInt8 := if x.t then txt x.s else lowL 8 (wd x.n)
/-- all items' bytes -/
def encB : List Itm → List UInt8
  | [] => []
  | x :: r => itB x ++ encB r
/-- is an item's text not too long -/
def okI (x : Itm) : Bool := !x.t || decide (x.s.length ≤ 65535)
def okB (l : List Itm) : Bool := l.all okI
def putB (l : List Itm) : List UInt8 := if okB l then encB l else []

theorem encB_append (a b : List Itm) : encB (a ++ b) = encB a ++ encB b := by
  induction a with
  | nil => rfl
  | cons x r ih => simp [encB, ih]

theorem encB_succ {ls : List Itm} {k : Nat} {x : Itm} (h : ls[k]? = some x) : encB (ls.take (k + 1)) = encB (ls.take k) ++ itB x := by
  obtain ⟨hlt, he⟩ := List.getElem?_eq_some_iff.1 h
  rw [List.take_succ_eq_append_getElem hlt, encB_append, he]
  simp [encB]

theorem okB_succ {ls : List Itm} {k : Nat} {x : Itm} (h : ls[k]? = some x) : okB (ls.take (k + 1)) = (okB (ls.take k) && okI x) := by
  obtain ⟨hlt, he⟩ := List.getElem?_eq_some_iff.1 h
  rw [List.take_succ_eq_append_getElem hlt, he]
  simp [okB]

theorem itB_le (x : Itm) : (itB x).length ≤ 10 * (1 + x.s.length) := by
  unfold itB txt; split
  · rw [List.length_append, lowL_length]; omega
  · rw [lowL_length]; omega

theorem encB_le : ∀ (ls : List Itm), (encB ls).length ≤ 10 * bulk ls
  | [] => by simp [encB]
  | x :: r => by
    have h1 := itB_le x
    have h2 := encB_le r
    simp only [encB, bulk, List.length_append]
    omega

theorem okB_bad {ls : List Itm} {k : Nat} {x : Itm} (h : ls[k]? = some x) (hb : okI x = false) : okB ls = false := by
  have hm := List.mem_of_getElem? h
  unfold okB
  rw [List.all_eq_false]
  exact ⟨x, hm, by rw [hb]; decide⟩

set_option maxHeartbeats 2000000 in
theorem rPut_any (a : Option Addr) (c : Nat) (ls : List Itm) (w : World) (hr : RowT w a ls) (hl : ls.length ≤ 200) (hb : bulk ls ≤ 200000) (hn64 : ∀ x ∈ ls, (Lit.int .i64 x.n).wf = true) :
    Calls Tryz.prog 41 #[.slice a ls.length c] w fun e w' => e = .returned (.tuple #[.string (st (putB ls)), .bool (okB ls)]) ∧ Below w.heap.size w w' := by
  obtain ⟨n, hn⟩ : ∃ n, n = ls.length := ⟨_, rfl⟩
  have HN := Lib.hid hn
  have HR := Lib.hid hr
  rw [← hn] at hl ⊢
  clear hn hr
  have e0 : (⟨#[]⟩ : ByteArray) = st [] := rfl
  go_enter Tryz.func41, Tryz.ntmps41
  go_wp2
  go_loopg [4, 5] n (fun gk o i wr => ∃ (k : Nat) (out : List UInt8), k ≤ n ∧ i = .int .i64 k ∧ o = .string (st out) ∧ n - k ≤ gk ∧ out.length ≤ 10 * bulk (ls.take k) ∧ Hid (out = encB (ls.take k) ∧ okB (ls.take k) = true) ∧ Hid (Below w.heap.size w wr))
  case atStart => exact ⟨0, [], Nat.zero_le _, rfl, rfl, by omega, by simp, ⟨rfl, rfl⟩, Below.refl _ _⟩
  case round =>
    obtain ⟨k, out, hk, rfl, rfl, hgk, hol, HO, HB⟩ := hrel
    by_cases hlt : k < n
    · obtain ⟨x, hx⟩ : ∃ x, ls[k]? = some x := ⟨ls[k]'(by have := HN.out; omega), List.getElem?_eq_getElem _⟩
      obtain ⟨b, off, rfl, hc⟩ := HR.out (by have := HN.out; omega)
      have hblk : b < w.heap.size := World.block_lt_of_cell? w _ (hc k x hx).1
      have c0 : wr.cell? ⟨b, off + k * 3, none⟩ = some (.bool x.t) := by rw [HB.out.cell (p := ⟨b, off + k * 3, none⟩) hblk]; exact (hc k x hx).1
      have c1 : wr.cell? ⟨b, off + k * 3 + 1, none⟩ = some (.int .i64 x.n) := by rw [HB.out.cell (p := ⟨b, off + k * 3 + 1, none⟩) hblk]; exact (hc k x hx).2.1
      have c2 : wr.cell? ⟨b, off + k * 3 + 2, none⟩ = some (.string (st x.s)) := by rw [HB.out.cell (p := ⟨b, off + k * 3 + 2, none⟩) hblk]; exact (hc k x hx).2.2
      have hkz : (0 : Int) ≤ (k : Int) := by omega
      have hkn : (k : Int) < (n : Int) := by omega
      have hsz := st_size x.s
      have hso := st_size out
      have HX := Lib.hid hx
      have hwf := hn64 x (List.mem_of_getElem? hx)
      have hbs : bulk (ls.take k) + (1 + x.s.length) ≤ 200000 := by
        have h1 := bulk_succ hx
        have h2 := bulk_take_le ls (k + 1)
        omega
      clear hc hx
      cases hxt : x.t with
      | false =>
        rw [hxt] at c0
        have H1 := Lib.hid (s3Low_any (wd x.n) 8 wr (by unfold wd; omega) (by decide))
        have hwd : (wd x.n : Int) = x.n % 18446744073709551616 := by unfold wd; omega
        rw [hwd] at H1
        have hlo : (st (lowL 8 (wd x.n))).size = 8 := by rw [st_size, lowL_length]
        have e1 := st_append out (lowL 8 (wd x.n))
        clear hwd
        go_wp2_with fail
        refine H1.out.mono ?_
        rintro e w1 ⟨rfl, hb1⟩
        have HB1 := Lib.hid (HB.out.trans (hb1.mono HB.out.size))
        clear hb1 H1
        go_wp2
        go_roundg (n - (k + 1))
        case measure => omega
        case rel =>
          have hit : itB x = lowL 8 (wd x.n) := by unfold itB; rw [hxt]; rfl
          have hok : okI x = true := by unfold okI; rw [hxt]; rfl
          refine ⟨k + 1, out ++ lowL 8 (wd x.n), by omega, by go_num, rfl, by omega, ?_, ⟨?_, ?_⟩, HB1.out⟩
          · rw [List.length_append, lowL_length, bulk_succ HX.out]; omega
          · rw [encB_succ HX.out, ← HO.out.1, hit]
          · rw [okB_succ HX.out, HO.out.2, hok]; rfl
      | true =>
        rw [hxt] at c0
        by_cases hbig : 65535 < x.s.length
        · have t1 : decide ((65535 : Int) < (x.s.length : Int)) = true := decide_eq_true (by omega)
          go_wp2
          go_ret2
          have hf : okB ls = false := okB_bad HX.out (by unfold okI; rw [hxt]; simp; omega)
          rw [putB, hf]
          exact ⟨rfl, HB.out⟩
        · have t1 : decide ((65535 : Int) < (x.s.length : Int)) = false := decide_eq_false (by omega)
          have hblk2 : b < wr.heap.size := Nat.lt_of_lt_of_le hblk HB.out.size
          have hm : (x.s.length : Int) % 18446744073709551616 = (x.s.length : Int) := Int.emod_eq_of_lt (by omega) (by omega)
          have HLow : ∀ W, Hid (Calls Tryz.prog 67 #[.int .u64 (IntKind.u64.wrap (x.s.length : Int)), .int .i64 2] W fun e w' => e = .returned (.string (st (lowL 2 x.s.length))) ∧ Below W.heap.size W w') := fun W => by
            rw [u64_wrap _ (by omega) (by omega)]
            exact s3Low_any x.s.length 2 W (by omega) (by decide)
          have hlo : (st (lowL 2 x.s.length)).size = 2 := by rw [st_size, lowL_length]
          have e1 := st_append out (lowL 2 x.s.length)
          have e2 := st_append (out ++ lowL 2 x.s.length) x.s
          have hs3 : (st (out ++ lowL 2 x.s.length)).size = out.length + 2 := by rw [st_size, List.length_append, lowL_length]
          have n1 : ¬ 9223372036854775807 < out.length + 2 := by omega
          have n2 : ¬ 9223372036854775807 < out.length + 2 + x.s.length := by omega
          go_wp2
          go_region_held3 (fun w' => w'.cell? ⟨b, off + k * 3 + 2, none⟩ = some (.string (st x.s)))
            (first | go_keep | exact k1)
            (first
              | (go_at_call 67; ((with_reducible refine (HLow _).out.mono ?_); rintro e w1 ⟨rfl, hb1⟩; have k1 : w1.cell? ⟨b, off + k * 3 + 2, none⟩ = some (.string (st x.s)) := (hb1.cell (p := ⟨b, off + k * 3 + 2, none⟩) hblk2).trans c2)))
          have hb2 : Below wr.heap.size wr w1 := ⟨hb1.os, hb1.tape, hb1.output, hb1.size, hb1.block⟩
          have HB1 := Lib.hid (HB.out.trans (hb2.mono HB.out.size))
          clear hb1 hb2 k1
          go_wp2
          go_roundg (n - (k + 1))
          case measure => omega
          case rel =>
            have hit : itB x = lowL 2 x.s.length ++ x.s := by unfold itB; rw [hxt]; rfl
            have hok : okI x = true := by unfold okI; rw [hxt]; simp; omega
            refine ⟨k + 1, out ++ lowL 2 x.s.length ++ x.s, by omega, by go_num, by rw [List.append_assoc], by omega, ?_, ⟨?_, ?_⟩, HB1.out⟩
            · rw [List.length_append, List.length_append, lowL_length, bulk_succ HX.out]; omega
            · rw [encB_succ HX.out, ← HO.out.1, hit, List.append_assoc]
            · rw [okB_succ HX.out, HO.out.2, hok]; rfl
    · have e : k = n := by omega
      subst e
      go_wp2
      go_ret2
      have h1 := HO.out
      rw [List.take_of_length_le (by have := HN.out; omega)] at h1
      rw [putB, h1.2, h1.1]
      exact ⟨rfl, HB.out⟩
end Go.Proofs.YtkflakeocdlinaaGreatDoor
