/-
  Contracts of octet.Reader: Read, take, Int, Text, End.
-/
import Derived.Test.YtfafgpkfpmfmgaaOctB
namespace Go.Proofs.Ytfafgpkfpmfmgaa
open Go.RowKit

theorem st_take (l : List UInt8) (n : Nat) : (st l).extract 0 n = st (l.take n) := by rw [st_extract]; simp
theorem st_dropN (l : List UInt8) (n : Nat) : (st l).extract n (st l).size = st (l.drop n) := by
  rw [st_extract, st_size]
  congr 1
  exact List.take_of_length_le (by simp)

/-- a Reader: what is left, and whether there were too few bytes once -/
def RAt (w : World) (b : Nat) (l : List UInt8) (c : Bool) : Prop := Blk w b 55 #[.string (st l), .bool c]

theorem read_any (s : ByteArray) (w : World) :
    Calls Try.prog 11 #[.string s] w fun e w' => e = .returned (.pointer (some ⟨w.heap.size, 0, none⟩)) ∧ Below w.heap.size w w' ∧ RAt w' w.heap.size s.data.toList false := by
  have hs := of_data s
  obtain ⟨l, hl⟩ : ∃ l, l = s.data.toList := ⟨_, rfl⟩
  rw [← hl] at hs ⊢
  subst hs
  clear hl
  go_enter Try.func11, Try.ntmps11
  go_wp2
  go_ret
  exact ⟨rfl, (Below.refl _ _).alloc (Nat.le_refl _) _, Blk.new w _ _⟩

/-- what taking n bytes answers, and leaves -/
def tk (n : Nat) (l : List UInt8) : List UInt8 := if l.length < n then [] else l.take n
def lf (n : Nat) (l : List UInt8) : List UInt8 := if l.length < n then [] else l.drop n

theorem take_nil (n : Nat) (w : World) : Calls Try.prog 21 #[.pointer none, .int .i64 n] w fun e w' => e = .returned (.string (st [])) ∧ w = w' := by
  go_enter Try.func21, Try.ntmps21
  go_wp2
  go_ret
  exact ⟨rfl, rfl⟩

theorem take_any (b n : Nat) (l : List UInt8) (c : Bool) (w : World) (h : RAt w b l c) :
    Calls Try.prog 21 #[.pointer (some ⟨b, 0, none⟩), .int .i64 n] w fun e w' => e = .returned (.string (st (tk n l))) ∧ w.grownBy w' (some b) ∧ RAt w' b (lf n l) (c || decide (l.length < n)) := by
  have c0 : w.cell? ⟨b, 0, none⟩ = some (.string (st l)) := h.cell 0
  have c1 : w.cell? ⟨b, 1, none⟩ = some (.bool c) := h.cell 1
  have f0 : w.frozen? ⟨b, 0, none⟩ = false := h.frozen 0
  have f1 : w.frozen? ⟨b, 1, none⟩ = false := h.frozen 1
  have HB := Lib.hid h
  have hsz := st_size l
  by_cases hlt : l.length < n
  · have d0 : (w.setCell ⟨b, 0, none⟩ (.string (st []))).cell? ⟨b, 1, none⟩ = some (.bool c) := (h.set 0 _).cell 1
    have d1 : (w.setCell ⟨b, 0, none⟩ (.string (st []))).frozen? ⟨b, 1, none⟩ = false := (h.set 0 _).frozen 1
    have HE : Hid (tk n l = [] ∧ lf n l = [] ∧ (c || decide (l.length < n)) = true) := by
      refine ⟨if_pos hlt, if_pos hlt, ?_⟩
      rw [decide_eq_true hlt]; simp
    have he0 : (⟨#[]⟩ : ByteArray) = st [] := rfl
    clear h
    go_enter Try.func21, Try.ntmps21
    go_wp2
    go_ret
    obtain ⟨e1, e2, e3⟩ := HE.out
    rw [e1, e2, e3]
    exact ⟨rfl, Go.Lib.grownBy_setB (Go.Lib.grownBy_setB (World.grownBy.refl _ _) _ _) _ _, (HB.out.set 0 _).set 1 _⟩
  · have e1 := st_take l n
    have e2 := st_dropN l n
    have hle : n ≤ l.length := by omega
    have hle2 : (n : Int) ≤ (l.length : Int) := by omega
    rw [hsz] at e2
    have HE : Hid (tk n l = l.take n ∧ lf n l = l.drop n ∧ (c || decide (l.length < n)) = c) := by
      refine ⟨if_neg hlt, if_neg hlt, ?_⟩
      rw [decide_eq_false hlt]; simp
    clear h
    go_enter Try.func21, Try.ntmps21
    go_wp2
    go_ret
    obtain ⟨e1, e2, e3⟩ := HE.out
    rw [e1, e2, e3]
    exact ⟨rfl, Go.Lib.grownBy_setB (World.grownBy.refl _ _) _ _, HB.out.set 0 _⟩

theorem clone_any (s : ByteArray) (w : World) (hs : s.size ≤ 281474976710656) : Calls Try.prog 22 #[.string s] w fun e w' => e = .returned (.string s) ∧ Below w.heap.size w w' := by
  have H := Lib.hid (Try.stringslite_Clone s w hs)
  clear hs
  go_enter Try.func22, Try.ntmps22
  go_wp2_with fail
  refine H.out.mono ?_
  rintro e w1 ⟨rfl, hb⟩
  have HB := Lib.hid hb
  clear hb
  go_wp2
  go_ret
  exact ⟨rfl, HB.out⟩

theorem RAt.keep {w w' : World} {b : Nat} {l : List UInt8} {c : Bool} (h : RAt w b l c) (hb : Below w.heap.size w w') : RAt w' b l c := Blk.since h hb

theorem tk_le (n : Nat) (l : List UInt8) : (tk n l).length ≤ n := by
  unfold tk; split
  · simp
  · simp; omega

/-- a word as a signed number -/
def sg (n : Nat) : Int := if n < 9223372036854775808 then n else (n : Int) - 18446744073709551616

theorem wrap_sg (x : Nat) (h : x < 18446744073709551616) : wrap64 (x : Int) = sg x := by
  unfold sg wrap64
  split <;> omega

theorem rInt_any (b : Nat) (l : List UInt8) (c : Bool) (w : World) (h : RAt w b l c) :
    Calls Try.prog 13 #[.pointer (some ⟨b, 0, none⟩)] w fun e w' => e = .returned (.int .i64 (sg (numL (tk 8 l)))) ∧ w.grownBy w' (some b) ∧ RAt w' b (lf 8 l) (c || decide (l.length < 8)) := by
  have H1 := Lib.hid (take_any b 8 l c w h)
  clear h
  go_enter Try.func13, Try.ntmps13
  go_wp2_with fail
  refine H1.out.mono ?_
  rintro e w1 ⟨rfl, hg, ha⟩
  have HG := Lib.hid hg
  have HA := Lib.hid ha
  have hn := numL_lt (tk 8 l)
  have hp : 256 ^ (tk 8 l).length ≤ 256 ^ 8 := Nat.pow_le_pow_right (by decide) (tk_le 8 l)
  rw [pow_256_8] at hp
  have H2 := Lib.hid (onum_any (tk 8 l) w1 (tk_le 8 l))
  obtain ⟨x, hx⟩ : ∃ x, x = numL (tk 8 l) := ⟨_, rfl⟩
  have HX := Lib.hid hx
  rw [← hx] at hn H2
  have HN : Hid (x < 18446744073709551616) := by show x < _; omega
  clear hg ha hn hp hx
  go_wp2_with fail
  refine H2.out.mono ?_
  rintro e w2 ⟨rfl, rfl⟩
  go_wp2
  go_ret
  rw [wrap_sg x HN.out, HX.out]
  exact ⟨rfl, HG.out, HA.out⟩

theorem onum_nil (w : World) : Calls Try.prog 20 #[.string (st [])] w fun e w' => e = .returned (.int .u64 0) ∧ w = w' := onum_any [] w (by decide)

theorem rInt_nil (w : World) : Calls Try.prog 13 #[.pointer none] w fun e w' => e = .returned (.int .i64 0) ∧ w = w' := by
  have H1 := Lib.hid (take_nil 8 w)
  have H2 := Lib.hid (onum_nil w)
  go_enter Try.func13, Try.ntmps13
  go_wp2_with fail
  refine H1.out.mono ?_
  rintro e w1 ⟨rfl, rfl⟩
  go_wp2_with fail
  refine H2.out.mono ?_
  rintro e w2 ⟨rfl, rfl⟩
  go_wp2
  go_ret
  exact ⟨rfl, rfl⟩

theorem rText_nil (w : World) : Calls Try.prog 12 #[.pointer none] w fun e w' => e = .returned (.string (st [])) ∧ Below w.heap.size w w' := by
  have H1 := Lib.hid (take_nil 2 w)
  have H2 := Lib.hid (onum_nil w)
  have H3 := Lib.hid (take_nil 0 w)
  have H4 := Lib.hid (clone_any (st []) w (by decide))
  go_enter Try.func12, Try.ntmps12
  go_wp2_with fail
  refine H1.out.mono ?_
  rintro e w1 ⟨rfl, rfl⟩
  go_wp2_with fail
  refine H2.out.mono ?_
  rintro e w2 ⟨rfl, rfl⟩
  go_wp2_with fail
  refine H3.out.mono ?_
  rintro e w3 ⟨rfl, rfl⟩
  go_wp2_with fail
  refine H4.out.mono ?_
  rintro e w4 ⟨rfl, hb⟩
  have HB := Lib.hid hb
  clear hb
  go_wp2
  go_ret
  exact ⟨rfl, HB.out⟩

/-- what a text's taking answers, leaves, and whether there were too few bytes -/
def tt (l : List UInt8) : List UInt8 := tk (numL (tk 2 l)) (lf 2 l)
def tl (l : List UInt8) : List UInt8 := lf (numL (tk 2 l)) (lf 2 l)
def tc (l : List UInt8) : Bool := decide (l.length < 2) || decide ((lf 2 l).length < numL (tk 2 l))

theorem num2_lt (l : List UInt8) : numL (tk 2 l) < 65536 := by
  have hn := numL_lt (tk 2 l)
  have hp : 256 ^ (tk 2 l).length ≤ 256 ^ 2 := Nat.pow_le_pow_right (by decide) (tk_le 2 l)
  rw [show 256 ^ 2 = 65536 from by decide] at hp
  omega

theorem rText_any (b : Nat) (l : List UInt8) (c : Bool) (w : World) (h : RAt w b l c) :
    Calls Try.prog 12 #[.pointer (some ⟨b, 0, none⟩)] w fun e w' => e = .returned (.string (st (tt l))) ∧ w.grownBy w' (some b) ∧ RAt w' b (tl l) (c || tc l) := by
  have H1 := Lib.hid (take_any b 2 l c w h)
  clear h
  go_enter Try.func12, Try.ntmps12
  go_wp2_with fail
  refine H1.out.mono ?_
  rintro e w1 ⟨rfl, hg, ha⟩
  have HG := Lib.hid hg
  have hx2 := num2_lt l
  have H2 := Lib.hid (onum_any (tk 2 l) w1 (Nat.le_trans (tk_le 2 l) (by decide)))
  obtain ⟨x, hx⟩ : ∃ x, x = numL (tk 2 l) := ⟨_, rfl⟩
  have HX := Lib.hid hx
  rw [← hx] at hx2 H2
  have H3 := Lib.hid (take_any b x (lf 2 l) (c || decide (l.length < 2)) w1 ha)
  clear hg ha hx
  go_wp2_with fail
  refine H2.out.mono ?_
  rintro e w2 ⟨rfl, rfl⟩
  go_wp2_with fail
  refine H3.out.mono ?_
  rintro e w3 ⟨rfl, hg3, ha3⟩
  have HG3 := Lib.hid hg3
  have HA3 := Lib.hid ha3
  have H4 := Lib.hid (clone_any (st (tk x (lf 2 l))) w3 (by rw [st_size]; have := tk_le x (lf 2 l); omega))
  clear hg3 ha3
  go_wp2_with fail
  refine H4.out.mono ?_
  rintro e w4 ⟨rfl, hb4⟩
  have HB4 := Lib.hid hb4
  clear hb4
  go_wp2
  go_ret
  have e1 : tk x (lf 2 l) = tt l := by rw [HX.out]; rfl
  have e2 : lf x (lf 2 l) = tl l := by rw [HX.out]; rfl
  have e3 : (c || decide (l.length < 2) || decide ((lf 2 l).length < x)) = (c || tc l) := by rw [HX.out, Bool.or_assoc]; rfl
  have h4 := HA3.out.keep HB4.out
  rw [e2, e3] at h4
  rw [e1]
  exact ⟨rfl, Go.Lib.grownBy_trans (Go.Lib.grownBy_trans HG.out HG3.out) (grown_since HB4.out), h4⟩
end Go.Proofs.Ytfafgpkfpmfmgaa
