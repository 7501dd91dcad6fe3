/-
  A block's bytes; contracts of block.blockOf, countIn, dataIn.
-/
import Derived.Test.YtbpklikmldpeiaaBlkAMA
import Derived.Test.YtbpklikmldpeiaaMA02
namespace Go.Proofs.Ytbpklikmldpeiaa
open Go.RowKit

/-- a block's bytes ahead of its sum -/
def bodyL (number place count : Nat) (data : List UInt8) : List UInt8 :=
  lowL 4 (number + 1) ++ [UInt8.ofNat (place % 256), UInt8.ofNat (count % 256), UInt8.ofNat (data.length % 256)] ++ data ++ List.replicate (49 - data.length) 0
/-- a block's bytes -/
def blkL (number place count : Nat) (data : List UInt8) : List UInt8 :=
  bodyL number place count data ++ lowL 4 (wd (sumI (bodyL number place count data))) ++ lowL 4 (number + 1)

theorem bodyL_length (number place count : Nat) (data : List UInt8) (h : data.length ≤ 49) : (bodyL number place count data).length = 56 := by
  simp [bodyL, lowL_length]; omega
theorem blkL_length (number place count : Nat) (data : List UInt8) (h : data.length ≤ 49) : (blkL number place count data).length = 64 := by
  simp [blkL, lowL_length, bodyL_length _ _ _ _ h]

theorem repeat_zero (c : Nat) : Lib.repeatL [0] c = List.replicate c (0 : UInt8) := by
  induction c with
  | zero => rfl
  | succ n ih => simp [Lib.repeatL, List.replicate_succ, ih]

theorem rep_any (c : Nat) (w : World) (hc : c ≤ 1000) :
    Calls Try.prog 22 #[.string ⟨#[0]⟩, .int .i64 c] w fun e w' => e = .returned (.string (st (List.replicate c 0))) ∧ Below w.heap.size w w' := by
  refine (Try.strings_Repeat ⟨#[0]⟩ c w (by omega) (by show 1 * c ≤ _; omega)).mono ?_
  rintro e w' ⟨rfl, hb⟩
  refine ⟨?_, hb⟩
  rw [show (⟨#[0]⟩ : ByteArray).data.toList = [0] from rfl, repeat_zero]
  rfl

theorem conv_three (W : World) (a b c : Nat) (ha : a < 256) (hb : b < 256) (hc : c < 256) : (convert 50 9 (.slice (some ⟨W.heap.size, 0, none⟩) 3 3)).run Try.prog (W.alloc (.cells #[.int .u8 (a : Int), .int .u8 (b : Int), .int .u8 (c : Int)] 5)) = .ok (.string (st [UInt8.ofNat a, UInt8.ofNat b, UInt8.ofNat c])) (W.alloc (.cells #[.int .u8 (a : Int), .int .u8 (b : Int), .int .u8 (c : Int)] 5)) := by
  have h := run_convert_bytes_back (P := Try.prog) (W.alloc (.cells #[.int .u8 (a : Int), .int .u8 (b : Int), .int .u8 (c : Int)] 5)) 50 9 5 ⟨W.heap.size, 0, none⟩ 3 [UInt8.ofNat a, UInt8.ofNat b, UInt8.ofNat c] Try.underlying50 Try.underlying5 Try.underlying9 (fun j hj => by
    have hj3 : j < 3 := hj
    have hk := (Blk.new W 5 #[.int .u8 (a : Int), .int .u8 (b : Int), .int .u8 (c : Int)]).cell j
    have e : (⟨W.heap.size, 0, none⟩ : Addr).add j = ⟨W.heap.size, j, none⟩ := by
      unfold Addr.add
      by_cases e0 : j = 0
      · subst e0; rfl
      · simp [e0]
    rw [e, hk]
    match j, hj3 with
    | 0, _ => simp; omega
    | 1, _ => simp; omega
    | 2, _ => simp; omega)
  exact h

theorem wd_nat (n : Nat) (h : n < 18446744073709551616) : wd (n : Int) = n := by unfold wd; omega

set_option maxHeartbeats 1000000 in
theorem blockOf_any (number place count : Nat) (data : List UInt8) (w : World) (hn : number ≤ 4294967294) (hd : data.length ≤ 49) :
    Calls Try.prog 52 #[.int .i64 number, .int .i64 place, .int .i64 count, .string (st data)] w fun e w' => e = .returned (.string (st (blkL number place count data))) ∧ Below w.heap.size w w' := by
  have hsz := st_size data
  have H1 := word_any ((number + 1 : Nat) : Int) w
  rw [wd_nat _ (by omega), show ((number + 1 : Nat) : Int) = (number : Int) + 1 by omega] at H1
  have H1 := Lib.hid H1
  obtain ⟨n, hnn⟩ : ∃ n, n = data.length := ⟨_, rfl⟩
  rw [← hnn] at hsz hd
  have HN := Lib.hid hnn
  clear hnn
  go_enter Try.func52, Try.ntmps52
  go_wp2_with fail
  refine H1.out.mono ?_
  rintro e w1 ⟨rfl, hb1⟩
  have HB1 := Lib.hid hb1
  have hcv := conv_three w1 (place % 256) (count % 256) n (by omega) (by omega) (by omega)
  rw [show ((place % 256 : Nat) : Int) = (place : Int) % 256 from Int.natCast_emod place 256, show ((count % 256 : Nat) : Int) = (count : Int) % 256 from Int.natCast_emod count 256] at hcv
  have hh : (49 : Int) - (n : Int) = ((49 - n : Nat) : Int) := by omega
  have HR : ∀ W, Hid (Calls Try.prog 22 #[.string ⟨#[0]⟩, .int .i64 (49 - (n : Int))] W fun e w' => e = .returned (.string (st (List.replicate (49 - n) 0))) ∧ Below W.heap.size W w') := fun W => by rw [hh]; exact rep_any _ W (by omega)
  obtain ⟨A, hA⟩ : ∃ A, A = [UInt8.ofNat (place % 256), UInt8.ofNat (count % 256), UInt8.ofNat n] := ⟨_, rfl⟩
  rw [← hA] at hcv
  have HA := Lib.hid hA
  obtain ⟨T, hT⟩ : ∃ T, T = lowL 4 (number + 1) := ⟨_, rfl⟩
  rw [← hT]
  have HT := Lib.hid hT
  have hs0 : (st T).size = 4 := by rw [st_size, hT, lowL_length]
  have hs1 : (st A).size = 3 := by rw [st_size, hA]; rfl
  obtain ⟨T1, hT1⟩ : ∃ x, x = T ++ A := ⟨_, rfl⟩
  have e1 : st T ++ st A = st T1 := by rw [hT1, st_append]
  have hs2 : (st T1).size = 7 := by rw [← e1, ByteArray.size_append, hs0, hs1]
  obtain ⟨T2, hT2⟩ : ∃ x, x = T1 ++ data := ⟨_, rfl⟩
  have e2 : st T1 ++ st data = st T2 := by rw [hT2, st_append]
  have hs3 : (st T2).size = 7 + n := by rw [← e2, ByteArray.size_append, hs2, hsz]
  have hs4 : (st (List.replicate (49 - n) (0 : UInt8))).size = 49 - n := by rw [st_size]; simp
  obtain ⟨D, hD⟩ : ∃ x, x = T2 ++ List.replicate (49 - n) (0 : UInt8) := ⟨_, rfl⟩
  have e3 : st T2 ++ st (List.replicate (49 - n) (0 : UInt8)) = st D := by rw [hD, st_append]
  have hs5 : (st D).size = 56 := by rw [← e3, ByteArray.size_append, hs3, hs4]; omega
  have hDb : D = bodyL number place count data := by
    rw [hD, hT2, hT1, hT, hA]; unfold bodyL; rw [← HN.out, show n % 256 = n by omega]
  have HDB := Lib.hid hDb
  have hDl : D.length = 56 := by rw [← st_size]; exact hs5
  obtain ⟨pad, hpad⟩ : ∃ x, x = st (List.replicate (49 - n) (0 : UInt8)) := ⟨_, rfl⟩
  rw [← hpad] at e3 hs4
  simp only [← hpad] at HR
  have hsl : (st (lowL 4 (wd (sumI D)))).size = 4 := by rw [st_size, lowL_length]
  obtain ⟨D1, hD1⟩ : ∃ x, x = D ++ lowL 4 (wd (sumI D)) := ⟨_, rfl⟩
  have e4 : st D ++ st (lowL 4 (wd (sumI D))) = st D1 := by rw [hD1, st_append]
  have hs6 : (st D1).size = 60 := by rw [← e4, ByteArray.size_append, hs5, hsl]
  have HD1 : Hid (D1 ++ T = blkL number place count data) := by
    show _ = _
    rw [hD1, hT]; unfold blkL; rw [← hDb]
  have e5 : st D1 ++ st T = st (blkL number place count data) := by rw [st_append, HD1.out]
  have hW := W32.sum D
  have hw0 := hW.1
  have hw1 := hW.2
  clear H1 hb1 hh hA hT hT1 hT2 hD hD1 hDb hpad hW
  go_wp2_with fail
  refine (HR _).out.mono ?_
  rintro e w2 ⟨rfl, hb2⟩
  have HB2 := Lib.hid ((HB1.out.alloc HB1.out.size _).trans (hb2.mono (Nat.le_trans HB1.out.size (by simp))))
  have HS := Lib.hid (bkSum_any D w2 (by omega))
  clear hb2 hcv
  go_wp2_with fail
  refine HS.out.mono ?_
  rintro e w3 ⟨rfl, rfl⟩
  have HW := Lib.hid (word_any (sumI D) w2)
  clear HS
  go_wp2_with fail
  refine HW.out.mono ?_
  rintro e w4 ⟨rfl, hb4⟩
  have HB4 := Lib.hid (HB2.out.trans (hb4.mono HB2.out.size))
  clear hb4 HW
  go_wp2
  go_ret
  exact ⟨rfl, HB4.out⟩

theorem count_yes (l : List UInt8) (c : Nat) (w : World) (h : l.length = 64) (hc : (l.getD 5 0).toNat = c) :
    Calls Try.prog 55 #[.string (st l)] w fun e w' => e = .returned (.int .i64 c) ∧ w = w' := by
  have hsz : (st l).size = 64 := by rw [st_size, h]
  have hg := st_at l 5 (by omega)
  rw [hc] at hg
  have hb : c < 256 := by rw [← hc]; exact UInt8.toNat_lt _
  clear hc
  go_enter Try.func55, Try.ntmps55
  go_wp2
  go_ret
  exact ⟨rfl, rfl⟩

theorem count_no (l : List UInt8) (w : World) (h : l.length ≠ 64) :
    Calls Try.prog 55 #[.string (st l)] w fun e w' => e = .returned (.int .i64 0) ∧ w = w' := by
  have hsz : (st l).size = l.length := st_size l
  have t1 : ((l.length : Int) == 64) = false := by rw [beq_eq_false_iff_ne]; omega
  have t2 : ((l.length : Int) != 64) = true := by rw [bne_iff_ne]; omega
  have H := Lib.hid h
  clear h
  go_enter Try.func55, Try.ntmps55
  go_wp2
  go_ret
  exact ⟨rfl, rfl⟩

/-- l is a block, of a record of that number, at a place among count, and has these bytes -/
def IsBlk (number place count : Nat) (l data : List UInt8) : Prop :=
  place < count ∧ 1 ≤ data.length ∧ data.length ≤ 49 ∧ (data.length = 49 ∨ place + 1 = count) ∧ l = blkL number place count data

theorem blkL_get6 (number place count : Nat) (data : List UInt8) (h : data.length ≤ 49) : ((blkL number place count data).getD 6 0).toNat = data.length := by
  have e : (blkL number place count data) = (lowL 4 (number + 1) ++ [UInt8.ofNat (place % 256), UInt8.ofNat (count % 256)]) ++ (UInt8.ofNat (data.length % 256) :: (data ++ List.replicate (49 - data.length) 0 ++ lowL 4 (wd (sumI (bodyL number place count data))) ++ lowL 4 (number + 1))) := by
    unfold blkL
    generalize lowL 4 (wd (sumI (bodyL number place count data))) = X
    unfold bodyL
    simp only [List.append_assoc, List.cons_append, List.nil_append]
  rw [e, List.getD_eq_getElem?_getD, List.getElem?_append_right (by simp [lowL_length])]
  simp [lowL_length]
  omega

theorem blkL_get5 (number place count : Nat) (data : List UInt8) (h : count ≤ 255) : ((blkL number place count data).getD 5 0).toNat = count := by
  have e : (blkL number place count data) = (lowL 4 (number + 1) ++ [UInt8.ofNat (place % 256)]) ++ (UInt8.ofNat (count % 256) :: (UInt8.ofNat (data.length % 256) :: (data ++ List.replicate (49 - data.length) 0 ++ lowL 4 (wd (sumI (bodyL number place count data))) ++ lowL 4 (number + 1)))) := by
    unfold blkL
    generalize lowL 4 (wd (sumI (bodyL number place count data))) = X
    unfold bodyL
    simp only [List.append_assoc, List.cons_append, List.nil_append]
  rw [e, List.getD_eq_getElem?_getD, List.getElem?_append_right (by simp [lowL_length])]
  simp [lowL_length]
  omega

theorem blkL_data (number place count : Nat) (data : List UInt8) : ((blkL number place count data).drop 7).take data.length = data := by
  have e : (blkL number place count data) = (lowL 4 (number + 1) ++ [UInt8.ofNat (place % 256), UInt8.ofNat (count % 256), UInt8.ofNat (data.length % 256)]) ++ (data ++ (List.replicate (49 - data.length) 0 ++ lowL 4 (wd (sumI (bodyL number place count data))) ++ lowL 4 (number + 1))) := by
    unfold blkL
    generalize lowL 4 (wd (sumI (bodyL number place count data))) = X
    unfold bodyL
    simp only [List.append_assoc, List.cons_append, List.nil_append]
  rw [e, List.drop_append_of_le_length (by simp [lowL_length])]
  have : (lowL 4 (number + 1) ++ [UInt8.ofNat (place % 256), UInt8.ofNat (count % 256), UInt8.ofNat (data.length % 256)]).drop 7 = [] := List.drop_eq_nil_of_le (by simp [lowL_length])
  rw [this]
  simp

set_option maxHeartbeats 1000000 in
theorem dataIn_yes (number place count : Nat) (l data : List UInt8) (w : World) (hn : number ≤ 4294967294) (hc : count ≤ 255) (h : IsBlk number place count l data) :
    Calls Try.prog 56 #[.string (st l), .int .i64 number, .int .i64 place, .int .i64 count] w fun e w' => e = .returned (.tuple #[.string (st data), .bool true]) ∧ Below w.heap.size w w' := by
  obtain ⟨hp, h1, h49, hor, he⟩ := h
  have hlen : l.length = 64 := by rw [he]; exact blkL_length _ _ _ _ h49
  have hsz : (st l).size = 64 := by rw [st_size, hlen]
  obtain ⟨n, hnn⟩ : ∃ n, n = data.length := ⟨_, rfl⟩
  have hg := st_at l 6 (by omega)
  rw [show (l.getD 6 0).toNat = n by rw [he, blkL_get6 _ _ _ _ h49, hnn]] at hg
  have hex : (st l).extract 7 (7 + n) = st data := by
    rw [st_extract, show 7 + n - 7 = n by omega, hnn, he, blkL_data]
  have H1 := Lib.hid (blockOf_any number place count data w hn h49)
  rw [← he] at H1
  rw [← hnn] at h1 h49 hor
  clear he hnn
  by_cases hlt : n < 49
  · have hpc : ¬ ((place : Int) < (count : Int) - 1) := by omega
    clear hor
    go_enter Try.func56, Try.ntmps56
    go_wp2_with fail
    refine H1.out.mono ?_
    rintro e w1 ⟨rfl, hb⟩
    have HB := Lib.hid hb
    clear hb H1
    go_wp2
    go_ret2
    exact ⟨rfl, HB.out⟩
  · clear hor
    go_enter Try.func56, Try.ntmps56
    go_wp2_with fail
    refine H1.out.mono ?_
    rintro e w1 ⟨rfl, hb⟩
    have HB := Lib.hid hb
    clear hb H1
    go_wp2
    go_ret2
    exact ⟨rfl, HB.out⟩
end Go.Proofs.Ytbpklikmldpeiaa
