/-
  Contracts of block.sum, soukref03.Sum, block.isNumber, block.word.
-/
import Derived.Test.YtbpklikmldpeiaaBlkPMA
import Derived.Test.YtbpklikmldpeiaaOctBMA
namespace Go.Proofs.Ytbpklikmldpeiaa
open Go.RowKit

theorem u32_wrap (z : Int) (h0 : 0 ≤ z) (h1 : z < 4294967296) : IntKind.u32.wrap z = z := by
  simp only [IntKind.wrap, IntKind.bits, IntKind.signed]
  simp
  omega

set_option maxHeartbeats 1000000 in
theorem bkSum_any (l : List UInt8) (w : World) (hl : l.length ≤ 1000000) :
    Calls Try.prog 64 #[.string (st l)] w fun e w' => e = .returned (.int .u32 (sumI l)) ∧ w = w' := by
  have hsz := st_size l
  obtain ⟨n, hn⟩ : ∃ n, n = l.length := ⟨_, rfl⟩
  rw [← hn] at hsz hl
  have HN := Lib.hid hn
  clear hn
  go_enter Try.func64, Try.ntmps64
  go_wp2
  go_loop [3, 4, 5, 8, 17] (fun x _ _ i _ => ∃ k : Nat, k ≤ n ∧ i = .int .i64 k ∧ x = .int .u32 (sAll (l.take k))) (fun _ _ _ i _ => n - (intOf i).toNat)
  case atStart => exact ⟨0, Nat.zero_le _, rfl, rfl⟩
  case round =>
    obtain ⟨k, hk, rfl, rfl⟩ := hrel
    have hw := W32.all (l.take k)
    by_cases hlt : k < n
    · have hkk : k < (st l).size := by omega
      have hb : ((st l)[k]'hkk).toNat < 256 := UInt8.toNat_lt _
      have hc : IntKind.u32.wrap (((st l)[k]'hkk).toNat : Int) = (((st l)[k]'hkk).toNat : Int) := u32_wrap _ (by omega) (by omega)
      have hwx := W32.bits (sAll (l.take k)) (((st l)[k]'hkk).toNat : Int)
      have HS : Hid (sAll (l.take (k + 1)) = sTimes 8 (bits .xor .u32 (sAll (l.take k)) (((st l)[k]'hkk).toNat : Int))) := by
        show _ = _
        rw [sAll_succ l k (by have := HN.out; omega)]; rfl
      obtain ⟨x, hx⟩ : ∃ x, x = bits .xor .u32 (sAll (l.take k)) (((st l)[k]'hkk).toNat : Int) := ⟨_, rfl⟩
      rw [← hx] at HS hwx
      have HX := Lib.hid hx
      clear hx
      go_wp2
      rw [← HX.out]
      go_loop [3, 5, 17] (fun y _ j => ∃ m : Nat, m ≤ 8 ∧ j = .int .i64 m ∧ y = .int .u32 (sTimes m x)) (fun _ _ j => 8 - (intOf j).toNat)
      case atStart => exact ⟨0, by omega, rfl, rfl⟩
      case round =>
        obtain ⟨m, hm, rfl, rfl⟩ := hrel
        by_cases hlt2 : m < 8
        · have hv := hwx.times m
          have HV := Lib.hid (show sTimes (m + 1) x = sHalf (sTimes m x) from rfl)
          obtain ⟨v, hv0⟩ : ∃ v, v = sTimes m x := ⟨_, rfl⟩
          rw [← hv0] at hv HV ⊢
          obtain ⟨hv1, hv2⟩ := hv
          have HV0 := Lib.hid hv0
          clear hv0 hwx hw
          by_cases hodd : v % 2 = 1
          · have e : sHalf v = bits .xor .u32 (v / 2) 3988292384 := by unfold sHalf; rw [if_pos hodd]
            have HE := Lib.hid e
            clear e
            go_wp2
            go_round
            case rel => exact ⟨m + 1, by omega, by go_num, by rw [HV.out, HE.out]⟩
            case measure => simp [intOf]; omega
          · have e : sHalf v = v / 2 := by unfold sHalf; rw [if_neg hodd]
            have HE := Lib.hid e
            clear e
            go_wp2
            go_round
            case rel => exact ⟨m + 1, by omega, by go_num, by rw [HV.out, HE.out]⟩
            case measure => simp [intOf]; omega
        · have e8 : m = 8 := by omega
          subst e8
          go_wp2
          go_round
          case rel => exact ⟨k + 1, by omega, by go_num, by rw [HS.out]⟩
          case measure => simp [intOf]; omega
    · have e : k = n := by omega
      subst e
      have e2 : l.take k = l := List.take_of_length_le (by have := HN.out; omega)
      have hw1 := hw.1
      have hw2 := hw.2
      have HE := Lib.hid e2
      clear e2 hw
      go_wp2
      go_ret
      refine ⟨?_, rfl⟩
      rw [HE.out]
      exact congrArg (fun z => Ending.returned (Value.int IntKind.u32 z)) (not_u32 _)

set_option maxHeartbeats 1000000 in
theorem r4Sum_any (l : List UInt8) (w : World) (hl : l.length ≤ 1000000) :
    Calls Try.prog 54 #[.string (st l)] w fun e w' => e = .returned (.int .u32 (sumI l)) ∧ w = w' := by
  have hsz := st_size l
  obtain ⟨n, hn⟩ : ∃ n, n = l.length := ⟨_, rfl⟩
  rw [← hn] at hsz hl
  have HN := Lib.hid hn
  clear hn
  go_enter Try.func54, Try.ntmps54
  go_wp2
  go_loop [3, 4, 5] (fun x i _ => ∃ k : Nat, k ≤ n ∧ i = .int .i64 k ∧ x = .int .u32 (sAll (l.take k))) (fun _ i _ => n - (intOf i).toNat)
  case atStart => exact ⟨0, Nat.zero_le _, rfl, rfl⟩
  case round =>
    obtain ⟨k, hk, rfl, rfl⟩ := hrel
    have hw := W32.all (l.take k)
    by_cases hlt : k < n
    · have hkk : k < (st l).size := by omega
      have hb : ((st l)[k]'hkk).toNat < 256 := UInt8.toNat_lt _
      have hc : IntKind.u32.wrap (((st l)[k]'hkk).toNat : Int) = (((st l)[k]'hkk).toNat : Int) := u32_wrap _ (by omega) (by omega)
      have hwx := W32.bits (sAll (l.take k)) (((st l)[k]'hkk).toNat : Int)
      have HS : Hid (sAll (l.take (k + 1)) = sTimes 8 (bits .xor .u32 (sAll (l.take k)) (((st l)[k]'hkk).toNat : Int))) := by
        show _ = _
        rw [sAll_succ l k (by have := HN.out; omega)]; rfl
      obtain ⟨x, hx⟩ : ∃ x, x = bits .xor .u32 (sAll (l.take k)) (((st l)[k]'hkk).toNat : Int) := ⟨_, rfl⟩
      rw [← hx] at HS hwx
      have HX := Lib.hid hx
      clear hx
      go_wp2
      rw [← HX.out]
      go_loop [3, 5] (fun y j => ∃ m : Nat, m ≤ 8 ∧ j = .int .i64 m ∧ y = .int .u32 (sTimes m x)) (fun _ j => 8 - (intOf j).toNat)
      case atStart => exact ⟨0, by omega, rfl, rfl⟩
      case round =>
        obtain ⟨m, hm, rfl, rfl⟩ := hrel
        by_cases hlt2 : m < 8
        · have hv := hwx.times m
          have HV := Lib.hid (show sTimes (m + 1) x = sHalf (sTimes m x) from rfl)
          obtain ⟨v, hv0⟩ : ∃ v, v = sTimes m x := ⟨_, rfl⟩
          rw [← hv0] at hv HV ⊢
          obtain ⟨hv1, hv2⟩ := hv
          have HV0 := Lib.hid hv0
          clear hv0 hwx hw
          by_cases hodd : v % 2 = 1
          · have e : sHalf v = bits .xor .u32 (v / 2) 3988292384 := by unfold sHalf; rw [if_pos hodd]
            have HE := Lib.hid e
            clear e
            go_wp2
            go_round
            case rel => exact ⟨m + 1, by omega, by go_num, by rw [HV.out, HE.out]⟩
            case measure => simp [intOf]; omega
          · have e : sHalf v = v / 2 := by unfold sHalf; rw [if_neg hodd]
            have HE := Lib.hid e
            clear e
            go_wp2
            go_round
            case rel => exact ⟨m + 1, by omega, by go_num, by rw [HV.out, HE.out]⟩
            case measure => simp [intOf]; omega
        · have e8 : m = 8 := by omega
          subst e8
          go_wp2
          go_round
          case rel => exact ⟨k + 1, by omega, by go_num, by rw [HS.out]⟩
          case measure => simp [intOf]; omega
    · have e : k = n := by omega
      subst e
      have e2 : l.take k = l := List.take_of_length_le (by have := HN.out; omega)
      have HE := Lib.hid e2
      clear e2 hw
      go_wp2
      go_ret
      refine ⟨?_, rfl⟩
      rw [HE.out]
      rfl

theorem isNum_yes (n : Int) (w : World) (h0 : 0 ≤ n) (h1 : n ≤ 4294967294) :
    Calls Try.prog 51 #[.int .i64 n] w fun e w' => e = .returned (.bool true) ∧ w = w' := by
  go_enter Try.func51, Try.ntmps51
  go_wp2
  go_ret
  exact ⟨rfl, rfl⟩

theorem isNum_no (n : Int) (w : World) (h : ¬ (0 ≤ n ∧ n ≤ 4294967294)) :
    Calls Try.prog 51 #[.int .i64 n] w fun e w' => e = .returned (.bool false) ∧ w = w' := by
  by_cases h0 : 0 ≤ n
  · have h1 : ¬ n ≤ 4294967294 := fun h1 => h ⟨h0, h1⟩
    clear h
    go_enter Try.func51, Try.ntmps51
    go_wp2
    go_ret
    exact ⟨rfl, rfl⟩
  · clear h
    go_enter Try.func51, Try.ntmps51
    go_wp2
    go_ret
    exact ⟨rfl, rfl⟩

theorem new_writer (w : World) : WAt (w.alloc (.cells #[.pointer none, .bool false] 124)) w.heap.size w.heap.size (some []) :=
  ⟨Nat.le_refl _, none, Blk.new w _ _, rfl⟩

theorem flat_one (z : Int) : flat [lowL 8 (wd z)] = lowL 8 (wd z) := by simp [flat]

/-- a number's lowest four bytes -/
theorem word_any (z : Int) (w : World) :
    Calls Try.prog 63 #[.int .i64 z] w fun e w' => e = .returned (.string (st (lowL 4 (wd z)))) ∧ Below w.heap.size w w' := by
  have H1 := Lib.hid (wInt_any w.heap.size w.heap.size (some []) z _ (new_writer w) (by simp))
  have H0 := Lib.hid ((Below.refl w.heap.size w).alloc (Nat.le_refl _) (.cells #[.pointer none, .bool false] 124))
  go_enter Try.func63, Try.ntmps63
  go_wp2_with fail
  refine H1.out.mono ?_
  rintro e w1 ⟨rfl, hg, ha⟩
  have HB1 := Lib.hid (Below.of_grown H0.out hg (by simp) (Nat.le_refl _))
  have H2 := bytes_any w.heap.size w.heap.size [lowL 8 (wd z)] w1 ha (by rw [flat_one, lowL_length]; decide)
  rw [flat_one] at H2
  have H2 := Lib.hid H2
  have hsz : (st (lowL 8 (wd z))).size = 8 := by rw [st_size, lowL_length]
  have hex : (st (lowL 8 (wd z))).extract 0 4 = st (lowL 4 (wd z)) := by rw [st_extract]; rfl
  clear hg ha H1
  go_wp2_with fail
  refine H2.out.mono ?_
  rintro e w2 ⟨rfl, hb⟩
  have HB2 := Lib.hid (HB1.out.trans (hb.mono HB1.out.size))
  clear hb H2
  go_wp2
  go_ret
  exact ⟨rfl, HB2.out⟩
end Go.Proofs.Ytbpklikmldpeiaa
