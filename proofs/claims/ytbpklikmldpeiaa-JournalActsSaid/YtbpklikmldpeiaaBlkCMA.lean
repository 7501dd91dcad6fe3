/-
  Contract of block.dataIn, where there is none.
-/
import Derived.Test.YtbpklikmldpeiaaBlkBMA
namespace Go.Proofs.Ytbpklikmldpeiaa
open Go.RowKit

set_option maxHeartbeats 1000000 in
theorem dataIn_no (number place count : Nat) (l : List UInt8) (w : World) (hn : number ≤ 4294967294) (hc : count ≤ 255) (hno : ∀ data, ¬ IsBlk number place count l data) :
    Calls Try.prog 56 #[.string (st l), .int .i64 number, .int .i64 place, .int .i64 count] w fun e w' => e = .returned (.tuple #[.string (st []), .bool false]) ∧ Below w.heap.size w w' := by
  have e0 : (⟨#[]⟩ : ByteArray) = st [] := rfl
  have hsz := st_size l
  have HNO := Lib.hid hno
  clear hno
  by_cases hlen : l.length = 64
  · rw [hlen] at hsz
    by_cases hp : place < count
    · obtain ⟨n, hnn⟩ : ∃ n, n = (l.getD 6 0).toNat := ⟨_, rfl⟩
      have hg := st_at l 6 (by omega)
      rw [← hnn] at hg
      have hb : n < 256 := by rw [hnn]; exact UInt8.toNat_lt _
      have HL := Lib.hid hlen
      clear hnn hlen
      by_cases h1 : n < 1
      · go_enter Try.func56, Try.ntmps56
        go_wp2
        go_ret2
        exact ⟨rfl, Below.refl _ _⟩
      · by_cases h49 : 49 < n
        · go_enter Try.func56, Try.ntmps56
          go_wp2
          go_ret2
          exact ⟨rfl, Below.refl _ _⟩
        · obtain ⟨data, hdd⟩ : ∃ data, data = (l.drop 7).take n := ⟨_, rfl⟩
          have hdl : data.length = n := by rw [hdd]; simp [HL.out]; omega
          have hex : (st l).extract 7 (7 + n) = st data := by rw [st_extract, show 7 + n - 7 = n by omega, hdd]
          have H1 := Lib.hid (blockOf_any number place count data w hn (by omega))
          have hne : n = 49 ∨ place + 1 = count → ((st l).toList == (st (blkL number place count data)).toList) = false := by
            intro hor
            refine st_neb fun he => ?_
            exact HNO.out data ⟨hp, by omega, by omega, by rw [hdl]; exact hor, he⟩
          have HNE := Lib.hid hne
          clear hne hdd
          by_cases hlt : n < 49
          · by_cases hpc : (place : Int) < (count : Int) - 1
            · go_enter Try.func56, Try.ntmps56
              go_wp2
              go_ret2
              exact ⟨rfl, Below.refl _ _⟩
            · have hne := HNE.out (.inr (by omega))
              go_enter Try.func56, Try.ntmps56
              go_wp2_with fail
              refine H1.out.mono ?_
              rintro e w1 ⟨rfl, hb⟩
              have HB := Lib.hid hb
              clear hb H1
              go_wp2
              go_ret2
              exact ⟨rfl, HB.out⟩
          · have hne := HNE.out (.inl (by omega))
            go_enter Try.func56, Try.ntmps56
            go_wp2_with fail
            refine H1.out.mono ?_
            rintro e w1 ⟨rfl, hb⟩
            have HB := Lib.hid hb
            clear hb H1
            go_wp2
            go_ret2
            exact ⟨rfl, HB.out⟩
    · go_enter Try.func56, Try.ntmps56
      go_wp2
      go_ret2
      exact ⟨rfl, Below.refl _ _⟩
  · have t1 : ((l.length : Int) == 64) = false := by rw [beq_eq_false_iff_ne]; omega
    have t2 : ((l.length : Int) != 64) = true := by rw [bne_iff_ne]; omega
    have H := Lib.hid hlen
    clear hlen
    go_enter Try.func56, Try.ntmps56
    go_wp2
    go_ret2
    exact ⟨rfl, Below.refl _ _⟩
end Go.Proofs.Ytbpklikmldpeiaa
