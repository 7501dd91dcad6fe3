/-
  Contract of souklaw17.moved, of one record at most.
-/
import Derived.Test.YtdahgmkbpiklpaaAtK
import Derived.Test.YtdahgmkbpiklpaaGtR
import Derived.Deep.LoopGhost
namespace Go.Proofs.Ytdahgmkbpiklpaa
open Go.RowKit Go.Deep Go.Lib

set_option maxHeartbeats 3200000 in
theorem moved_any (B b : Nat) (L : List Rc) (Q : List Rp) (v1 v2 : Value) (w : World) (h : GateP 46 63 59 B w b L Q v1 v2) (hl : L.length ≤ 1) (hk : ∀ x ∈ L, x.1 = kK) (hA : ∀ x ∈ L, 0 ≤ x.2.2.2.1 ∧ x.2.2.2.1 ≤ 4611686018427387904) :
    Calls Try.prog 15 #[.pointer (some ⟨b, 0, none⟩), .string ⟨#[107]⟩] w fun e w' => e = .returned (.tuple #[.int .i64 (mvS L), .int .i64 (mvN L)]) ∧ Below w.heap.size w w' := by
  have H1 := Lib.hid (records_any B b L Q v1 v2 w h (by omega))
  unfold RowToG at H1
  obtain ⟨n, hn⟩ : ∃ n, n = L.length := ⟨_, rfl⟩
  have HN := Lib.hid hn
  rw [← hn] at H1 hl
  have HK := Lib.hid hk
  have HA := Lib.hid hA
  obtain ⟨sv, hsv⟩ : ∃ sv, sv = mvS L := ⟨_, rfl⟩
  obtain ⟨nv, hnv⟩ : ∃ nv, nv = mvN L := ⟨_, rfl⟩
  have HSV := Lib.hid hsv
  have HNV := Lib.hid hnv
  rw [← hsv, ← hnv]
  clear h hn hk hA hsv hnv
  go_enter Try.func15, Try.ntmps15
  go_wp2_with fail
  refine H1.out.mono ?_
  rintro e w1 ⟨a, c, rfl, hr, _, hb⟩
  have HR := Lib.hid hr
  have HB := Lib.hid hb
  clear hr hb H1
  go_wp2
  go_loopg [6, 7, 9, 13] n (fun gk s m _ i wr => ∃ (j : Nat) (x y : Int), j ≤ n ∧ i = .int .i64 j ∧ n - j ≤ gk ∧ s = .int .i64 x ∧ m = .int .i64 y ∧ Hid ((j = 0 ∧ x = 0 ∧ y = 0) ∨ (j = n ∧ x = sv ∧ y = nv)) ∧ Hid (Below w1.heap.size w1 wr))
  case atStart => exact ⟨0, 0, 0, Nat.zero_le _, rfl, by omega, rfl, rfl, .inl ⟨rfl, rfl, rfl⟩, Below.refl _ _⟩
  case round =>
    obtain ⟨j, x, y, hj, rfl, hgk, rfl, rfl, HW, HBJ⟩ := hrel
    by_cases hlt : j < n
    · obtain ⟨rfl, rfl, rfl⟩ : j = 0 ∧ x = 0 ∧ y = 0 := by
        rcases HW.out with h | h
        · exact h
        · omega
      obtain rfl : n = 1 := by omega
      obtain ⟨r, hr⟩ : ∃ r, L = [r] := List.length_eq_one_iff.1 HN.out.symm
      have hx : L[0]? = some r := by rw [hr]; rfl
      obtain ⟨b1, off, rfl⟩ := HR.out.form (by rw [hr]; simp)
      obtain ⟨c0, c1, c2, c3, c4⟩ := cells5 (HR.out.keep HBJ.out) hx
      rw [Nat.zero_mul, Nat.add_zero] at c0 c1 c2 c3 c4
      have hk := HK.out r (by rw [hr]; simp)
      have hA := HA.out r (by rw [hr]; simp)
      obtain ⟨r0, r1, r2, r3, r4⟩ := r
      simp only at hk hA c0 c1 c2 c3 c4
      subst hk
      have hbe : ∀ o, Below w1.heap.size w1 (wr.alloc o) := fun o => HBJ.out.alloc HBJ.out.size o
      have HBE := Lib.hid hbe
      have p1 : ((st kK).toList == [107]) = true := txt_t rfl
      have i1 : IntKind.i64.wrap r3 = r3 := IntWalk.i64_in _ (by omega)
      have i2 : IntKind.i64.wrap (0 + r3) = r3 := by rw [Int.zero_add]; exact i1
      clear hbe hx HW
      cases r4 with
      | true =>
        have HS : Hid (sv = r3) := by show _ = _; rw [HSV.out, hr]; rfl
        have HM : Hid (nv = 1) := by show _ = _; rw [HNV.out, hr]; rfl
        clear hr hA
        go_wp2
        go_roundg 0
        case measure => omega
        case rel => exact ⟨1, r3, 1, by omega, by go_num, by omega, rfl, rfl, .inr ⟨rfl, HS.out.symm, HM.out.symm⟩, HBE.out _⟩
      | false =>
        have HS : Hid (sv = 0) := by show _ = _; rw [HSV.out, hr]; rfl
        have HM : Hid (nv = 0) := by show _ = _; rw [HNV.out, hr]; rfl
        clear hr hA
        go_wp2
        go_roundg 0
        case measure => omega
        case rel => exact ⟨1, 0, 0, by omega, by go_num, by omega, rfl, rfl, .inr ⟨rfl, HS.out.symm, HM.out.symm⟩, HBE.out _⟩
    · have e : n = j := by omega
      have hxy : x = sv ∧ y = nv := by
        rcases HW.out with h | h
        · obtain ⟨h1, h2, h3⟩ := h
          have h0 : L = [] := List.eq_nil_of_length_eq_zero (by rw [← HN.out]; omega)
          exact ⟨by rw [h2, HSV.out, h0]; rfl, by rw [h3, HNV.out, h0]; rfl⟩
        · exact h.2
      obtain ⟨rfl, rfl⟩ := hxy
      have HF := Lib.hid (HB.out.trans (bel_lessG HBJ.out HB.out.size))
      clear hgk HW
      go_wp2
      go_ret2
      exact ⟨rfl, HF.out⟩
end Go.Proofs.Ytdahgmkbpiklpaa
