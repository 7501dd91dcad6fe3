/-
  Contract of slices.insertionSortCmpFunc at money.mostFirst's comparison.
-/
import Derived.Test.YtmnhjcfhgcineaaSortA
import Derived.Test.YtmnhjcfhgcineaaShuf
import Derived.Deep.OwnRows
import Derived.RegionTactic
import Derived.BigRegion
import Derived.BigGuardPart
namespace Go.Proofs.Ytmnhjcfhgcineaa
open Go.RowKit

/-- A world of the sort: of w0 only block g has turned, it holds the places d. -/
structure SW (w0 : World) (g n : Nat) (d : Nat → Nat) (w : World) : Prop where
  grown : w0.grownBy w (some g)
  row : w.rowIs g 3 n (fun i => .int .i64 (d i))

theorem SW.drewN {w0 w : World} {g n : Nat} {d : Nat → Nat} (h : SW w0 g n d w) (m : Nat) : SW w0 g n d (w.drewN m) :=
  ⟨⟨h.grown.os, h.grown.tape, h.grown.output, h.grown.size, h.grown.block⟩, h.row⟩
theorem SW.drew {w0 w : World} {g n : Nat} {d : Nat → Nat} (h : SW w0 g n d w) : SW w0 g n d w.drew :=
  ⟨⟨h.grown.os, h.grown.tape, h.grown.output, h.grown.size, h.grown.block⟩, h.row⟩

theorem SW.swap {w0 w : World} {g n i j : Nat} {d : Nat → Nat} (h : SW w0 g n d w) (hij : i ≠ j) :
    SW w0 g n (swp d i j) ((w.setCell ⟨g, i, none⟩ (.int .i64 (d j))).setCell ⟨g, j, none⟩ (.int .i64 (d i))) := by
  refine ⟨⟨h.grown.os, h.grown.tape, h.grown.output, by simpa [World.setCell] using h.grown.size, fun k hk hne => ?_⟩, ((h.row.set i _).set j _).congr fun p hp => ?_⟩
  · have hkg : k ≠ g := fun e => hne (by rw [e])
    rw [Below.heap_setCell _ _ _ _ hkg, Below.heap_setCell _ _ _ _ hkg]
    exact h.grown.block k hk hne
  · unfold swp
    by_cases e1 : p = j
    · subst e1; simp [Ne.symm hij]
    · by_cases e2 : p = i
      · subst e2; simp [e1]
      · simp [e1, e2]

/-- What the comparison reads: the box of the slice, and the keys; these are not block g. -/
structure Keys (w0 : World) (Bx bK n c g : Nat) (key : Nat → Int) : Prop where
  box : w0.cell? ⟨Bx, 0, none⟩ = some (.slice (some ⟨bK, 0, none⟩) n c)
  key : ∀ i, i < n → w0.cell? ⟨bK, i, none⟩ = some (.int .u64 (key i))
  ne1 : Bx ≠ g
  ne2 : bK ≠ g

theorem Keys.cmp {w0 w : World} {Bx bK n c g : Nat} {key : Nat → Int} {d : Nat → Nat} (K : Keys w0 Bx bK n c g key) (h : SW w0 g n d w) (x y : Nat) (hx : x < n) (hy : y < n) :
    Calls Try.prog 34 #[.int .i64 x, .int .i64 y, .pointer (some ⟨Bx, 0, none⟩)] w fun e w' => e = .returned (.int .i64 (cmpI (key y) (key x))) ∧ ∃ m, w' = w.drewN m :=
  mfcmp_any Bx bK n c x y (key x) (key y) w (h.grown.cell K.box (by simpa using K.ne1)) hx hy (h.grown.cell (K.key x hx) (by simpa using K.ne2)) (h.grown.cell (K.key y hy) (by simpa using K.ne2))

theorem cmpI_neg {x y : Int} (h : x < y) : decide (cmpI x y < 0) = true := by simp [cmpI, h]
theorem cmpI_pos {x y : Int} (h : ¬ x < y) : decide (cmpI x y < 0) = false := by
  unfold cmpI; rw [if_neg h]; split <;> decide

set_option maxHeartbeats 1600000 in
set_option maxRecDepth 100000 in
theorem insertion_any (Bx bK n c g cap a b : Nat) (key : Nat → Int) (d0 : Nat → Nat) (w0 w : World) (K : Keys w0 Bx bK n c g key) (S : SW w0 g n d0 w) (hab : a ≤ b) (hb : b ≤ n) (hn : n ≤ 1000000)
    (hd : ∀ i, i < n → d0 i < n) (h0 : ∀ p q, a ≤ p → p < q → q < b → d0 p < d0 q) :
    Calls Try.prog 44 #[.slice (some ⟨g, 0, none⟩) n cap, .int .i64 a, .int .i64 b, .func (.func 34) #[] #[.pointer (some ⟨Bx, 0, none⟩)]] w
      fun e w' => e = .returned (.tuple #[]) ∧ ∃ d, SW w0 g n d w' ∧ Ordd key a b d ∧ Shuf a b d0 d := by
  have HK := Lib.hid K
  have HS := Lib.hid S
  have HD := Lib.hid hd
  have H0 := Lib.hid h0
  clear K S hd h0
  go_enter Try.func44, Try.ntmps44
  go_wp2
  go_loopg [8] (b - a) (fun g1 vi wr => ∃ (i : Nat) (d : Nat → Nat), vi = .int .i64 i ∧ a < i ∧ i ≤ b + 1 ∧ b + 1 - i ≤ g1 + 1 ∧ Hid (SW w0 g n d wr) ∧ Hid (InsOut key a b i d0 d ∧ (i ≤ b ∨ d = d0)))
  case atStart => exact ⟨a + 1, d0, by go_num, by omega, by omega, by omega, HS, ⟨fun p q h1 h2 h3 => by omega, Shuf.refl _ _ _⟩, .inr rfl⟩
  case round =>
    clear HS
    obtain ⟨i, d, rfl, hai, hib, hg1, HS, HI⟩ := hrel
    by_cases hlt : i < b
    · go_wp2
      go_loopg [9] i (fun g2 vj wr2 => ∃ (j : Nat) (dj : Nat → Nat), vj = .int .i64 j ∧ a ≤ j ∧ j ≤ i ∧ j ≤ g2 ∧ Hid (SW w0 g n dj wr2) ∧ Hid (InsAt key a i j dj) ∧ Hid (Shuf a (i + 1) d0 dj))
      case atStart => exact ⟨i, d, rfl, by omega, Nat.le_refl _, Nat.le_refl _, HS, InsAt.start HI.out.1.ordd (HI.out.1.last H0.out hlt), HI.out.1.shuf.mono (Nat.le_refl _) (by omega)⟩
      case round =>
        clear HS HI
        obtain ⟨j, dj, rfl, haj, hji, hg2, HS, HI, HF⟩ := hrel
        have hdj : ∀ p, p < n → dj p < n := fun p hp => by
          by_cases hin : a ≤ p ∧ p < i + 1
          · obtain ⟨q, q1, q2, e⟩ := HF.out.from_ hin.1 hin.2
            rw [e]; exact HD.out q (by omega)
          · rw [HF.out.out hin]; exact HD.out p hp
        have HDJ := Lib.hid hdj
        clear hdj
        by_cases hja : a < j
        · obtain ⟨jp, rfl⟩ : ∃ q, j = q + 1 := ⟨j - 1, by omega⟩
          have c1 : wr.cell? ⟨g, jp + 1, none⟩ = some (.int .i64 (dj (jp + 1))) := HS.out.row.cell (by omega)
          have c2 : wr.cell? ⟨g, jp, none⟩ = some (.int .i64 (dj jp)) := HS.out.row.cell (by omega)
          have hcmp := fun m : Nat => HK.out.cmp (HS.out.drewN m) (dj (jp + 1)) (dj jp) (HDJ.out _ (by omega)) (HDJ.out _ (by omega))
          obtain ⟨x, hx⟩ : ∃ x, x = dj (jp + 1) := ⟨_, rfl⟩
          obtain ⟨y, hy⟩ : ∃ y, y = dj jp := ⟨_, rfl⟩
          rw [← hx] at c1 hcmp
          rw [← hy] at c2 hcmp
          have HX := Lib.hid hx
          have HY := Lib.hid hy
          clear hx hy
          have HC := Lib.hid hcmp
          clear hcmp
          have z1 : decide ((a : Int) < (jp : Int) + 1) = true := decide_eq_true (by omega)
          have z2 : (0 : Int) ≤ (jp : Int) + 1 := by omega
          have z3 : (jp : Int) + 1 < (n : Int) := by omega
          have z4 : ((jp : Int) + 1).toNat = jp + 1 := by omega
          have z5 : IntKind.i64.wrap (jp : Int) = (jp : Int) := IntWalk.i64_in _ (by omega)
          have z6 : (0 : Int) ≤ (jp : Int) := by omega
          have z7 : (jp : Int) < (n : Int) := by omega
          by_cases hlv : key y < key x
          · have t1 := cmpI_neg hlv
            go_wp2_with fail
            go_quiet ((go_at_call 34; exact Calls.quiet_of (HC.out _)))
            go_wp2
            have S1 := HS.out.drewN nq
            clear HC c1 c2
            obtain ⟨w1, hw1⟩ : ∃ w1, w1 = wr.drewN nq := ⟨_, rfl⟩
            rw [← hw1] at S1 ⊢
            clear hw1
            have c1 : w1.cell? ⟨g, jp + 1, none⟩ = some (.int .i64 x) := by rw [HX.out]; exact S1.row.cell (by omega)
            have c2 : w1.cell? ⟨g, jp, none⟩ = some (.int .i64 y) := by rw [HY.out]; exact S1.row.cell (by omega)
            have f1 := S1.row.frozen (jp + 1)
            have f2 := S1.row.frozen jp
            have S2 := S1.swap (i := jp + 1) (j := jp) (by omega)
            rw [← HX.out, ← HY.out] at S2
            have HS1 := Lib.hid S2
            clear S1 S2 HS
            go_region
            all_goals go_wp2
            go_roundg jp
            case measure => omega
            case rel =>
              have hst := HI.out.step (by omega) hji (by rw [Nat.add_sub_cancel, ← HX.out, ← HY.out]; exact hlv)
              rw [Nat.add_sub_cancel] at hst
              exact ⟨jp, swp dj (jp + 1) jp, by go_num, by omega, by omega, Nat.le_refl _, HS1.out.drew, hst, HF.out.trans (Shuf.swp dj ⟨by omega, by omega⟩ ⟨by omega, by omega⟩)⟩
          · have t1 := cmpI_pos hlv
            go_wp2_with fail
            go_quiet ((go_at_call 34; exact Calls.quiet_of (HC.out _)))
            go_wp2
            go_roundg (b - (i + 1))
            case measure => omega
            case rel => exact ⟨i + 1, dj, by go_num, by omega, by omega, by omega, HS.out.drewN nq, ⟨HI.out.stop haj hji (.inr (by rw [Nat.add_sub_cancel, ← HX.out, ← HY.out]; omega)), HF.out⟩, .inl (by omega)⟩
        · obtain rfl : j = a := by omega
          have z1 : decide ((j : Int) < (j : Int)) = false := decide_eq_false (by omega)
          go_wp2_with fail
          go_quiet (fail)
          go_wp2
          go_roundg (b - (i + 1))
          case measure => omega
          case rel => exact ⟨i + 1, dj, by go_num, by omega, by omega, by omega, HS.out.drewN nq, ⟨HI.out.stop haj hji (.inl rfl), HF.out⟩, .inl (by omega)⟩
    · go_wp2
      go_end0
      refine ⟨rfl, d, HS.out, fun p q h1 h2 h3 => HI.out.1.ordd p q h1 h2 (by omega), ?_⟩
      rcases HI.out.2 with hi | hi
      · exact HI.out.1.shuf.mono (Nat.le_refl _) hi
      · rw [hi]; exact Shuf.refl _ _ _
end Go.Proofs.Ytmnhjcfhgcineaa
