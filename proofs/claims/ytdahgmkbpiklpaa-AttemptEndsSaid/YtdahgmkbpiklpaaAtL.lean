/-
  Contracts of souklaw17.lives and small.
-/
import Derived.Test.YtdahgmkbpiklpaaAtB
import Derived.Deep.LoopGhost
namespace Go.Proofs.Ytdahgmkbpiklpaa
open Go.RowKit Go.Deep Go.Lib

def lv0 : Py := ⟨[107], [], [], 0, kReady, 0, 0, 0⟩
def lv1 : Py := ⟨[107], [], [], 0, kAsked, 7, 0, 1⟩
def lv2 : Py := ⟨[107], [], [], 0, kQueried, 9, 0, 2⟩

theorem lv_one (w : World) : Calls Try.prog 8 #[.agg #[.string ⟨#[107]⟩, .string ⟨#[]⟩, .string ⟨#[]⟩, .int .i64 0, .string ⟨#[114, 101, 97, 100, 121]⟩, .int .i64 0, .int .i64 0, .int .i64 0], .int .i64 5] w fun e w' =>
    e = .returned (.tuple #[.agg #[.string ⟨#[107]⟩, .string ⟨#[]⟩, .string ⟨#[]⟩, .int .i64 0, .string ⟨#[97, 115, 107, 101, 100]⟩, .int .i64 7, .int .i64 0, .int .i64 1], .agg #[.string (st kPay), .string ⟨#[107]⟩, .string ⟨#[]⟩, .string ⟨#[]⟩, .int .i64 0, .int .i64 1], .bool true]) ∧ Below w.heap.size w w' :=
  step_any lv0 5 w ⟨by decide, by decide⟩ ⟨by decide, by decide⟩ ⟨by decide, by decide⟩
theorem lv_two (w : World) : Calls Try.prog 8 #[.agg #[.string ⟨#[107]⟩, .string ⟨#[]⟩, .string ⟨#[]⟩, .int .i64 0, .string ⟨#[97, 115, 107, 101, 100]⟩, .int .i64 7, .int .i64 0, .int .i64 1], .int .i64 6] w fun e w' =>
    e = .returned (.tuple #[.agg #[.string ⟨#[107]⟩, .string ⟨#[]⟩, .string ⟨#[]⟩, .int .i64 0, .string ⟨#[97, 115, 107, 101, 100]⟩, .int .i64 7, .int .i64 0, .int .i64 1], .agg #[.string ⟨#[]⟩, .string ⟨#[]⟩, .string ⟨#[]⟩, .string ⟨#[]⟩, .int .i64 0, .int .i64 0], .bool false]) ∧ Below w.heap.size w w' :=
  step_any lv1 6 w ⟨by decide, by decide⟩ ⟨by decide, by decide⟩ ⟨by decide, by decide⟩
theorem lv_three (w : World) : Calls Try.prog 8 #[.agg #[.string ⟨#[107]⟩, .string ⟨#[]⟩, .string ⟨#[]⟩, .int .i64 0, .string ⟨#[97, 115, 107, 101, 100]⟩, .int .i64 7, .int .i64 0, .int .i64 1], .int .i64 7] w fun e w' =>
    e = .returned (.tuple #[.agg #[.string ⟨#[107]⟩, .string ⟨#[]⟩, .string ⟨#[]⟩, .int .i64 0, .string (st kQueried), .int .i64 9, .int .i64 0, .int .i64 2], .agg #[.string (st kQuery), .string ⟨#[107]⟩, .string ⟨#[]⟩, .string ⟨#[]⟩, .int .i64 0, .int .i64 2], .bool true]) ∧ Below w.heap.size w w' :=
  step_any lv1 7 w ⟨by decide, by decide⟩ ⟨by decide, by decide⟩ ⟨by decide, by decide⟩

set_option maxHeartbeats 3200000 in
theorem lives17_any (w : World) : Calls Try.prog 6 #[] w fun e w' => e = .returned (.bool true) ∧ Below w.heap.size w w' := by
  have H1 := Lib.hid lv_one
  have H2 := Lib.hid lv_two
  have H3 := Lib.hid lv_three
  have p1 : ((st kPay).toList == [112, 97, 121]) = true := txt_t rfl
  have p2 : ((st kQuery).toList == [113, 117, 101, 114, 121]) = true := txt_t rfl
  have p3 : ((st kQueried).toList == [113, 117, 101, 114, 105, 101, 100]) = true := txt_t rfl
  go_enter Try.func6, Try.ntmps6
  go_wp2_with fail
  refine (H1.out _).mono ?_
  rintro e w1 ⟨rfl, hb1⟩
  have HB1 := Lib.hid hb1
  clear hb1
  go_wp2_with fail
  refine (H2.out _).mono ?_
  rintro e w2 ⟨rfl, hb2⟩
  have HP := Lib.hid ((((Blk.new w1 23 #[.string ⟨#[107]⟩, .string ⟨#[]⟩, .string ⟨#[]⟩, .int .i64 0, .string ⟨#[97, 115, 107, 101, 100]⟩, .int .i64 7, .int .i64 0, .int .i64 1])).alloc _).since hb2)
  have HR := Lib.hid ((blk_two w1 _ 29 #[.string (st kPay), .string ⟨#[107]⟩, .string ⟨#[]⟩, .string ⟨#[]⟩, .int .i64 0, .int .i64 1]).since hb2)
  have HB2 : Hid (Below w.heap.size w w2) := bel_onG ((HB1.out.alloc HB1.out.size _).alloc (HB1.out.alloc HB1.out.size _).size _) ((HB1.out.alloc HB1.out.size _).alloc (HB1.out.alloc HB1.out.size _).size _).size hb2
  obtain ⟨c0, c1, c2, c3, c4, c5, c6, c7⟩ := HP.out.cells8
  have hlt := HP.out.lt
  clear hb2 HB1
  go_wp2_with fail
  refine (H3.out _).mono ?_
  rintro e w3 ⟨rfl, hb3⟩
  have HR3 := Lib.hid (((HR.out.alloc _).alloc _).since hb3)
  have HB3 : Hid (Below w.heap.size w w3) := bel_onG ((HB2.out.alloc HB2.out.size _).alloc (HB2.out.alloc HB2.out.size _).size _) ((HB2.out.alloc HB2.out.size _).alloc (HB2.out.alloc HB2.out.size _).size _).size hb3
  obtain ⟨rb, hrb⟩ : ∃ rb, rb = w1.heap.size + 1 := ⟨_, rfl⟩
  rw [← hrb] at HR3 ⊢
  clear hrb
  obtain ⟨e0, e1, e2, e3, e4, e5⟩ := HR3.out.cells6
  have hl3 := HR3.out.lt
  clear hb3 HB2 HP HR hlt H1 H2 H3 e1 e2 e3 e4 e5 c0 c1 c2 c3 c4 c5 c6 c7
  go_wp2
  go_ret
  exact ⟨rfl, (HB3.out.alloc HB3.out.size _).alloc (HB3.out.alloc HB3.out.size _).size _⟩

def smB (z : Int) : Bool := decide (-4611686018427387904 ≤ z) && decide (z ≤ 4611686018427387904)
theorem smB_sm {z : Int} (h : smB z = true) : Sm z := by
  unfold smB at h
  rw [Bool.and_eq_true, decide_eq_true_eq, decide_eq_true_eq] at h
  exact h
theorem smB_no {z : Int} (h : ¬ Sm z) : smB z = false := by
  cases e : smB z with
  | false => rfl
  | true => exact absurd (smB_sm e) h
theorem sm_smB {z : Int} (h : Sm z) : smB z = true := by
  unfold smB
  rw [decide_eq_true h.1, decide_eq_true h.2]; rfl

set_option maxHeartbeats 1600000 in
theorem small_any (g c : Nat) (zs : List Int) (w : World) (hc : ∀ i, i < zs.length → w.cell? ⟨g, i, none⟩ = some (.int .i64 (zs.getD i 0))) (hl : zs.length ≤ 10) :
    Calls Try.prog 7 #[.slice (some ⟨g, 0, none⟩) zs.length c] w fun e w' => e = .returned (.bool (zs.all smB)) ∧ w = w' := by
  have HC := Lib.hid hc
  obtain ⟨n, hn⟩ : ∃ n, n = zs.length := ⟨_, rfl⟩
  have HN := Lib.hid hn
  rw [← hn] at hl ⊢
  clear hc hn
  go_enter Try.func7, Try.ntmps7
  go_wp2
  go_loopg [4, 7] n (fun gk _ i wr => ∃ k : Nat, k ≤ n ∧ i = .int .i64 k ∧ n - k ≤ gk ∧ Hid (∀ j, j < k → smB (zs.getD j 0) = true) ∧ w = wr)
  case atStart => exact ⟨0, Nat.zero_le _, rfl, by omega, fun j hj => by omega, rfl⟩
  case round =>
    obtain ⟨k, hk, rfl, hgk, HA, rfl⟩ := hrel
    by_cases hlt : k < n
    · have c0 := HC.out k (by rw [← HN.out]; exact hlt)
      have hmem : zs.getD k 0 ∈ zs := by
        rw [List.getD_eq_getElem?_getD, List.getElem?_eq_getElem (by rw [← HN.out]; exact hlt)]
        exact List.getElem_mem _
      have HM := Lib.hid hmem
      obtain ⟨z, hz⟩ : ∃ z, z = zs.getD k 0 := ⟨_, rfl⟩
      have HZ := Lib.hid hz
      rw [← hz] at c0 HM
      clear hmem hz
      by_cases hs : Sm z
      · have h1 : ¬ z < -4611686018427387904 := by unfold Sm at hs; omega
        have h2 : ¬ (4611686018427387904 : Int) < z := by unfold Sm at hs; omega
        have HS := Lib.hid (sm_smB hs)
        clear hs
        go_wp2
        go_roundg (n - (k + 1))
        case measure => omega
        case rel =>
          refine ⟨k + 1, by omega, by go_num, by omega, fun j hj => ?_, rfl⟩
          by_cases e : j = k
          · subst e; rw [← HZ.out]; exact HS.out
          · exact HA.out j (by omega)
      · have HS : Hid (zs.all smB = false) := by
          show _ = _
          rw [List.all_eq_false]
          exact ⟨z, HM.out, by rw [smB_no hs]; decide⟩
        by_cases h1 : z < -4611686018427387904
        · clear hs
          go_wp2
          go_ret
          exact ⟨by rw [HS.out]; first | done | rfl, rfl⟩
        · have h2 : (4611686018427387904 : Int) < z := by unfold Sm at hs; omega
          clear hs
          go_wp2
          go_ret
          exact ⟨by rw [HS.out]; first | done | rfl, rfl⟩
    · have HS : Hid (zs.all smB = true) := by
        show _ = _
        rw [List.all_eq_true]
        intro x hx
        obtain ⟨j, hj, rfl⟩ := List.getElem_of_mem hx
        have := HA.out j (by rw [← HN.out] at hj; omega)
        rw [List.getD_eq_getElem?_getD, List.getElem?_eq_getElem hj] at this
        exact this
      clear hgk
      go_wp2
      go_ret
      exact ⟨by rw [HS.out]; first | done | rfl, rfl⟩

/-- of five numbers -/
theorem small_five (g : Nat) (z0 z1 z2 z3 z4 : Int) (t : TypeId) (w : World) (h : Blk w g t #[.int .i64 z0, .int .i64 z1, .int .i64 z2, .int .i64 z3, .int .i64 z4]) :
    Calls Try.prog 7 #[.slice (some ⟨g, 0, none⟩) 5 5] w fun e w' => e = .returned (.bool (smB z0 && (smB z1 && (smB z2 && (smB z3 && smB z4))))) ∧ w = w' := by
  have h5 := small_any g 5 [z0, z1, z2, z3, z4] w (fun i hi => by
    match i, hi with
    | 0, _ => exact h.cell 0
    | 1, _ => exact h.cell 1
    | 2, _ => exact h.cell 2
    | 3, _ => exact h.cell 3
    | 4, _ => exact h.cell 4) (by simp)
  simp only [List.all_cons, List.all_nil, Bool.and_true] at h5
  exact h5
end Go.Proofs.Ytdahgmkbpiklpaa
