/-
  Contract of the document's Known, of a list of one; the law's example.
-/
import Derived.Test.YtjegfoeempojiaaDoorPlnI
import Derived.Test.YtjegfoeempojiaaDoorPlnD
namespace Go.Proofs.YtjegfoeempojiaaDoor
open Go.RowKit Go.Maps

theorem RowK.new (w : World) (t : TypeId) (ls : List Rl) (cs : Array Value) (h : cs.toList = ls.flatMap cR) : RowK cR (w.alloc (.cells cs t)) (some ⟨w.heap.size, 0, none⟩) ls := by
  intro _
  refine ⟨_, _, rfl, fun i x hx j u hu => ?_⟩
  have hf := flat_get4 cR_len ls i j x u hx hu
  rw [Nat.zero_add, (Blk.new w t cs).cell, ← Array.getElem?_toList, h]
  exact hf

set_option maxHeartbeats 4000000 in
set_option maxRecDepth 100000 in
theorem rknown_any (g : Nat) (r : Rl) (w : World) (hb : Blk w g 24 #[.string (st r.1), .string (st r.2.1), .int .i64 r.2.2.1, .int .i64 r.2.2.2]) :
    Calls Tryd.prog 6 #[.slice (some ⟨g, 0, none⟩) 1 1] w fun e w' => e = .returned (.bool (formL r.1).isSome) ∧ Below w.heap.size w w' := by
  have c0 := hb.cell 0
  have q1 := lit_eq r.1 [116, 105, 101, 114]
  have q2 := lit_eq r.1 [99, 97, 116, 101, 103, 111, 114, 121]
  have q3 := lit_eq r.1 [99, 97, 112]
  have q4 := lit_eq r.1 [109, 105, 110, 105, 109, 117, 109]
  have q5 := lit_eq r.1 [116, 97, 120]
  have q6 := lit_eq r.1 [114, 101, 115, 101, 114, 118, 101]
  obtain ⟨kb, hkb⟩ : ∃ kb, kb = (formL r.1).isSome := ⟨_, rfl⟩
  have HKB := Lib.hid hkb
  rw [← hkb]
  clear hkb hb
  go_enter Tryd.func6, Tryd.ntmps6
  go_wp2
  go_loopg [3] 1 (fun gk iv wr => wr = w ∧ ∃ k : Nat, k ≤ 1 ∧ iv = .int .i64 k ∧ 1 - k ≤ gk ∧ Hid (k = 1 → kb = true))
  case atStart => exact ⟨rfl, 0, Nat.zero_le _, rfl, by omega, fun h => by omega⟩
  case round =>
    obtain ⟨rfl, k, hk, rfl, hgk, HK⟩ := hrel
    by_cases hk1 : k = 1
    · subst hk1
      have HKT : Hid (kb = true) := HK.out rfl
      clear HK
      go_wp2
      go_ret
      exact ⟨by rw [HKT.out]; rfl, Below.refl _ _⟩
    · have hk0 : k = 0 := by omega
      subst hk0
      clear HK hk1
      rcases formL_six r.1 with ⟨e, h⟩ | ⟨e, h⟩ | ⟨e, h⟩ | ⟨e, h⟩ | ⟨e, h⟩ | ⟨e, h⟩ | ⟨h, g1, g2, g3, g4, g5, g6⟩
      · have HT : Hid (kb = true) := by show _ = _; rw [HKB.out, h]; rfl
        have p1 : ((st r.1).toList == [116, 105, 101, 114]) = true := by rw [q1, e]; decide
        have p2 : ((st r.1).toList == [99, 97, 116, 101, 103, 111, 114, 121]) = false := by rw [q2, e]; decide
        have p3 : ((st r.1).toList == [99, 97, 112]) = false := by rw [q3, e]; decide
        have p4 : ((st r.1).toList == [109, 105, 110, 105, 109, 117, 109]) = false := by rw [q4, e]; decide
        have p5 : ((st r.1).toList == [116, 97, 120]) = false := by rw [q5, e]; decide
        have p6 : ((st r.1).toList == [114, 101, 115, 101, 114, 118, 101]) = false := by rw [q6, e]; decide
        clear q1 q2 q3 q4 q5 q6 h e
        go_wp2
        go_roundg 0
        case measure => omega
        case rel => exact ⟨rfl, 1, Nat.le_refl _, by go_num, Nat.le_refl _, fun _ => HT.out⟩
      · have HT : Hid (kb = true) := by show _ = _; rw [HKB.out, h]; rfl
        have p1 : ((st r.1).toList == [116, 105, 101, 114]) = false := by rw [q1, e]; decide
        have p2 : ((st r.1).toList == [99, 97, 116, 101, 103, 111, 114, 121]) = true := by rw [q2, e]; decide
        have p3 : ((st r.1).toList == [99, 97, 112]) = false := by rw [q3, e]; decide
        have p4 : ((st r.1).toList == [109, 105, 110, 105, 109, 117, 109]) = false := by rw [q4, e]; decide
        have p5 : ((st r.1).toList == [116, 97, 120]) = false := by rw [q5, e]; decide
        have p6 : ((st r.1).toList == [114, 101, 115, 101, 114, 118, 101]) = false := by rw [q6, e]; decide
        clear q1 q2 q3 q4 q5 q6 h e
        go_wp2
        go_roundg 0
        case measure => omega
        case rel => exact ⟨rfl, 1, Nat.le_refl _, by go_num, Nat.le_refl _, fun _ => HT.out⟩
      · have HT : Hid (kb = true) := by show _ = _; rw [HKB.out, h]; rfl
        have p1 : ((st r.1).toList == [116, 105, 101, 114]) = false := by rw [q1, e]; decide
        have p2 : ((st r.1).toList == [99, 97, 116, 101, 103, 111, 114, 121]) = false := by rw [q2, e]; decide
        have p3 : ((st r.1).toList == [99, 97, 112]) = true := by rw [q3, e]; decide
        have p4 : ((st r.1).toList == [109, 105, 110, 105, 109, 117, 109]) = false := by rw [q4, e]; decide
        have p5 : ((st r.1).toList == [116, 97, 120]) = false := by rw [q5, e]; decide
        have p6 : ((st r.1).toList == [114, 101, 115, 101, 114, 118, 101]) = false := by rw [q6, e]; decide
        clear q1 q2 q3 q4 q5 q6 h e
        go_wp2
        go_roundg 0
        case measure => omega
        case rel => exact ⟨rfl, 1, Nat.le_refl _, by go_num, Nat.le_refl _, fun _ => HT.out⟩
      · have HT : Hid (kb = true) := by show _ = _; rw [HKB.out, h]; rfl
        have p1 : ((st r.1).toList == [116, 105, 101, 114]) = false := by rw [q1, e]; decide
        have p2 : ((st r.1).toList == [99, 97, 116, 101, 103, 111, 114, 121]) = false := by rw [q2, e]; decide
        have p3 : ((st r.1).toList == [99, 97, 112]) = false := by rw [q3, e]; decide
        have p4 : ((st r.1).toList == [109, 105, 110, 105, 109, 117, 109]) = true := by rw [q4, e]; decide
        have p5 : ((st r.1).toList == [116, 97, 120]) = false := by rw [q5, e]; decide
        have p6 : ((st r.1).toList == [114, 101, 115, 101, 114, 118, 101]) = false := by rw [q6, e]; decide
        clear q1 q2 q3 q4 q5 q6 h e
        go_wp2
        go_roundg 0
        case measure => omega
        case rel => exact ⟨rfl, 1, Nat.le_refl _, by go_num, Nat.le_refl _, fun _ => HT.out⟩
      · have HT : Hid (kb = true) := by show _ = _; rw [HKB.out, h]; rfl
        have p1 : ((st r.1).toList == [116, 105, 101, 114]) = false := by rw [q1, e]; decide
        have p2 : ((st r.1).toList == [99, 97, 116, 101, 103, 111, 114, 121]) = false := by rw [q2, e]; decide
        have p3 : ((st r.1).toList == [99, 97, 112]) = false := by rw [q3, e]; decide
        have p4 : ((st r.1).toList == [109, 105, 110, 105, 109, 117, 109]) = false := by rw [q4, e]; decide
        have p5 : ((st r.1).toList == [116, 97, 120]) = true := by rw [q5, e]; decide
        have p6 : ((st r.1).toList == [114, 101, 115, 101, 114, 118, 101]) = false := by rw [q6, e]; decide
        clear q1 q2 q3 q4 q5 q6 h e
        go_wp2
        go_roundg 0
        case measure => omega
        case rel => exact ⟨rfl, 1, Nat.le_refl _, by go_num, Nat.le_refl _, fun _ => HT.out⟩
      · have HT : Hid (kb = true) := by show _ = _; rw [HKB.out, h]; rfl
        have p1 : ((st r.1).toList == [116, 105, 101, 114]) = false := by rw [q1, e]; decide
        have p2 : ((st r.1).toList == [99, 97, 116, 101, 103, 111, 114, 121]) = false := by rw [q2, e]; decide
        have p3 : ((st r.1).toList == [99, 97, 112]) = false := by rw [q3, e]; decide
        have p4 : ((st r.1).toList == [109, 105, 110, 105, 109, 117, 109]) = false := by rw [q4, e]; decide
        have p5 : ((st r.1).toList == [116, 97, 120]) = false := by rw [q5, e]; decide
        have p6 : ((st r.1).toList == [114, 101, 115, 101, 114, 118, 101]) = true := by rw [q6, e]; decide
        clear q1 q2 q3 q4 q5 q6 h e
        go_wp2
        go_roundg 0
        case measure => omega
        case rel => exact ⟨rfl, 1, Nat.le_refl _, by go_num, Nat.le_refl _, fun _ => HT.out⟩
      · have HT : Hid (kb = false) := by show _ = _; rw [HKB.out, h]; rfl
        have p1 : ((st r.1).toList == [116, 105, 101, 114]) = false := by rw [q1]; exact decide_eq_false g1
        have p2 : ((st r.1).toList == [99, 97, 116, 101, 103, 111, 114, 121]) = false := by rw [q2]; exact decide_eq_false g2
        have p3 : ((st r.1).toList == [99, 97, 112]) = false := by rw [q3]; exact decide_eq_false g3
        have p4 : ((st r.1).toList == [109, 105, 110, 105, 109, 117, 109]) = false := by rw [q4]; exact decide_eq_false g4
        have p5 : ((st r.1).toList == [116, 97, 120]) = false := by rw [q5]; exact decide_eq_false g5
        have p6 : ((st r.1).toList == [114, 101, 115, 101, 114, 118, 101]) = false := by rw [q6]; exact decide_eq_false g6
        clear q1 q2 q3 q4 q5 q6 h g1 g2 g3 g4 g5 g6
        go_wp2
        go_ret
        exact ⟨by rw [HT.out]; rfl, Below.refl _ _⟩

/-- the chapter's example -/
def liveT : List UInt8 := [116, 105, 101, 114, 32, 48, 32, 50, 46, 57, 37, 59, 32, 99, 97, 112, 32, 53, 48, 48, 59]
def liveR : List Rl := [(kTier, [], 0, 290), (kCap, [], 500, 0)]
theorem live_prs : (match prL liveT with | .ok l => decide (l = liveR) | .error _ => false) = true := by kernel_rfl
theorem live_ok : prL liveT = .ok liveR := by
  have h := live_prs
  cases hp : prL liveT with
  | error e => rw [hp] at h; cases h
  | ok l => rw [hp] at h; rw [of_decide_eq_true h]

set_option maxHeartbeats 4000000 in
set_option maxRecDepth 100000 in
theorem lives_any (w : World) : Calls Tryd.prog 4 #[] w fun e w' => e = .returned (.bool true) ∧ Below w.heap.size w w' := by
  have HP : ∀ W, Hid (Calls Tryd.prog 9 #[.string ⟨#[116, 105, 101, 114, 32, 48, 32, 50, 46, 57, 37, 59, 32, 99, 97, 112, 32, 53, 48, 48, 59]⟩] W fun e w' => ∃ a2 c2, e = .returned (.tuple #[.slice a2 2 c2, .int .i64 0, .int .i64 0]) ∧ RowK cR w' a2 liveR ∧ Below W.heap.size W w') := fun W => by
    refine (parse_any liveT W (by decide)).mono ?_
    rintro e w' ⟨h, hb⟩
    rw [live_ok] at h
    obtain ⟨v, he, ho⟩ := h
    obtain ⟨a2, c2, hv, hrk, _⟩ := RowK.own cR_len ho rfl
    exact ⟨a2, c2, by rw [he, hv]; rfl, hrk, hb⟩
  have HE : ∀ a2 c2 W, RowK cR W a2 liveR → Hid (Calls Tryd.prog 10 #[.slice a2 2 c2, .slice (some ⟨W.heap.size, 0, none⟩) 2 2] (W.alloc (.cells #[.string ⟨#[116, 105, 101, 114]⟩, .string ⟨#[]⟩, .int .i64 0, .int .i64 290, .string ⟨#[99, 97, 112]⟩, .string ⟨#[]⟩, .int .i64 500, .int .i64 0] 24)) fun e w' => e = .returned (.bool true) ∧ Below (W.alloc (.cells #[.string ⟨#[116, 105, 101, 114]⟩, .string ⟨#[]⟩, .int .i64 0, .int .i64 290, .string ⟨#[99, 97, 112]⟩, .string ⟨#[]⟩, .int .i64 500, .int .i64 0] 24)).heap.size (W.alloc (.cells #[.string ⟨#[116, 105, 101, 114]⟩, .string ⟨#[]⟩, .int .i64 0, .int .i64 290, .string ⟨#[99, 97, 112]⟩, .string ⟨#[]⟩, .int .i64 500, .int .i64 0] 24)) w') := fun a2 c2 W h => by
    have := equalRule_any a2 (some ⟨W.heap.size, 0, none⟩) c2 2 liveR liveR _ (h.alloc (.cells #[.string ⟨#[116, 105, 101, 114]⟩, .string ⟨#[]⟩, .int .i64 0, .int .i64 290, .string ⟨#[99, 97, 112]⟩, .string ⟨#[]⟩, .int .i64 500, .int .i64 0] 24)) (RowK.new W _ liveR _ rfl) (by decide) (by decide)
    rw [decide_eq_true rfl] at this
    exact this
  go_enter Tryd.func4, Tryd.ntmps4
  go_wp2_with (first
    | (go_at_call 9; (refine (HP _).out.mono ?_); rintro e w1 ⟨a2, c2, rfl, hr, hb⟩; have HR := Lib.hid hr; have HB := Lib.hid hb; clear hr hb)
    | (go_at_call 10; (refine (HE _ _ _ HR.out).out.mono ?_); rintro e w2 ⟨rfl, hb⟩; have HB2 := Lib.hid hb; clear hb)
    | fail)
  go_ret
  exact ⟨rfl, bel_on (HB.out.alloc HB.out.size _) (Nat.le_trans HB.out.size (by simp)) HB2.out⟩
end Go.Proofs.YtjegfoeempojiaaDoor
