/-
  Contract of book.mayStand.
-/
import Derived.Test.YteclhcjfnmkkjaaBkG
import Derived.Test.YteclhcjfnmkkjaaMapB
namespace Go.Proofs.Yteclhcjfnmkkjaa
open Go.RowKit Go.Lib

theorem clearing_t {k : List UInt8} (h : k = kClearing) : ((st k).toList == [99, 108, 101, 97, 114, 105, 110, 103]) = true := by rw [st_tl, h]; decide
theorem clearing_f {k : List UInt8} (h : k ≠ kClearing) : ((st k).toList == [99, 108, 101, 97, 114, 105, 110, 103]) = false := by rw [st_tl, beq_eq_false_iff_ne]; exact h
theorem debt_t {k : List UInt8} (h : k = kDebt) : ((st k).toList == [100, 101, 98, 116]) = true := by rw [st_tl, h]; decide
theorem debt_f {k : List UInt8} (h : k ≠ kDebt) : ((st k).toList == [100, 101, 98, 116]) = false := by rw [st_tl, beq_eq_false_iff_ne]; exact h
theorem owes_t {k : List UInt8} (h : k = kClearing ∨ k = kDebt) : owes k = true := decide_eq_true h
theorem owes_f {k : List UInt8} (h1 : k ≠ kClearing) (h2 : k ≠ kDebt) : owes k = false := decide_eq_false (fun h => h.elim h1 h2)
theorem side_owes {k p c : List UInt8} {v : Int} (h : owes k = true) : sideOk ((k, p, c), v) = decide (v ≤ 0) := by unfold sideOk; rw [if_pos h]
theorem side_not {k p c : List UInt8} {v : Int} (h : owes k = false) : sideOk ((k, p, c), v) = decide (0 ≤ v) := by unfold sideOk; rw [if_neg (by rw [h]; decide)]

/-- those that have come are on their side -/
def SideDone (g : Ac → Option Int) (left : Ac → Bool) : Prop := ∀ c v, g c = some v → left c = false → sideOk (c, v) = true
/-- all are -/
def SideAll (g : Ac → Option Int) : Prop := ∀ a v, g a = some v → sideOk (a, v) = true

set_option maxHeartbeats 4000000 in
set_option maxRecDepth 100000 in
theorem may_any (bc n : Nat) (g : Ac → Option Int) (w : World) (hm : MA w bc n g) (sb : Bool) (hsb : sb = true ↔ SideAll g) :
    Calls Try.prog 23 #[.map (some bc)] w fun e w' => e = .returned (.bool sb) ∧ Below w.heap.size w w' := by
  have HM := Lib.hid hm
  have HSB := Lib.hid hsb
  clear hm hsb
  go_enter Try.func23, Try.ntmps23
  go_wp2_with (first | (at_range; refine wpList_rangeF _ KA rfl (.tmp 5) rfl bc n g rfl HM.out ?_; intro w1 cnt hrg hcn hb1; have HRG := Lib.hid hrg; have HB1 := Lib.hid hb1; clear hrg hb1; go_frame) | fail)
  go_loopg [3, 4] cnt (fun gk _ _ w2 => ∃ (left : Ac → Bool) (cn : Nat), cn ≤ gk ∧ Hid (RA w2 bc w.heap.size n g left cn) ∧ Hid (SideDone g left) ∧ Hid (Below w.heap.size w w2))
  case atStart => exact ⟨_, cnt, Nat.le_refl _, HRG.out, (fun c v hg hl => by have h2 : (g c).isSome = false := hl; rw [hg] at h2; cases h2), HB1.out⟩
  case round =>
    clear HRG HB1 HM
    obtain ⟨left, cn, hcg, HRG2, HZ, HB3⟩ := hrel
    go_wp2_with (first | (at_next; refine wpList_nextB _ KA rfl (.tmp 6) rfl bc w.heap.size n g left cn rfl HRG2.out ?_ ?_) | fail)
    · intro hl0
      have HY : Hid (sb = true) := HSB.out.2 (fun a v hg => HZ.out a v hg (hl0.out a))
      clear hl0
      go_wp2
      go_ret
      exact ⟨by rw [HY.out]; rfl, HB3.out⟩
    · intro xb v w3 cn2 came hlt3 hen
      obtain ⟨x⟩ := xb
      have hgc := came.val
      have HRG3 : Hid (RA w3 bc w.heap.size n g (fun d => left d && !decide (d = x)) cn2) := came.rng
      have HB4 : Hid (Below w.heap.size w w3) := HB3.out.trans (came.stp.below (by intro q hq; rw [List.mem_singleton] at hq; rw [hq]; exact Nat.le_refl _) HB3.out.size)
      have HB5 : Hid (∀ o : Obj, Below w.heap.size w (w3.alloc o)) := fun o => HB4.out.alloc HB4.out.size o
      have HG := Lib.hid hgc
      have HN : Hid (sideOk (x, v) = true → SideDone g (fun d => left d && !decide (d = x))) := fun hok d u hd hl => by
        by_cases e : d = x
        · rw [e, HG.out] at hd; injection hd with hd; rw [e, ← hd]; exact hok
        · simp only [e, decide_false, Bool.not_false, Bool.and_true] at hl
          exact HZ.out d u hd hl
      have HF : Hid (sideOk (x, v) = false → sb = false) := fun hno => by
        cases hsb : sb with
        | false => rfl
        | true => have := HSB.out.1 hsb x v HG.out; rw [hno] at this; cases this
      obtain ⟨k, p, c⟩ := x
      unfold kv at hen
      clear came hgc HRG2 HZ HB3 HSB
      by_cases h1 : k = kClearing
      · have t1 := clearing_t h1
        have ho := side_owes (p := p) (c := c) (v := v) (owes_t (Or.inl h1))
        clear h1
        by_cases hv : 0 < v
        · have HX : Hid (sb = false) := HF.out (by rw [ho]; exact decide_eq_false (by omega))
          go_wp2
          go_ret
          exact ⟨by rw [HX.out]; rfl, HB5.out _⟩
        · have HX := Lib.hid (HN.out (by rw [ho]; exact decide_eq_true (by omega)))
          go_wp2
          go_roundg cn2
          case measure => omega
          case rel => exact ⟨_, cn2, Nat.le_refl _, HRG3.out.alloc _, HX.out, HB5.out _⟩
      · have t1 := clearing_f h1
        by_cases h2 : k = kDebt
        · have t2 := debt_t h2
          have ho := side_owes (p := p) (c := c) (v := v) (owes_t (Or.inr h2))
          clear h1 h2
          by_cases hv : 0 < v
          · have HX : Hid (sb = false) := HF.out (by rw [ho]; exact decide_eq_false (by omega))
            go_wp2
            go_ret
            exact ⟨by rw [HX.out]; rfl, HB5.out _⟩
          · have HX := Lib.hid (HN.out (by rw [ho]; exact decide_eq_true (by omega)))
            go_wp2
            go_roundg cn2
            case measure => omega
            case rel => exact ⟨_, cn2, Nat.le_refl _, HRG3.out.alloc _, HX.out, HB5.out _⟩
        · have t2 := debt_f h2
          have ho := side_not (p := p) (c := c) (v := v) (owes_f h1 h2)
          clear h1 h2
          by_cases hv : v < 0
          · have HX : Hid (sb = false) := HF.out (by rw [ho]; exact decide_eq_false (by omega))
            go_wp2
            go_ret
            exact ⟨by rw [HX.out]; rfl, HB5.out _⟩
          · have HX := Lib.hid (HN.out (by rw [ho]; exact decide_eq_true (by omega)))
            go_wp2
            go_roundg cn2
            case measure => omega
            case rel => exact ⟨_, cn2, Nat.le_refl _, HRG3.out.alloc _, HX.out, HB5.out _⟩
end Go.Proofs.Yteclhcjfnmkkjaa
