/-
  Contract of the document's Split where something is wrong; what is known of its two rows while they grow.
-/
import Derived.Test.YtkflakeocdlinaaGreatDoorMP05
import Derived.Test.YtkflakeocdlinaaGreatDoorWideGMP
namespace Go.Proofs.YtkflakeocdlinaaGreatDoor
open Go.RowKit

theorem infoWide : (Tryz.prog.info? 123).map (fun i => (i.zero, i.size, i.bytes)) = some (some (.slice none 0 0), 1, 24) := by kernel_rfl

section
variable {P : Program} {ops : Array Oper} {rest : List Oper} {o : Oper} {a : Act} {Q : Exit → Act → World → Prop}
/-- append of one element; where the row lies then -/
theorem wpList_append_lone (hgd : o.guard = none) (s x : Operand) (t : TypeId)
    (ho : o.op = .call { callee := .builtin .append, args := #[s, x], argTypes := #[t, t] })
    (base : Nat) (e : TypeId) (z : Value) (bytes : Nat) (ht : P.underlying t = some (.slice e)) (hinfo : (P.info? e).map (fun i => (i.zero, i.size, i.bytes)) = some (some z, 1, bytes)) (hz1 : z.cells.size = 1)
    (W : World) (u : Value) (hu : u.oneCell' = true) (v : Value) (n : Nat) (xs : List Value) (hs : a.eval s = v) (hx : a.eval x = .slice (some ⟨W.heap.size, 0, none⟩) 1 1)
    (hown : W.ownsRow base e 1 v n xs) (hb : base ≤ W.heap.size) (h63 : n + 1 ≤ maxLen) (hbytes : (n + 1) * bytes ≤ 140737488355328)
    (h : ∀ g cap w', w'.ownsRow base e 1 (.slice (some ⟨g, 0, none⟩) (n + 1) cap) (n + 1) (xs ++ [u]) → W.grownBy w' v.ownBlock → (v.ownBlock = some g ∨ W.heap.size < g) → wpList P ops Q rest (a.put o.dst (.slice (some ⟨g, 0, none⟩) (n + 1) cap)) w') : wpList P ops Q (o :: rest) a (W.alloc (.cells #[u] e)) := by
  obtain ⟨i, hi, hzz⟩ := Option.map_eq_some_iff.1 hinfo
  simp only [Prod.mk.injEq] at hzz
  obtain ⟨hz, hs1, hb1⟩ := hzz
  refine wpList_append_lies _ hgd s x t ho base e i z 1 bytes ht hi hz hs1 hb1 hz1 (by decide) v n xs hs (hown.alloc _) ⟨W.heap.size, 0, none⟩ 1 1 [u] hx rfl (cell_one_new _ _ _) (fun u' hu' => ?_) (by decide) h63 hbytes (by simp; omega) (W.heap.size + 1) (by simp) ?_
  · rw [List.mem_singleton] at hu'; rw [hu']; exact hu
  · intro g cap w' k1 k2 k3 _
    have hg0 := World.grownBy_alloc W (.cells #[u] e) v.ownBlock
    refine h g cap w' k1 ⟨k2.os.trans hg0.os, k2.tape.trans hg0.tape, k2.output.trans hg0.output, Nat.le_trans hg0.size k2.size, fun k hk hne => (k2.block k (Nat.lt_of_lt_of_le hk hg0.size) hne).trans (hg0.block k hk hne)⟩ (k3.imp id (by omega))
end

set_option maxHeartbeats 800000 in
theorem rsplit_neg (T : Int) (a : Option Addr) (c : Nat) (ws : List Int) (w : World) (hr : RowI .i64 w a ws) (hl : ws.length ≤ maxLen) (hA : anyNeg ws = true) :
    Calls Tryz.prog 59 #[.int .i64 T, .slice a ws.length c] w (SplitErr T ws w) := by
  have e1 : splitErr T ws = 1 := if_pos (.inr hA)
  have hp : 0 < ws.length := by
    rcases Nat.eq_zero_or_pos ws.length with h0 | h0
    · rw [List.eq_nil_of_length_eq_zero h0] at hA; cases hA
    · exact h0
  obtain ⟨b, off, rfl, hc⟩ := hr hp
  have HE := Lib.hid e1
  have HC := Lib.hid hc
  have HA := Lib.hid hA
  obtain ⟨n, hn⟩ : ∃ n, n = ws.length := ⟨_, rfl⟩
  have HN := Lib.hid hn
  unfold maxLen at hl
  rw [← hn] at hl hp ⊢
  clear e1 hc hA hr hn
  go_enter Tryz.func59, Tryz.ntmps59
  go_wp2
  go_loop [6] (fun i => ∃ k : Nat, k ≤ n ∧ i = .int .i64 k ∧ Hid (∀ j, j < k → 0 ≤ ws.getD j 0)) (fun i => n - (intOf i).toNat)
  case atStart => exact ⟨0, Nat.zero_le _, rfl, fun j h => by omega⟩
  case round =>
    obtain ⟨k, hk, rfl, HK⟩ := hrel
    by_cases hlt : k < n
    · have hcell := HC.out k (by have := HN.out; omega)
      obtain ⟨z, hz⟩ : ∃ z, z = ws.getD k 0 := ⟨_, rfl⟩
      rw [← hz] at hcell
      have HZ := Lib.hid hz
      clear hz
      by_cases h0 : z < 0
      · go_wp2
        go_ret2
        exact ⟨by rw [HE.out]; rfl, by rw [HE.out]; decide, rfl⟩
      · go_wp2
        go_round
        case rel => exact ⟨k + 1, by omega, by go_num, fun j hj => by
          by_cases e : j = k
          · rw [e, ← HZ.out]; omega
          · exact HK.out j (by omega)⟩
        case measure => simp [intOf]; omega
    · exfalso
      have := anyNeg_none (zs := ws) (fun j hj => HK.out j (by have := HN.out; omega))
      rw [HA.out] at this
      cases this
end Go.Proofs.YtkflakeocdlinaaGreatDoor
