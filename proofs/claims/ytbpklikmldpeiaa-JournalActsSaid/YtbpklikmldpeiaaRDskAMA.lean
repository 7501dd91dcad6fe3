/-
  The document's disk in memory (soukref05): Empty, New, thing, Write.
-/
import Derived.Test.YtbpklikmldpeiaaMA01
import Derived.Test.YtbpklikmldpeiaaMA02
import Derived.WalkLawsBesides
import Derived.WalkSpells
import Derived.OpenShut
import Derived.Lib.Hide
import Derived.Laws.IdiomStrings
import Derived.Outline
import Derived.Deep.LoopGhost
import Derived.Deep.QuietTactic
import Derived.BigQuiet
import Derived.BigRegion
import Derived.Laws.OwnMore
import Derived.Deep.AppendLies
namespace Go.Proofs.Ytbpklikmldpeiaa
open Go.RowKit Go.Lib

/-- a pending write's cells, there -/
def cR (p : Nat × List UInt8) : List Value := [.int .i64 (p.1 : Nat), .string (st p.2)]
theorem cR_length (p : Nat × List UInt8) : (cR p).length = 2 := rfl

structure RDx (w : World) (B b : Nat) (s : DS) (n : Nat) (vb vp : Value) : Prop where
  ok : s.Ok
  num : n = s.bl.length
  box : Blk w b 44 #[vb, vp, .int .i64 s.fu, .bool s.dead]
  row : w.ownsRow B 9 1 vb n (sv s.bl)
  own : w.ownsRow B 99 2 vp s.pe.length (s.pe.flatMap cR)
  hb : B ≤ b

def fpR (b : Nat) (vb vp : Value) : List Nat := b :: (vb.ownBlock.toList ++ vp.ownBlock.toList)
theorem mem_fpR {b k : Nat} {vb vp : Value} : k ∈ fpR b vb vp ↔ k = b ∨ vb.ownBlock = some k ∨ vp.ownBlock = some k := by
  simp [fpR, Option.mem_toList]

def RD (w : World) (B b : Nat) (s : DS) (fp : List Nat) : Prop := ∃ n vb vp, RDx w B b s n vb vp ∧ fp = fpR b vb vp

theorem RDx.lt {w : World} {B b : Nat} {s : DS} {n : Nat} {vb vp : Value} (h : RDx w B b s n vb vp) : ∀ k ∈ fpR b vb vp, B ≤ k ∧ k < w.heap.size := by
  intro k hk
  rcases mem_fpR.1 hk with rfl | hk | hk
  · exact ⟨h.hb, h.box.lt⟩
  · exact h.row.lt k hk
  · exact h.own.lt k hk
theorem RD.lt {w : World} {B b : Nat} {s : DS} {fp : List Nat} (h : RD w B b s fp) : ∀ k ∈ fp, B ≤ k ∧ k < w.heap.size := by
  obtain ⟨n, vb, vp, h, rfl⟩ := h
  exact h.lt
theorem RD.ok {w : World} {B b : Nat} {s : DS} {fp : List Nat} (h : RD w B b s fp) : s.Ok := by
  obtain ⟨n, vb, vp, h, rfl⟩ := h
  exact h.ok
theorem RD.keep {w w' : World} {B b : Nat} {s : DS} {fp fp2 : List Nat} (h : RD w B b s fp) (hs : Stp fp2 w w') (hn : ∀ k ∈ fp, k ∉ fp2) : RD w' B b s fp := by
  obtain ⟨n, vb, vp, h, rfl⟩ := h
  exact ⟨n, vb, vp, ⟨h.ok, h.num, h.box.stp hs (hn b (mem_fpR.2 (.inl rfl))), own_stp h.row hs (fun k hk => hn k (mem_fpR.2 (.inr (.inl hk)))), own_stp h.own hs (fun k hk => hn k (mem_fpR.2 (.inr (.inr hk)))), h.hb⟩, rfl⟩
theorem RD.since {w w' : World} {B b : Nat} {s : DS} {fp : List Nat} (h : RD w B b s fp) (hb : Below w.heap.size w w') : RD w' B b s fp :=
  h.keep (fp2 := []) (Stp.of_below hb) (fun _ _ hk => by cases hk)

theorem own_le {w : World} {base base' : Nat} {e : TypeId} {size : Nat} {v : Value} {n : Nat} {xs : List Value} (h : w.ownsRow base e size v n xs) (hb : base' ≤ base) : w.ownsRow base' e size v n xs := by
  refine ⟨h.1, ?_⟩
  rcases h.2 with h1 | ⟨g, cap, cur, hv, hbg, hr⟩
  · exact .inl h1
  · exact .inr ⟨g, cap, cur, hv, Nat.le_trans hb hbg, hr⟩

theorem own_blk_of2 {w : World} {base : Nat} {e : TypeId} {size : Nat} {v : Value} {n : Nat} {xs : List Value} (h : w.ownsRow base e size v n xs) {k : Nat} (hk : v.ownBlock = some k) : ∃ cur, Blk w k e cur := by
  rcases h.2 with ⟨h1, _⟩ | ⟨g', cap, cur, hv, _, hg', _⟩
  · rw [h1] at hk; cases hk
  · rw [hv] at hk
    have e : g' = k := by simpa [Value.ownBlock] using hk
    subst e
    exact ⟨cur, hg'⟩
theorem own_slice2 {w : World} {base : Nat} {e : TypeId} {size : Nat} {v : Value} {n : Nat} {xs : List Value} (h : w.ownsRow base e size v n xs) : ∃ a c, v = .slice a n c := by
  rcases h.2 with ⟨h1, h2⟩ | ⟨g', cap, cur, hv, _⟩
  · exact ⟨none, 0, by rw [h1, h2]⟩
  · exact ⟨_, _, hv⟩

/-- a block of another type is none of these -/
theorem own_ne {w : World} {base : Nat} {e t : TypeId} {size : Nat} {v : Value} {n b : Nat} {xs : List Value} {cs : Array Value} (h : w.ownsRow base e size v n xs) (hb : Blk w b t cs) (ht : t ≠ e) : ∀ k, v.ownBlock = some k → k ≠ b := fun k hk => by
  obtain ⟨cur, hcur⟩ := own_blk_of2 h hk
  exact fun e => by subst e; exact hb.ne hcur ht rfl
theorem own_ne_own {w : World} {base base' : Nat} {e e' : TypeId} {size size' : Nat} {v v' : Value} {n n' : Nat} {xs xs' : List Value} (h : w.ownsRow base e size v n xs) (h' : w.ownsRow base' e' size' v' n' xs') (ht : e' ≠ e) : ∀ k, v.ownBlock = some k → ¬ v'.ownBlock = some k := fun k hk hk' => by
  obtain ⟨cur, hcur⟩ := own_blk_of2 h' hk'
  exact own_ne h hcur ht k hk rfl

/-- a step in the box alone -/
theorem RDx.turn {w w' : World} {B b : Nat} {s s' : DS} {n : Nat} {vb vp : Value} (h : RDx w B b s n vb vp) (hg : w.grownBy w' (some b)) (hok : s'.Ok) (hbl : s'.bl = s.bl) (hpe : s'.pe = s.pe)
    (hbox : Blk w' b 44 #[vb, vp, .int .i64 s'.fu, .bool s'.dead]) : RDx w' B b s' n vb vp := by
  refine ⟨hok, by rw [hbl]; exact h.num, hbox, ?_, ?_, h.hb⟩
  · rw [hbl]
    exact own_stp h.row (Stp.of_grown (fp := [b]) hg (by simp)) (fun k hk => by simpa using own_ne h.row h.box (by decide) k hk)
  · rw [hpe]
    exact own_stp h.own (Stp.of_grown (fp := [b]) hg (by simp)) (fun k hk => by simpa using own_ne h.own h.box (by decide) k hk)
theorem RDx.turned {w w' : World} {B b : Nat} {s s' : DS} {n : Nat} {vb vp : Value} (h : RDx w B b s n vb vp) (hg : w.grownBy w' (some b)) (hok : s'.Ok) (hbl : s'.bl = s.bl) (hpe : s'.pe = s.pe)
    (hbox : Blk w' b 44 #[vb, vp, .int .i64 s'.fu, .bool s'.dead]) : After (fpR b vb vp) w w' (RD w' B b s') :=
  ⟨fpR b vb vp, ⟨n, vb, vp, h.turn hg hok hbl hpe hbox, rfl⟩, Stp.of_grown hg (mem_fpR.2 (.inl rfl)), fun _ hk => .inl hk⟩

set_option maxHeartbeats 1000000 in
theorem rEmpty_any (w : World) :
    Calls Try.prog 28 #[] w fun e w' => e = .returned (.string (st z64)) ∧ w = w' := by
  go_enter Try.func28, Try.ntmps28
  go_wp2
  go_loopg [1, 2] 64 (fun gk s i wr => ∃ k : Nat, k ≤ 64 ∧ i = .int .i64 k ∧ s = .string (st (List.replicate k 0)) ∧ 64 - k ≤ gk ∧ Hid (wr = w))
  case atStart => exact ⟨0, by omega, rfl, rfl, by omega, rfl⟩
  case round =>
    obtain ⟨k, hk, rfl, rfl, hgk, HW⟩ := hrel
    have e := HW.out
    subst e
    by_cases hlt : k < 64
    · have h1 : st (List.replicate k 0) ++ (⟨#[0]⟩ : ByteArray) = st (List.replicate (k + 1) 0) := by
        rw [show (⟨#[0]⟩ : ByteArray) = st [0] from rfl, st_append, List.replicate_succ']
      have hs : (st (List.replicate k 0)).size ≤ 64 := by rw [st_size, List.length_replicate]; exact hk
      go_wp2
      go_roundg (64 - (k + 1))
      case measure => omega
      case rel => exact ⟨k + 1, by omega, by go_num, rfl, by omega, rfl⟩
    · have e : k = 64 := by omega
      subst e
      go_wp2
      go_ret
      exact ⟨rfl, rfl⟩

set_option maxHeartbeats 1000000 in
theorem rThing_any (B b : Nat) (s : DS) (fp : List Nat) (w : World) (h : RD w B b s fp) :
    Calls Try.prog 47 #[.pointer (some ⟨b, 0, none⟩)] w fun e w' => e = .returned (.bool s.thing.2) ∧ After fp w w' (RD w' B b s.thing.1) := by
  obtain ⟨n, vb, vp, h, rfl⟩ := h
  have c2 : w.cell? ⟨b, 2, none⟩ = some (.int .i64 s.fu) := h.box.cell 2
  have c3 : w.cell? ⟨b, 3, none⟩ = some (.bool s.dead) := h.box.cell 3
  have f2 := h.box.frozen 2
  have f3 := h.box.frozen 3
  have hfu := h.ok.fu
  have H := Lib.hid h
  obtain ⟨fu, hf⟩ : ∃ fu, fu = s.fu := ⟨_, rfl⟩
  rw [← hf] at c2 hfu
  have HF := Lib.hid hf
  clear h hf
  by_cases h0 : fu < 0
  · have ht : s.thing = (s, true) := by unfold DS.thing; rw [if_pos (by rw [← HF.out]; exact h0)]
    have HT := Lib.hid ht
    have t0 : (fu == 0) = false := by rw [beq_eq_false_iff_ne]; omega
    have t1 : ¬ 0 < fu := by omega
    clear ht
    go_enter Try.func47, Try.ntmps47
    go_wp2
    go_ret
    rw [HT.out]
    exact ⟨rfl, After.of (Stp.refl _ _) ⟨n, vb, vp, H.out, rfl⟩⟩
  · by_cases h1 : fu = 0
    · have ht : s.thing = ({ s with dead := true }, false) := by unfold DS.thing; rw [if_neg (by rw [← HF.out]; exact h0), if_pos (by rw [← HF.out]; exact h1)]
      have HT := Lib.hid ht
      subst h1
      clear ht
      go_enter Try.func47, Try.ntmps47
      go_wp2
      go_ret
      rw [HT.out]
      refine ⟨rfl, H.out.turned (s' := { s with dead := true }) (grownBy_setCell w b 3 _) ⟨H.out.ok.bl, H.out.ok.pe, H.out.ok.fu, H.out.ok.len⟩ rfl rfl ?_⟩
      exact H.out.box.set 3 _
    · have ht : s.thing = ({ s with fu := s.fu - 1 }, true) := by unfold DS.thing; rw [if_neg (by rw [← HF.out]; exact h0), if_neg (by rw [← HF.out]; exact h1)]
      have HT := Lib.hid ht
      have t1 : (fu == 0) = false := by rw [beq_eq_false_iff_ne]; exact h1
      have t2 : 0 < fu := by omega
      clear ht
      go_enter Try.func47, Try.ntmps47
      go_wp2
      go_ret
      rw [HT.out]
      refine ⟨rfl, H.out.turned (s' := { s with fu := s.fu - 1 }) (grownBy_setCell w b 2 _) ⟨H.out.ok.bl, H.out.ok.pe, by rw [← HF.out]; simp only; omega, H.out.ok.len⟩ rfl rfl ?_⟩
      have := H.out.box.set 2 (.int .i64 (fu - 1))
      rw [HF.out] at this ⊢
      exact this
end Go.Proofs.Ytbpklikmldpeiaa
