/-
  The program's disk in memory; refusal, thing, Fail, Dead, Len.
-/
import Derived.Test.YtbpklikmldpeiaaProg
import Derived.Test.YtbpklikmldpeiaaMA01
import Derived.WalkKit
import Derived.WalkLawsBesides
import Derived.WalkSpells
import Derived.OpenShut
import Derived.Lib.Hide
import Derived.Laws.IdiomStrings
import Derived.Outline
import Derived.Deep.LoopGhost
import Derived.Deep.QuietTactic
import Derived.BigQuiet
import Derived.BigRegion
import Derived.RegionTactic
import Derived.Laws.OwnMore
import Derived.Deep.MidRow
import Derived.Deep.WholeRow
import Derived.Laws.CopyOwn
import Derived.Lib.BufferWrite
namespace Go.Proofs.Ytbpklikmldpeiaa
open Go.RowKit Go.Lib

/-- a block's cells: its bytes, and its last pending write -/
def cB (x : List UInt8 × Nat) : List Value := bv x.1 ++ [.int .i64 (x.2 : Nat)]
/-- a pending write's cells -/
def cW (p : Nat × List UInt8) : List Value := .int .i64 (p.1 : Nat) :: bv p.2

theorem cB_length {x : List UInt8 × Nat} (h : x.1.length = 64) : (cB x).length = 65 := by simp [cB, bv_length, h]
theorem cW_length {p : Nat × List UInt8} (h : p.2.length = 64) : (cW p).length = 65 := by simp [cW, bv_length, h]

/-- the program's disk, in its parts -/
structure PDx (w : World) (B b : Nat) (s : DS) (g n : Nat) (v : Value) (fz : Int) (bs : List (List UInt8 × Nat)) : Prop where
  ok : s.Ok
  map : bs.map Prod.fst = s.bl
  last : ∀ k x, bs[k]? = some x → x.2 = lastOf s.pe k
  num : n = s.bl.length
  box : Blk w b 64 #[.slice (some ⟨g, 0, none⟩) n n, v, .bool (decide (0 ≤ s.fu)), .int .i64 fz, .bool s.dead]
  fz : 0 ≤ s.fu → fz = s.fu
  row : Blk w g 80 (bs.flatMap cB).toArray
  own : w.ownsRow B 84 65 v s.pe.length (s.pe.flatMap cW)
  hb : B ≤ b
  hg : B ≤ g

def fpP (b g : Nat) (v : Value) : List Nat := b :: g :: v.ownBlock.toList

def PD (w : World) (B b : Nat) (s : DS) (fp : List Nat) : Prop := ∃ g n v fz bs, PDx w B b s g n v fz bs ∧ fp = fpP b g v

theorem mem_fpP {b g k : Nat} {v : Value} : k ∈ fpP b g v ↔ k = b ∨ k = g ∨ v.ownBlock = some k := by
  simp [fpP, Option.mem_toList]

theorem PDx.lt {w : World} {B b : Nat} {s : DS} {g n : Nat} {v : Value} {fz : Int} {bs : List (List UInt8 × Nat)} (h : PDx w B b s g n v fz bs) : ∀ k ∈ fpP b g v, B ≤ k ∧ k < w.heap.size := by
  intro k hk
  rcases mem_fpP.1 hk with rfl | rfl | hk
  · exact ⟨h.hb, h.box.lt⟩
  · exact ⟨h.hg, h.row.lt⟩
  · exact h.own.lt k hk
theorem PD.lt {w : World} {B b : Nat} {s : DS} {fp : List Nat} (h : PD w B b s fp) : ∀ k ∈ fp, B ≤ k ∧ k < w.heap.size := by
  obtain ⟨g, n, v, fz, bs, h, rfl⟩ := h
  exact h.lt
theorem PD.ok {w : World} {B b : Nat} {s : DS} {fp : List Nat} (h : PD w B b s fp) : s.Ok := by
  obtain ⟨g, n, v, fz, bs, h, rfl⟩ := h
  exact h.ok
theorem PD.keep {w w' : World} {B b : Nat} {s : DS} {fp fp2 : List Nat} (h : PD w B b s fp) (hs : Stp fp2 w w') (hn : ∀ k ∈ fp, k ∉ fp2) : PD w' B b s fp := by
  obtain ⟨g, n, v, fz, bs, h, rfl⟩ := h
  exact ⟨g, n, v, fz, bs, ⟨h.ok, h.map, h.last, h.num, h.box.stp hs (hn b (mem_fpP.2 (.inl rfl))), h.fz, h.row.stp hs (hn g (mem_fpP.2 (.inr (.inl rfl)))), own_stp h.own hs (fun k hk => hn k (mem_fpP.2 (.inr (.inr hk)))), h.hb, h.hg⟩, rfl⟩
theorem PD.since {w w' : World} {B b : Nat} {s : DS} {fp : List Nat} (h : PD w B b s fp) (hb : Below w.heap.size w w') : PD w' B b s fp :=
  h.keep (fp2 := []) (Stp.of_below hb) (fun _ _ hk => by cases hk)
theorem PDx.blen {w : World} {B b : Nat} {s : DS} {g n : Nat} {v : Value} {fz : Int} {bs : List (List UInt8 × Nat)} (h : PDx w B b s g n v fz bs) : bs.length = n := by
  rw [h.num, ← h.map, List.length_map]
theorem PDx.own_form {w : World} {B b : Nat} {s : DS} {g n : Nat} {v : Value} {fz : Int} {bs : List (List UInt8 × Nat)} (h : PDx w B b s g n v fz bs) : ∃ a c, v = .slice a s.pe.length c := by
  rcases h.own.2 with ⟨h1, h2⟩ | ⟨g', cap, cur, hv, _⟩
  · exact ⟨none, 0, by rw [h1, h2]⟩
  · exact ⟨_, _, hv⟩

theorem refusal_nil (k : Int) (w : World) :
    Calls Try.prog 45 #[.pointer none, .int .i64 k] w fun e w' => e = .returned (.int .i64 1) ∧ w = w' := by
  go_enter Try.func45, Try.ntmps45
  go_wp2
  go_ret
  exact ⟨rfl, rfl⟩

set_option maxHeartbeats 1000000 in
theorem refusal_any (B b : Nat) (s : DS) (fp : List Nat) (k : Int) (w : World) (h : PD w B b s fp) :
    Calls Try.prog 45 #[.pointer (some ⟨b, 0, none⟩), .int .i64 k] w fun e w' => e = .returned (.int .i64 (s.refusal k)) ∧ w = w' := by
  obtain ⟨g, n, v, fz, bs, h, rfl⟩ := h
  have c0 : w.cell? ⟨b, 0, none⟩ = some (.slice (some ⟨g, 0, none⟩) n n) := h.box.cell 0
  have c4 : w.cell? ⟨b, 4, none⟩ = some (.bool s.dead) := h.box.cell 4
  have HN := Lib.hid h.num
  have hl := h.ok.len
  rw [← HN.out] at hl
  obtain ⟨dd, hdd⟩ : ∃ dd, dd = s.dead := ⟨_, rfl⟩
  rw [← hdd] at c4
  have HD := Lib.hid hdd
  clear h hdd
  cases dd with
  | true =>
    go_enter Try.func45, Try.ntmps45
    go_wp2
    go_ret
    exact ⟨by rw [DS.refusal, if_pos HD.out.symm]; rfl, rfl⟩
  | false =>
    by_cases h0 : k < 0
    · go_enter Try.func45, Try.ntmps45
      go_wp2
      go_ret
      exact ⟨by rw [DS.refusal, if_neg (by rw [← HD.out]; decide), if_pos (.inl h0)]; rfl, rfl⟩
    · by_cases h1 : (n : Int) ≤ k
      · go_enter Try.func45, Try.ntmps45
        go_wp2
        go_ret
        exact ⟨by rw [DS.refusal, if_neg (by rw [← HD.out]; decide), if_pos (.inr (by rw [← HN.out]; exact h1))]; rfl, rfl⟩
      · go_enter Try.func45, Try.ntmps45
        go_wp2
        go_ret
        exact ⟨by rw [DS.refusal, if_neg (by rw [← HD.out]; decide), if_neg (by rw [← HN.out]; omega)]; rfl, rfl⟩

/-- a disk whose fuse and life alone have changed -/
theorem PDx.turn {w w' : World} {B b : Nat} {s s' : DS} {g n : Nat} {v : Value} {fz fz' : Int} {bs : List (List UInt8 × Nat)} (h : PDx w B b s g n v fz bs) (hg : w.grownBy w' (some b)) (hok : s'.Ok) (hbl : s'.bl = s.bl) (hpe : s'.pe = s.pe)
    (hbox : Blk w' b 64 #[.slice (some ⟨g, 0, none⟩) n n, v, .bool (decide (0 ≤ s'.fu)), .int .i64 fz', .bool s'.dead]) (hfz : 0 ≤ s'.fu → fz' = s'.fu) : PDx w' B b s' g n v fz' bs := by
  have hne : b ≠ g := h.box.ne h.row (by decide)
  refine ⟨hok, by rw [hbl]; exact h.map, by rw [hpe]; exact h.last, by rw [hbl]; exact h.num, hbox, hfz, h.row.kept hg (fun e => hne (by injection e with e; exact e.symm)), ?_, h.hb, h.hg⟩
  rw [hpe]
  refine h.own.kept hg ?_
  rcases h.own.2 with ⟨h1, _⟩ | ⟨g', cap, cur, hv, _, hg', _⟩
  · left; rw [h1]; rfl
  · right
    rw [hv]
    intro e
    have e : g' = b := by simpa [Value.ownBlock] using e
    subst e
    exact absurd rfl (h.box.ne (show Blk w g' 84 cur from hg') (by decide))

theorem PDx.turned {w w' : World} {B b : Nat} {s s' : DS} {g n : Nat} {v : Value} {fz fz' : Int} {bs : List (List UInt8 × Nat)} (h : PDx w B b s g n v fz bs) (hg : w.grownBy w' (some b)) (hok : s'.Ok) (hbl : s'.bl = s.bl) (hpe : s'.pe = s.pe)
    (hbox : Blk w' b 64 #[.slice (some ⟨g, 0, none⟩) n n, v, .bool (decide (0 ≤ s'.fu)), .int .i64 fz', .bool s'.dead]) (hfz : 0 ≤ s'.fu → fz' = s'.fu) : After (fpP b g v) w w' (PD w' B b s') :=
  ⟨fpP b g v, ⟨g, n, v, fz', bs, h.turn hg hok hbl hpe hbox hfz, rfl⟩, Stp.of_grown hg (mem_fpP.2 (.inl rfl)), fun _ hk => .inl hk⟩

set_option maxHeartbeats 1000000 in
theorem thing_any (B b : Nat) (s : DS) (fp : List Nat) (w : World) (h : PD w B b s fp) :
    Calls Try.prog 46 #[.pointer (some ⟨b, 0, none⟩)] w fun e w' => e = .returned (.int .i64 (bit7 s.thing.2)) ∧ After fp w w' (PD w' B b s.thing.1) := by
  obtain ⟨g, n, v, fz, bs, h, rfl⟩ := h
  have c2 : w.cell? ⟨b, 2, none⟩ = some (.bool (decide (0 ≤ s.fu))) := h.box.cell 2
  have c3 : w.cell? ⟨b, 3, none⟩ = some (.int .i64 fz) := h.box.cell 3
  have c4 : w.cell? ⟨b, 4, none⟩ = some (.bool s.dead) := h.box.cell 4
  have f3 := h.box.frozen 3
  have f4 := h.box.frozen 4
  have hfu := h.ok.fu
  have hfz := h.fz
  have H := Lib.hid h
  obtain ⟨fu, hf⟩ : ∃ fu, fu = s.fu := ⟨_, rfl⟩
  rw [← hf] at c2 hfu hfz
  have HF := Lib.hid hf
  clear h hf
  by_cases h0 : fu < 0
  · have hd : decide (0 ≤ fu) = false := decide_eq_false (by omega)
    rw [hd] at c2
    have ht : s.thing = (s, true) := by unfold DS.thing; rw [if_pos (by rw [← HF.out]; exact h0)]
    have HT := Lib.hid ht
    clear ht hfz
    go_enter Try.func46, Try.ntmps46
    go_wp2
    go_ret
    rw [HT.out]
    exact ⟨rfl, fpP b g v, ⟨g, n, v, fz, bs, H.out, rfl⟩, Stp.refl _ _, fun _ hk => .inl hk⟩
  · have hd : decide (0 ≤ fu) = true := decide_eq_true (by omega)
    rw [hd] at c2
    have e : fz = fu := hfz (by omega)
    subst e
    clear hfz
    by_cases h1 : fz = 0
    · have ht : s.thing = ({ s with dead := true }, false) := by unfold DS.thing; rw [if_neg (by rw [← HF.out]; exact h0), if_pos (by rw [← HF.out]; exact h1)]
      have HT := Lib.hid ht
      subst h1
      clear ht
      go_enter Try.func46, Try.ntmps46
      go_wp2
      go_ret
      rw [HT.out]
      refine ⟨rfl, H.out.turned (grownBy_setCell w b 4 _) ⟨H.out.ok.bl, H.out.ok.pe, H.out.ok.fu, H.out.ok.len⟩ rfl rfl (fz' := 0) (H.out.box.set 4 _) (fun _ => HF.out)⟩
    · have ht : s.thing = ({ s with fu := s.fu - 1 }, true) := by unfold DS.thing; rw [if_neg (by rw [← HF.out]; exact h0), if_neg (by rw [← HF.out]; exact h1)]
      have HT := Lib.hid ht
      have t1 : (fz == 0) = false := by rw [beq_eq_false_iff_ne]; exact h1
      clear ht
      go_enter Try.func46, Try.ntmps46
      go_wp2
      go_ret
      rw [HT.out]
      have hd2 : decide (0 ≤ s.fu) = decide (0 ≤ s.fu - 1) := by rw [← HF.out, hd, decide_eq_true (by omega)]
      refine ⟨rfl, H.out.turned (s' := { s with fu := s.fu - 1 }) (grownBy_setCell w b 3 _) ⟨H.out.ok.bl, H.out.ok.pe, by rw [← HF.out]; simp only; omega, H.out.ok.len⟩ rfl rfl (fz' := fz - 1) ?_ (fun _ => by simp only; rw [HF.out])⟩
      have := H.out.box.set 3 (.int .i64 (fz - 1))
      rw [hd2] at this
      exact this

theorem fail_nil (k : Int) (w : World) :
    Calls Try.prog 19 #[.pointer none, .int .i64 k] w fun e w' => e = .returned (.tuple #[]) ∧ w = w' := by
  go_enter Try.func19, Try.ntmps19
  go_wp2
  go_end0
  exact ⟨rfl, rfl⟩

set_option maxHeartbeats 1000000 in
theorem fail_any (B b : Nat) (s : DS) (fp : List Nat) (k : Int) (w : World) (h : PD w B b s fp) (hk : k ≤ 9223372036854775807) :
    Calls Try.prog 19 #[.pointer (some ⟨b, 0, none⟩), .int .i64 k] w fun e w' => e = .returned (.tuple #[]) ∧ After fp w w' (PD w' B b (s.fail k)) := by
  obtain ⟨g, n, v, fz, bs, h, rfl⟩ := h
  have c2 : w.cell? ⟨b, 2, none⟩ = some (.bool (decide (0 ≤ s.fu))) := h.box.cell 2
  have c3 : w.cell? ⟨b, 3, none⟩ = some (.int .i64 fz) := h.box.cell 3
  have f2 := h.box.frozen 2
  have f3 := h.box.frozen 3
  have hd : decide (0 ≤ k) = decide (0 ≤ (s.fail k).fu) := by
    have e : (s.fail k).fu = max k (-1) := rfl
    rw [decide_eq_decide, e]; omega
  have HD := Lib.hid hd
  have H := Lib.hid h
  clear h hd
  go_enter Try.func19, Try.ntmps19
  go_wp2
  go_end0
  refine ⟨rfl, H.out.turned (grownBy_trans (grownBy_setCell w b 2 _) (grownBy_setCell _ b 3 _)) (H.out.ok.fail hk) rfl rfl (fz' := k) ?_ (fun h => by simp only [DS.fail] at h ⊢; omega)⟩
  have := (H.out.box.set 2 (.bool (decide (0 ≤ k)))).set 3 (.int .i64 k)
  rw [HD.out] at this
  rw [HD.out]
  exact this

theorem dead_nil (w : World) :
    Calls Try.prog 29 #[.pointer none] w fun e w' => e = .returned (.bool false) ∧ w = w' := by
  go_enter Try.func29, Try.ntmps29
  go_wp2
  go_ret
  exact ⟨rfl, rfl⟩

theorem dead_any (B b : Nat) (s : DS) (fp : List Nat) (w : World) (h : PD w B b s fp) :
    Calls Try.prog 29 #[.pointer (some ⟨b, 0, none⟩)] w fun e w' => e = .returned (.bool s.dead) ∧ w = w' := by
  obtain ⟨g, n, v, fz, bs, h, rfl⟩ := h
  have c4 : w.cell? ⟨b, 4, none⟩ = some (.bool s.dead) := h.box.cell 4
  clear h
  go_enter Try.func29, Try.ntmps29
  go_wp2
  go_ret
  exact ⟨rfl, rfl⟩

theorem len_nil (w : World) :
    Calls Try.prog 36 #[.pointer none] w fun e w' => e = .returned (.int .i64 0) ∧ w = w' := by
  go_enter Try.func36, Try.ntmps36
  go_wp2
  go_ret
  exact ⟨rfl, rfl⟩

theorem len_any (B b : Nat) (s : DS) (fp : List Nat) (w : World) (h : PD w B b s fp) :
    Calls Try.prog 36 #[.pointer (some ⟨b, 0, none⟩)] w fun e w' => e = .returned (.int .i64 (s.bl.length : Nat)) ∧ w = w' := by
  obtain ⟨g, n, v, fz, bs, h, rfl⟩ := h
  have c0 : w.cell? ⟨b, 0, none⟩ = some (.slice (some ⟨g, 0, none⟩) n n) := h.box.cell 0
  have HN := Lib.hid h.num
  clear h
  go_enter Try.func36, Try.ntmps36
  go_wp2
  go_ret
  exact ⟨by rw [← HN.out]; rfl, rfl⟩
end Go.Proofs.Ytbpklikmldpeiaa
