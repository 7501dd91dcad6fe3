/-
  Contract of the document's Split.
-/
import Derived.Test.YtoiiaicjlefclaaLotP
import Derived.Test.YtoiiaicjlefclaaLawA
namespace Go.Proofs.Ytoiiaicjlefclaa
open Go.RowKit Go.Deep

/-- two new rows -/
def SplP (now : Int) (l : List Lt) (w : World) (e : Ending) (w' : World) : Prop :=
  ∃ a c a2 c2, e = .returned (.tuple #[.slice a (dueL now l).length c, .slice a2 (restL now l).length c2]) ∧ RowG 4 cLt w' a (dueL now l) ∧ RowG 4 cLt w' a2 (restL now l) ∧ (∀ p, a = some p → w.heap.size ≤ p.block) ∧ (∀ p, a2 = some p → w.heap.size ≤ p.block ∧ p.block < w'.heap.size) ∧ Below w.heap.size w w'

/-- two rows of one's own, and what of them a step keeps -/
structure Two14 (B : Nat) (t : TypeId) (w wr : World) (l1 l2 : List Lt) (v1 v2 : Value) : Prop where
  one : wr.ownsRow B t 4 v1 l1.length (l1.flatMap cLt)
  two : wr.ownsRow B t 4 v2 l2.length (l2.flatMap cLt)
  ne : ∀ k, v1.ownBlock = some k → v2.ownBlock = some k → False
  below : Below B w wr

theorem Two14.start (B : Nat) (t : TypeId) (w : World) : Two14 B t w w [] [] (.slice none 0 0) (.slice none 0 0) :=
  ⟨World.ownsRow_nil _ _ _ _, World.ownsRow_nil _ _ _ _, (fun k h _ => by cases h), Below.refl _ _⟩

theorem Two14.keep {B : Nat} {t : TypeId} {w wr wr' : World} {l1 l2 : List Lt} {v1 v2 : Value} (h : Two14 B t w wr l1 l2 v1 v2) (hb : Below wr.heap.size wr wr') (hB : B ≤ wr.heap.size) : Two14 B t w wr' l1 l2 v1 v2 :=
  ⟨own_keepG h.one hb, own_keepG h.two hb, h.ne, bel_onG h.below hB hb⟩

/-- the first one grows -/
theorem Two14.first {B : Nat} {t : TypeId} {w wr wr' : World} {l1 l2 : List Lt} {v1 v2 v' : Value} {x : Lt} (h : Two14 B t w wr l1 l2 v1 v2) (hB : B ≤ wr.heap.size)
    (h1 : wr'.ownsRow B t 4 v' (l1.length + 1) (l1.flatMap cLt ++ cLt x)) (hg : wr.grownBy wr' v1.ownBlock) (ha : v'.ownBlock = v1.ownBlock ∨ v'.ownBlock = some wr.heap.size) : Two14 B t w wr' (l1 ++ [x]) l2 v' v2 := by
  refine ⟨by rw [List.length_append, List.flatMap_append]; simpa using h1, ?_, fun k hk hk2 => ?_, h.below.grown hg hB (fun k hk => (h.one.lt k hk).1)⟩
  · exact own_stp h.two (Stp.of_grown_row (fp := v1.ownBlock.toList) hg (fun b hb => by rw [Option.mem_toList]; exact hb)) (fun k hk hm => h.ne k (by rw [Option.mem_toList] at hm; exact hm) hk)
  · rcases ha with e | e
    · exact h.ne k (by rw [← e]; exact hk) hk2
    · rw [e] at hk
      injection hk with hk
      have := (h.two.lt k hk2).2
      omega

/-- the second one grows -/
theorem Two14.second {B : Nat} {t : TypeId} {w wr wr' : World} {l1 l2 : List Lt} {v1 v2 v' : Value} {x : Lt} (h : Two14 B t w wr l1 l2 v1 v2) (hB : B ≤ wr.heap.size)
    (h1 : wr'.ownsRow B t 4 v' (l2.length + 1) (l2.flatMap cLt ++ cLt x)) (hg : wr.grownBy wr' v2.ownBlock) (ha : v'.ownBlock = v2.ownBlock ∨ v'.ownBlock = some wr.heap.size) : Two14 B t w wr' l1 (l2 ++ [x]) v1 v' := by
  have hs : Two14 B t w wr l2 l1 v2 v1 := ⟨h.two, h.one, fun k a b => h.ne k b a, h.below⟩
  have := hs.first hB h1 hg ha
  exact ⟨this.two, this.one, fun k a b => this.ne k b a, this.below⟩

theorem Two14.fp1 {B : Nat} {t : TypeId} {w wr : World} {l1 l2 : List Lt} {v1 v2 : Value} (h : Two14 B t w wr l1 l2 v1 v2) : ∀ k, v1.ownBlock = some k → B ≤ k := fun k hk => (h.one.lt k hk).1

set_option maxHeartbeats 4000000 in
theorem split_any (now : Int) (a : Option Addr) (cp : Nat) (l : List Lt) (w : World) (hrow : RowG 4 cLt w a l) (hl : l.length ≤ 1000000) :
    Calls Try.prog 6 #[.slice a l.length cp, .int .i64 now] w (SplP now l w) := by
  obtain ⟨n, hn⟩ : ∃ n, n = l.length := ⟨_, rfl⟩
  have HN := Lib.hid hn
  have HR := Lib.hid hrow
  rw [← hn] at hl ⊢
  clear hn hrow
  go_enter Try.func6, Try.ntmps6
  go_wp2
  go_loopg [6, 7, 8] n (fun gk z1 z2 i wr => ∃ (k n1 n2 : Nat) (v1 v2 : Value), k ≤ n ∧ i = .int .i64 k ∧ v1 = z1 ∧ v2 = z2 ∧ n - k ≤ gk ∧ n1 ≤ k ∧ n2 ≤ k ∧ Hid (n1 = (dueL now (l.take k)).length) ∧ Hid (n2 = (restL now (l.take k)).length) ∧ Hid (Two14 w.heap.size 37 w wr (dueL now (l.take k)) (restL now (l.take k)) v1 v2))
  case atStart => exact ⟨0, 0, 0, _, _, Nat.zero_le _, rfl, rfl, rfl, by omega, Nat.le_refl _, Nat.le_refl _, rfl, rfl, Two14.start _ _ _⟩
  case round =>
    obtain ⟨k, n1, n2, v1, v2, hk, rfl, rfl, rfl, hgk, hn1, hn2, HN1, HN2, HT⟩ := hrel
    by_cases hlt : k < n
    · obtain ⟨x, hx⟩ : ∃ x, l[k]? = some x := ⟨_, List.getElem?_eq_getElem (by rw [← HN.out]; exact hlt)⟩
      obtain ⟨p, c, m, d⟩ := x
      obtain ⟨b1, off, rfl⟩ := HR.out.form (by rw [← HN.out]; omega)
      obtain ⟨f0, f1, f2, f3⟩ := cells4 (HR.out.keep HT.out.below) hx
      have hkz : (0 : Int) ≤ (k : Int) := by omega
      have hkn : (k : Int) < (n : Int) := by omega
      have HBS : Hid (w.heap.size ≤ wr.heap.size) := HT.out.below.size
      by_cases hd : d ≤ now
      · have HY := Lib.hid (due_yes hx hd)
        have HO : Hid (wr.ownsRow w.heap.size 37 4 v1 n1 ((dueL now (l.take k)).flatMap cLt)) := by rw [HN1.out]; exact HT.out.one
        clear hx
        go_wp2_with (first | (at_builtin; refine wpList_append_wide rfl (.tmp 22) (.tmp 27) 28 37 rfl w.heap.size _ 4 48 Try.underlying28 infoRLot rfl (by omega) v1 n1 _ rfl wr.heap.size 1 rfl (HO.out.alloc _) #[.string (st p), .string (st c), .int .i64 m, .int .i64 d] (Blk.new wr _ _) rfl (by simp [Value.oneCell']) (by unfold maxLen; omega) (by omega) (by have := HBS.out; simp; omega) ?_; intro v5 w5 h1 h2 h3; have HO5 := Lib.hid h1; have HG5 := Lib.hid h2; have HA5 := Lib.hid h3; clear h1 h2 h3) | fail)
        go_roundg (n - (k + 1))
        case measure => omega
        case rel =>
          refine ⟨k + 1, n1 + 1, n2, v5, v2, by omega, by go_num, rfl, rfl, by omega, by omega, by omega, ?_, ?_, ?_⟩
          · show _ = _; rw [HY.out.1, List.length_append, ← HN1.out]; rfl
          · show _ = _; rw [HY.out.2]; exact HN2.out
          · show Two14 _ _ _ _ _ _ _ _
            rw [HY.out.1, HY.out.2]
            exact (HT.out.keep ((Below.refl _ wr).alloc (Nat.le_refl _) _) HBS.out).first (x := (p, c, m, d)) (by have := HBS.out; simp; omega) (by rw [← HN1.out]; exact HO5.out) HG5.out HA5.out
      · have HY := Lib.hid (due_no hx hd)
        have HO : Hid (wr.ownsRow w.heap.size 37 4 v2 n2 ((restL now (l.take k)).flatMap cLt)) := by rw [HN2.out]; exact HT.out.two
        clear hx
        go_wp2_with (first | (at_builtin; refine wpList_append_wide rfl (.tmp 29) (.tmp 34) 28 37 rfl w.heap.size _ 4 48 Try.underlying28 infoRLot rfl (by omega) v2 n2 _ rfl wr.heap.size 1 rfl (HO.out.alloc _) #[.string (st p), .string (st c), .int .i64 m, .int .i64 d] (Blk.new wr _ _) rfl (by simp [Value.oneCell']) (by unfold maxLen; omega) (by omega) (by have := HBS.out; simp; omega) ?_; intro v5 w5 h1 h2 h3; have HO5 := Lib.hid h1; have HG5 := Lib.hid h2; have HA5 := Lib.hid h3; clear h1 h2 h3) | fail)
        go_roundg (n - (k + 1))
        case measure => omega
        case rel =>
          refine ⟨k + 1, n1, n2 + 1, v1, v5, by omega, by go_num, rfl, rfl, by omega, by omega, by omega, ?_, ?_, ?_⟩
          · show _ = _; rw [HY.out.1]; exact HN1.out
          · show _ = _; rw [HY.out.2, List.length_append, ← HN2.out]; rfl
          · show Two14 _ _ _ _ _ _ _ _
            rw [HY.out.1, HY.out.2]
            exact (HT.out.keep ((Below.refl _ wr).alloc (Nat.le_refl _) _) HBS.out).second (x := (p, c, m, d)) (by have := HBS.out; simp; omega) (by rw [← HN2.out]; exact HO5.out) HG5.out HA5.out
    · have e : n = k := by omega
      have HTK : Hid (l.take k = l) := List.take_of_length_le (by rw [← HN.out]; omega)
      have ht := HT.out
      rw [HTK.out] at ht
      obtain ⟨a1, c1, q1, r1, b1, _⟩ := RowG.own cLt_len ht.one rfl
      obtain ⟨a2, c2, q2, r2, b2, _⟩ := RowG.own cLt_len ht.two rfl
      have HX : Hid (SplP now l w (.returned (.tuple #[v1, v2])) wr) := ⟨a1, c1, a2, c2, by rw [q1, q2], r1, r2, b1, fun p hp => ⟨b2 p hp, (ht.two.lt p.block (by rw [q2, hp]; rfl)).2⟩, ht.below⟩
      clear hlt hk ht q1 q2 r1 r2 b1 b2 HT HN1 HN2
      subst e
      go_wp2
      go_ret2
      exact HX.out
end Go.Proofs.Ytoiiaicjlefclaa
