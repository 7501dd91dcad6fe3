/-
  Contract of the document's Ask.
-/
import Derived.Test.YtkhkcpoadccflaaGtE
import Derived.Test.YtkhkcpoadccflaaGtF
import Derived.Test.YtkhkcpoadccflaaGtG
import Derived.BigRegion
import Derived.Deep.WholeRow
namespace Go.Proofs.Ytkhkcpoadccflaa
open Go.RowKit Go.Deep Go.Lib

set_option maxHeartbeats 1600000 in
theorem rask_zero (b : Nat) (k q p c : List UInt8) (m a : Int) (ch : Nat) (w : World) (hch : ch ≤ 255) (h0 : ch % 8 = 0) :
    Calls Try.prog 11 #[.pointer (some ⟨b, 0, none⟩), .agg #[.string (st k), .string (st q), .string (st p), .string (st c), .int .i64 m, .int .i64 a], .int .u8 (ch : Int)] w fun e w' => e = .returned (.slice none 0 0) ∧ Below w.heap.size w w' := by
  have HB : Hid (∀ o, Below w.heap.size w (w.alloc o)) := fun o => (Below.refl _ w).alloc (Nat.le_refl _) o
  have hm : (ch : Int) % 8 = 0 := by omega
  clear h0
  go_enter Try.func11, Try.ntmps11
  go_wp2
  go_ret
  exact ⟨rfl, HB.out _⟩

set_option maxHeartbeats 1600000 in
theorem rask_kind (b : Nat) (k q p c : List UInt8) (m a : Int) (ch : Nat) (w : World) (hch : ch ≤ 255) (h0 : ¬ ch % 8 = 0) (h1 : k ≠ kPay) (h2 : k ≠ kQuery) :
    Calls Try.prog 11 #[.pointer (some ⟨b, 0, none⟩), .agg #[.string (st k), .string (st q), .string (st p), .string (st c), .int .i64 m, .int .i64 a], .int .u8 (ch : Int)] w fun e w' => e = .returned (.slice none 0 0) ∧ Below w.heap.size w w' := by
  have HB : Hid (∀ o, Below w.heap.size w (w.alloc o)) := fun o => (Below.refl _ w).alloc (Nat.le_refl _) o
  obtain ⟨cc, hcc⟩ : ∃ cc, cc = ch % 8 := ⟨_, rfl⟩
  have hm : (ch : Int) % 8 = (cc : Int) := by omega
  have t0 : ((cc : Int) == 0) = false := by rw [beq_eq_false_iff_ne]; omega
  have p1 : ((st k).toList == [112, 97, 121]) = false := txt_f h1
  have p2 : ((st k).toList == [113, 117, 101, 114, 121]) = false := txt_f h2
  clear h0 h1 h2 hcc
  go_enter Try.func11, Try.ntmps11
  go_wp2
  go_ret
  exact ⟨rfl, HB.out _⟩

/-- the document's Ask, of whatever request -/
theorem rask_any (B b : Nat) (L : List Rc) (Q : List Rp) (v1 v2 : Value) (r : Rq) (ch : Nat) (w : World) (h : GateP 33 52 43 B w b L Q v1 v2) (hl : L.length < 1000000) (hl2 : Q.length ≤ 1000000) (hch : ch ≤ 255) :
    Calls Try.prog 11 #[.pointer (some ⟨b, 0, none⟩), .agg (cRq r).toArray, .int .u8 (ch : Int)] w (AskG 33 52 43 B b v1 v2 (askL r (ch % 8) L) (askQ r (ch % 8) L Q) (askA r (ch % 8) L) w) := by
  obtain ⟨k, q, p, c, m, a⟩ := r
  have off : offB (k, q, p, c, m, a) (ch % 8) = true → (Calls Try.prog 11 #[.pointer (some ⟨b, 0, none⟩), .agg #[.string (st k), .string (st q), .string (st p), .string (st c), .int .i64 m, .int .i64 a], .int .u8 (ch : Int)] w fun e w' => e = .returned (.slice none 0 0) ∧ Below w.heap.size w w') → Calls Try.prog 11 #[.pointer (some ⟨b, 0, none⟩), .agg #[.string (st k), .string (st q), .string (st p), .string (st c), .int .i64 m, .int .i64 a], .int .u8 (ch : Int)] w (AskG 33 52 43 B b v1 v2 (askL (k, q, p, c, m, a) (ch % 8) L) (askQ (k, q, p, c, m, a) (ch % 8) L Q) (askA (k, q, p, c, m, a) (ch % 8) L) w) := fun ho hc => by
    obtain ⟨e1, e2, e3⟩ := ask_off (L := L) (Q := Q) ho
    rw [e1, e2, e3]
    exact hc.mono fun e w' ⟨he, hb⟩ => ⟨none, 0, he, RowG.nil _ _, (fun p hp => by cases hp), Turned.still h hb⟩
  show Calls Try.prog 11 #[.pointer (some ⟨b, 0, none⟩), .agg #[.string (st k), .string (st q), .string (st p), .string (st c), .int .i64 m, .int .i64 a], .int .u8 (ch : Int)] w _
  by_cases h0 : ch % 8 = 0
  · exact off (by unfold offB; rw [h0]; rfl) (rask_zero b k q p c m a ch w hch h0)
  have hc : ch % 8 = 1 ∨ ch % 8 = 2 ∨ ch % 8 = 3 ∨ ch % 8 = 4 ∨ ch % 8 = 5 ∨ ch % 8 = 6 ∨ ch % 8 = 7 := by omega
  by_cases h1 : k = kPay
  · subst h1
    obtain ⟨e1, e2, e3⟩ := ask_on (r := (kPay, q, p, c, m, a)) (c := ch % 8) (L := L) (Q := Q) (by unfold offB; rw [decide_eq_false h0]; simp)
    rw [e1, e2, e3]
    unfold repl
    simp only
    cases hk : hasK q L with
    | false =>
      rw [recs_new (r := (kPay, q, p, c, m, a)) rfl hk]
      rcases hc with e | e | e | e | e | e | e
      · rw [e]; exact rask_new1 B b L Q v1 v2 q p c m a ch w h hl hl2 hch (by omega) hk _ rfl
      · rw [e]; exact rask_new2 B b L Q v1 v2 q p c m a ch w h hl hl2 hch (by omega) hk _ rfl
      · rw [e]; exact rask_new3 B b L Q v1 v2 q p c m a ch w h hl hl2 hch (by omega) hk _ rfl
      · rw [e]; exact rask_new4 B b L Q v1 v2 q p c m a ch w h hl hl2 hch (by omega) hk _ rfl
      · rw [e]; exact rask_new5 B b L Q v1 v2 q p c m a ch w h hl hl2 hch (by omega) hk _ rfl
      · rw [e]; exact rask_new6 B b L Q v1 v2 q p c m a ch w h hl hl2 hch (by omega) hk _ rfl
      · rw [e]; exact rask_new7 B b L Q v1 v2 q p c m a ch w h hl hl2 hch (by omega) hk _ rfl
    | true =>
      rw [recs_has (r := (kPay, q, p, c, m, a)) hk]
      rcases hc with e | e | e | e | e | e | e
      · rw [e]; exact rask_has1 B b L Q v1 v2 q p c m a ch w h hl hl2 hch (by omega) hk _ rfl
      · rw [e]; exact rask_has2 B b L Q v1 v2 q p c m a ch w h hl hl2 hch (by omega) hk _ rfl
      · rw [e]; exact rask_has3 B b L Q v1 v2 q p c m a ch w h hl hl2 hch (by omega) hk _ rfl
      · rw [e]; exact rask_has4 B b L Q v1 v2 q p c m a ch w h hl hl2 hch (by omega) hk _ rfl
      · rw [e]; exact rask_has5 B b L Q v1 v2 q p c m a ch w h hl hl2 hch (by omega) hk _ rfl
      · rw [e]; exact rask_has6 B b L Q v1 v2 q p c m a ch w h hl hl2 hch (by omega) hk _ rfl
      · rw [e]; exact rask_has7 B b L Q v1 v2 q p c m a ch w h hl hl2 hch (by omega) hk _ rfl
  by_cases h2 : k = kQuery
  · subst h2
    obtain ⟨e1, e2, e3⟩ := ask_on (r := (kQuery, q, p, c, m, a)) (c := ch % 8) (L := L) (Q := Q) (by unfold offB; rw [decide_eq_false h0]; simp)
    rw [e1, e2, e3]
    unfold repl
    simp only
    rw [recs_query (r := (kQuery, q, p, c, m, a)) (show kQuery ≠ kPay by decide)]
    rcases hc with e | e | e | e | e | e | e
    · rw [e]; exact rask_query1 B b L Q v1 v2 q p c m a ch w h hl hl2 hch (by omega) _ rfl
    · rw [e]; exact rask_query2 B b L Q v1 v2 q p c m a ch w h hl hl2 hch (by omega) _ rfl
    · rw [e]; exact rask_query3 B b L Q v1 v2 q p c m a ch w h hl hl2 hch (by omega) _ rfl
    · rw [e]; exact rask_query4 B b L Q v1 v2 q p c m a ch w h hl hl2 hch (by omega) _ rfl
    · rw [e]; exact rask_query5 B b L Q v1 v2 q p c m a ch w h hl hl2 hch (by omega) _ rfl
    · rw [e]; exact rask_query6 B b L Q v1 v2 q p c m a ch w h hl hl2 hch (by omega) _ rfl
    · rw [e]; exact rask_query7 B b L Q v1 v2 q p c m a ch w h hl hl2 hch (by omega) _ rfl
  · exact off (by unfold offB; simp only; rw [decide_eq_true h1, decide_eq_true h2]; simp) (rask_kind b k q p c m a ch w hch h0 h1 h2)
end Go.Proofs.Ytkhkcpoadccflaa
