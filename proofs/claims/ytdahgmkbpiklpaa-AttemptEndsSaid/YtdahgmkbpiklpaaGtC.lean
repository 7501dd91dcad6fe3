/-
  Contract of gate.Ask.
-/
import Derived.Test.YtdahgmkbpiklpaaGtB
import Derived.BigRegion
import Derived.Deep.WholeRow
namespace Go.Proofs.Ytdahgmkbpiklpaa
open Go.RowKit Go.Deep Go.Lib

theorem Turned.trans {tg tr tq : TypeId} {B b : Nat} {v1 v2 a1 a2 : Value} {L : List Rc} {Q : List Rp} {w w1 w' : World} (hs : Stp (fpG b v1 v2) w w1) (hn : ∀ k ∈ fpG b a1 a2, k ∈ fpG b v1 v2 ∨ w.heap.size ≤ k) (h : Turned tg tr tq B b a1 a2 L Q w1 w') : Turned tg tr tq B b v1 v2 L Q w w' := by
  obtain ⟨b1, b2, hg, hs2, hn2⟩ := h
  refine ⟨b1, b2, hg, hs.trans hs2 hn, fun k hk => ?_⟩
  rcases hn2 k hk with h | h
  · exact hn k h
  · exact .inr (Nat.le_trans hs.size h)

/-- what Ask answers, and leaves -/
def AskG (tg tr tq : TypeId) (B b : Nat) (v1 v2 : Value) (L' : List Rc) (Q' : List Rp) (A : List Rp) (w : World) (e : Ending) (w' : World) : Prop :=
  ∃ ar cp, e = .returned (.slice ar A.length cp) ∧ RowG 3 cRp w' ar A ∧ (∀ p, ar = some p → w.heap.size ≤ p.block) ∧ Turned tg tr tq B b v1 v2 L' Q' w w'

theorem ask_off {r : Rq} {c : Nat} {L : List Rc} {Q : List Rp} (h : offB r c = true) : askA r c L = [] ∧ askL r c L = L ∧ askQ r c L Q = Q := by
  unfold askA askL askQ
  rw [h]
  exact ⟨rfl, rfl, rfl⟩
theorem ask_on {r : Rq} {c : Nat} {L : List Rc} {Q : List Rp} (h : offB r c = false) : askA r c L = told c (repl r c L) ∧ askL r c L = recs r c L ∧ askQ r c L Q = lateL c (repl r c L) Q := by
  unfold askA askL askQ
  rw [h]
  exact ⟨rfl, rfl, rfl⟩
theorem recs_has {r : Rq} {c : Nat} {L : List Rc} (h : hasK r.2.1 L = true) : recs r c L = L := by
  unfold recs
  rw [if_neg (fun e => by rw [h] at e; cases e.2)]
theorem recs_new {r : Rq} {c : Nat} {L : List Rc} (h1 : r.1 = kPay) (h : hasK r.2.1 L = false) : recs r c L = L ++ [(r.2.1, r.2.2.1, r.2.2.2.1, r.2.2.2.2.1, mvB c)] := by
  unfold recs
  rw [if_pos ⟨h1, h⟩]
theorem recs_query {r : Rq} {c : Nat} {L : List Rc} (h1 : r.1 ≠ kPay) : recs r c L = L := by
  unfold recs
  rw [if_neg (fun e => h1 e.1)]

set_option maxHeartbeats 1600000 in
theorem ask_nil (k q p c : List UInt8) (m a : Int) (ch : Nat) (w : World) (hch : ch ≤ 255) :
    Calls Try.prog 16 #[.pointer none, .agg #[.string (st k), .string (st q), .string (st p), .string (st c), .int .i64 m, .int .i64 a], .int .u8 (ch : Int)] w fun e w' => e = .returned (.slice none 0 0) ∧ Below w.heap.size w w' := by
  have HB : Hid (∀ o, Below w.heap.size w (w.alloc o)) := fun o => (Below.refl _ w).alloc (Nat.le_refl _) o
  go_enter Try.func16, Try.ntmps16
  go_wp2
  go_ret
  exact ⟨rfl, HB.out _⟩

set_option maxHeartbeats 1600000 in
theorem ask_zero (b : Nat) (k q p c : List UInt8) (m a : Int) (ch : Nat) (w : World) (hch : ch ≤ 255) (h0 : ch % 8 = 0) :
    Calls Try.prog 16 #[.pointer (some ⟨b, 0, none⟩), .agg #[.string (st k), .string (st q), .string (st p), .string (st c), .int .i64 m, .int .i64 a], .int .u8 (ch : Int)] w fun e w' => e = .returned (.slice none 0 0) ∧ Below w.heap.size w w' := by
  have HB : Hid (∀ o, Below w.heap.size w (w.alloc o)) := fun o => (Below.refl _ w).alloc (Nat.le_refl _) o
  have hm : (ch : Int) % 8 = 0 := by omega
  clear h0
  go_enter Try.func16, Try.ntmps16
  go_wp2
  go_ret
  exact ⟨rfl, HB.out _⟩

set_option maxHeartbeats 1600000 in
theorem ask_kind (b : Nat) (k q p c : List UInt8) (m a : Int) (ch : Nat) (w : World) (hch : ch ≤ 255) (h0 : ¬ ch % 8 = 0) (h1 : k ≠ kPay) (h2 : k ≠ kQuery) :
    Calls Try.prog 16 #[.pointer (some ⟨b, 0, none⟩), .agg #[.string (st k), .string (st q), .string (st p), .string (st c), .int .i64 m, .int .i64 a], .int .u8 (ch : Int)] w fun e w' => e = .returned (.slice none 0 0) ∧ Below w.heap.size w w' := by
  have HB : Hid (∀ o, Below w.heap.size w (w.alloc o)) := fun o => (Below.refl _ w).alloc (Nat.le_refl _) o
  obtain ⟨cc, hcc⟩ : ∃ cc, cc = ch % 8 := ⟨_, rfl⟩
  have hm : (ch : Int) % 8 = (cc : Int) := by omega
  have t0 : ((cc : Int) == 0) = false := by rw [beq_eq_false_iff_ne]; omega
  have p1 : ((st k).toList == [112, 97, 121]) = false := txt_f h1
  have p2 : ((st k).toList == [113, 117, 101, 114, 121]) = false := txt_f h2
  clear h0 h1 h2 hcc
  go_enter Try.func16, Try.ntmps16
  go_wp2
  go_ret
  exact ⟨rfl, HB.out _⟩

/-- two cells of a request -/
def Sask (rb : Nat) (q : List UInt8) (a : Int) (w : World) : Prop := w.cell? ⟨rb, 1, none⟩ = some (.string (st q)) ∧ w.cell? ⟨rb, 5, none⟩ = some (.int .i64 a)

/-- decide, of either way -/
theorem decide_any (B b : Nat) (L : List Rc) (Q : List Rp) (v1 v2 : Value) (q p c : List UInt8) (m a : Int) (ch : Nat) (w : World) (h : GateP 46 63 59 B w b L Q v1 v2) (hl : L.length ≤ 1000000) (hc : ch ≤ 7) :
    Calls Try.prog 23 #[.pointer (some ⟨b, 0, none⟩), .agg #[.string (st kPay), .string (st q), .string (st p), .string (st c), .int .i64 m, .int .i64 a], .int .u8 (ch : Int)] w fun e w' => e = .returned (.tuple #[]) ∧ Turned 46 63 59 B b v1 v2 (recs (kPay, q, p, c, m, a) ch L) Q w w' := by
  cases hk : hasK q L with
  | true =>
    rw [recs_has (r := (kPay, q, p, c, m, a)) hk]
    exact (decide_yes B b L Q v1 v2 kPay q p c m a ch w h hl hk).mono fun e w' ⟨he, hb⟩ => ⟨he, Turned.still h hb⟩
  | false =>
    rw [recs_new (r := (kPay, q, p, c, m, a)) rfl hk]
    exact decide_no B b L Q v1 v2 kPay q p c m a ch w h hl hc hk

set_option maxHeartbeats 3200000 in
set_option maxRecDepth 100000 in
theorem ask_pay (B b : Nat) (L : List Rc) (Q : List Rp) (v1 v2 : Value) (q p c : List UInt8) (m a : Int) (ch cc : Nat) (w : World) (h : GateP 46 63 59 B w b L Q v1 v2) (hl : L.length < 1000000) (hl2 : Q.length ≤ 1000000) (hch : ch ≤ 255) (hcc : ch % 8 = cc) (h0 : ¬ cc = 0) (L1 : List Rc) (hL1 : recs (kPay, q, p, c, m, a) cc L = L1) :
    Calls Try.prog 16 #[.pointer (some ⟨b, 0, none⟩), .agg #[.string (st kPay), .string (st q), .string (st p), .string (st c), .int .i64 m, .int .i64 a], .int .u8 (ch : Int)] w (AskG 46 63 59 B b v1 v2 L1 (lateL cc (q, knd q L1, a) Q) (told cc (q, knd q L1, a)) w) := by
  have hm : (ch : Int) % 8 = (cc : Int) := by omega
  have t0 : ((cc : Int) == 0) = false := by rw [beq_eq_false_iff_ne]; omega
  have HCC : Hid (1 ≤ cc ∧ cc ≤ 7) := by show _ ∧ _; omega
  have HL1 : Hid (L1.length ≤ 1000000) := by show _ ≤ _; rw [← hL1]; have := (recs_len (kPay, q, p, c, m, a) cc L).2; omega
  have HQ1 := Lib.hid hl2
  have HLT : Hid (∀ k ∈ fpG b v1 v2, k < w.heap.size) := fun k hk => (h.lt k hk).1
  have hb1 : Below w.heap.size w (w.alloc (.cells #[.string (st kPay), .string (st q), .string (st p), .string (st c), .int .i64 m, .int .i64 a] 29)) := (Below.refl _ w).alloc (Nat.le_refl _) _
  have HB0 := Lib.hid hb1
  have HRQ : Hid (Blk (w.alloc (.cells #[.string (st kPay), .string (st q), .string (st p), .string (st c), .int .i64 m, .int .i64 a] 29)) w.heap.size 29 #[.string (st kPay), .string (st q), .string (st p), .string (st c), .int .i64 m, .int .i64 a]) := Blk.new w _ _
  have p1 : ((st kPay).toList == [112, 97, 121]) = true := txt_t rfl
  have HD := Lib.hid (decide_any B b L Q v1 v2 q p c m a cc _ (h.keep hb1) (Nat.le_of_lt hl) HCC.out.2)
  rw [hL1] at HD
  clear hcc h0 hl hl2 hL1 h hb1
  go_enter Try.func16, Try.ntmps16
  go_wp2_with fail
  refine HD.out.mono ?_
  rintro e w1 ⟨rfl, a1, a2, hg1, hs1, hn1⟩
  have HG1 := Lib.hid hg1
  have HRQ1 := Lib.hid (HRQ.out.stp hs1 (fun hm => by have := HLT.out _ hm; omega))
  have HST1 : Hid (Stp (fpG b v1 v2) w w1) := (Stp.of_below (fp := fpG b v1 v2) HB0.out).trans hs1 (fun k hk => .inl hk)
  have HN1 : Hid (∀ k ∈ fpG b a1 a2, k ∈ fpG b v1 v2 ∨ w.heap.size ≤ k) := fun k hk => by
    rcases hn1 k hk with h | h
    · exact .inl h
    · exact .inr (Nat.le_trans HB0.out.size h)
  have HNE : Hid (∀ k ∈ fpG b a1 a2, k ≠ w.heap.size) := fun k hk e => by
    rcases hn1 k hk with h | h
    · have := HLT.out k h; omega
    · have := HRQ.out.lt; omega
  clear hg1 hs1 hn1 HD HRQ HB0
  go_wp2_with fail
  refine wp_region_E (Sask w.heap.size q a) [] (by kernel_rfl) ?_
  have HB1 : Hid (Below w1.heap.size w1 w1.drew) := (Below.refl _ w1).drew
  generalize w1.drew = W at HB1 ⊢
  have HGW := Lib.hid (HG1.out.keep HB1.out)
  have HRQ2 := Lib.hid (HRQ1.out.since HB1.out)
  have HS0 : Hid (Sask w.heap.size q a W) := ⟨HRQ2.out.cell 1, HRQ2.out.cell 5⟩
  have HKN := Lib.hid (known_any B b L1 Q a1 a2 q W HGW.out HL1.out)
  refine wpAnyE_take 0 (some 32) (.pointer (some ⟨b, 0, none⟩)) rfl rfl (by kernel_rfl) (by kernel_rfl) (by kernel_rfl) (by kernel_rfl) (fun _ _ _ h => h) (yields_move rfl _ rfl _ rfl) HS0.out ?_
  simp only [Act.put, List.setIfInBounds_toArray, List.set_cons_zero, List.set_cons_succ]
  refine wpAnyE_take 1 (some 33) (.pointer (some ⟨w.heap.size, 1, none⟩)) rfl rfl (by kernel_rfl) (by kernel_rfl) (by kernel_rfl) (by kernel_rfl) (fun _ _ _ h => h) (Or.inl ⟨by rfl, fun w _ => by go_simp⟩) HS0.out ?_
  simp only [Act.put, List.setIfInBounds_toArray, List.set_cons_zero, List.set_cons_succ]
  refine wpAnyE_take 2 (some 34) (.string (st q)) rfl rfl (by kernel_rfl) (by kernel_rfl) (by kernel_rfl) (by kernel_rfl) (fun _ _ _ h => h) (yields_load rfl 9 _ rfl Try.underlying9 rfl _ rfl _ (fun w h => h.1)) HS0.out ?_
  simp only [Act.put, List.setIfInBounds_toArray, List.set_cons_zero, List.set_cons_succ]
  refine wpAnyE_take 3 (some 35) (.pointer (some ⟨b, 0, none⟩)) rfl rfl (by kernel_rfl) (by kernel_rfl) (by kernel_rfl) (by kernel_rfl) (fun _ _ _ h => h) (yields_move rfl _ rfl _ rfl) HS0.out ?_
  simp only [Act.put, List.setIfInBounds_toArray, List.set_cons_zero, List.set_cons_succ]
  refine wpAnyE_take 4 (some 36) (.pointer (some ⟨w.heap.size, 1, none⟩)) rfl rfl (by kernel_rfl) (by kernel_rfl) (by kernel_rfl) (by kernel_rfl) (fun _ _ _ h => h) (Or.inl ⟨by rfl, fun w _ => by go_simp⟩) HS0.out ?_
  simp only [Act.put, List.setIfInBounds_toArray, List.set_cons_zero, List.set_cons_succ]
  refine wpAnyE_take 5 (some 37) (.string (st q)) rfl rfl (by kernel_rfl) (by kernel_rfl) (by kernel_rfl) (by kernel_rfl) (fun _ _ _ h => h) (yields_load rfl 9 _ rfl Try.underlying9 rfl _ rfl _ (fun w h => h.1)) HS0.out ?_
  simp only [Act.put, List.setIfInBounds_toArray, List.set_cons_zero, List.set_cons_succ]
  refine wpAnyE_take 7 (some 39) (.pointer (some ⟨w.heap.size, 5, none⟩)) rfl rfl (by kernel_rfl) (by kernel_rfl) (by kernel_rfl) (by kernel_rfl) (fun _ _ _ h => h) (Or.inl ⟨by rfl, fun w _ => by go_simp⟩) HS0.out ?_
  simp only [Act.put, List.setIfInBounds_toArray, List.set_cons_zero, List.set_cons_succ]
  refine wpAnyE_take 8 (some 40) (.int .i64 a) rfl rfl (by kernel_rfl) (by kernel_rfl) (by kernel_rfl) (by kernel_rfl) (fun _ _ _ h => h) (yields_load rfl 2 _ rfl Try.underlying2 rfl _ rfl _ (fun w h => h.2)) HS0.out ?_
  simp only [Act.put, List.setIfInBounds_toArray, List.set_cons_zero, List.set_cons_succ]
  refine wpAnyE_take 10 (some 42) (.int .u8 (cc : Int)) rfl rfl (by kernel_rfl) (by kernel_rfl) (by kernel_rfl) (by kernel_rfl) (fun _ _ _ h => h) (yields_move rfl _ rfl _ rfl) HS0.out ?_
  simp only [Act.put, List.setIfInBounds_toArray, List.set_cons_zero, List.set_cons_succ]
  refine wpAnyE_oneG 6 (by kernel_rfl) rfl (by rfl) (fun K hK => ?_)
  go_simp
  refine HKN.out.mono ?_
  rintro e wn ⟨rfl, hbn⟩
  have HBN := Lib.hid hbn
  have HRQ3 := Lib.hid (HRQ2.out.since hbn)
  have HGN := Lib.hid (HGW.out.keep hbn)
  have HS1 : Hid (Sask w.heap.size q a wn) := ⟨HRQ3.out.cell 1, HRQ3.out.cell 5⟩
  clear hbn HKN
  try go_wp2_with fail
  refine hK.out _ _ HS1.out ?_
  clear hK K
  try simp only [Act.put, List.setIfInBounds_toArray, List.set_cons_zero, List.set_cons_succ]
  refine wpAnyE_step 9 (some 41) (.agg #[.string (st q), .string (st (knd q L1)), .int .i64 a]) (by kernel_rfl) rfl rfl (Or.inl ⟨by rfl, fun w _ => by go_simp⟩) HS1.out ?_
  simp only [Act.put, List.setIfInBounds_toArray, List.set_cons_zero, List.set_cons_succ]
  have HTL := Lib.hid (tell_any B b L1 Q a1 a2 q (knd q L1) a cc wn HGN.out HQ1.out HCC.out)
  refine wpAnyE_oneG 11 (by kernel_rfl) rfl (by rfl) (fun K hK => ?_)
  go_simp
  refine HTL.out.mono ?_
  rintro e w5 ⟨ar, cp, rfl, hrow, hnew, ht⟩
  have HFIN : Hid (AskG 46 63 59 B b v1 v2 L1 (lateL cc (q, knd q L1, a) Q) (told cc (q, knd q L1, a)) w (.returned (.slice ar (told cc (q, knd q L1, a)).length cp)) w5) := ⟨ar, cp, rfl, hrow, (fun p hp => by have h1 := hnew p hp; have h2 := HST1.out.size; have h3 := HB1.out.size; have h4 := HBN.out.size; omega), Turned.trans HST1.out HN1.out ((ht.since HBN.out).since HB1.out)⟩
  have HS5 : Hid (Sask w.heap.size q a w5) := by
    obtain ⟨b1, b2, hg5, hs5, hn5⟩ := ht
    have hr := HRQ3.out.stp hs5 (fun hm => by
      rcases HN1.out _ hm with h | h
      · have := HLT.out _ h; omega
      · have := HNE.out _ hm; exact this rfl)
    exact ⟨hr.cell 1, hr.cell 5⟩
  generalize (told cc (q, knd q L1, a)).length = tn at HFIN ⊢
  clear hrow hnew ht HTL
  try go_wp2_with fail
  refine hK.out _ _ HS5.out ?_
  clear hK K
  try simp only [Act.put, List.setIfInBounds_toArray, List.set_cons_zero, List.set_cons_succ]
  refine wpAnyE_step 12 (some 6) (.slice ar tn cp) (by kernel_rfl) rfl rfl (Or.inl ⟨by rfl, fun w _ => by go_simp⟩) HS5.out ?_
  simp only [Act.put, List.setIfInBounds_toArray, List.set_cons_zero, List.set_cons_succ]
  refine wpAnyE_done (by kernel_rfl) ?_ _
  go_wp2
  go_ret
  exact HFIN.out

set_option maxHeartbeats 3200000 in
set_option maxRecDepth 100000 in
theorem ask_query (B b : Nat) (L : List Rc) (Q : List Rp) (v1 v2 : Value) (q p c : List UInt8) (m a : Int) (ch cc : Nat) (w : World) (h : GateP 46 63 59 B w b L Q v1 v2) (hl : L.length < 1000000) (hl2 : Q.length ≤ 1000000) (hch : ch ≤ 255) (hcc : ch % 8 = cc) (h0 : ¬ cc = 0) (L1 : List Rc) (hL1 : recs (kQuery, q, p, c, m, a) cc L = L1) :
    Calls Try.prog 16 #[.pointer (some ⟨b, 0, none⟩), .agg #[.string (st kQuery), .string (st q), .string (st p), .string (st c), .int .i64 m, .int .i64 a], .int .u8 (ch : Int)] w (AskG 46 63 59 B b v1 v2 L1 (lateL cc (q, knd q L1, a) Q) (told cc (q, knd q L1, a)) w) := by
  have hm : (ch : Int) % 8 = (cc : Int) := by omega
  have t0 : ((cc : Int) == 0) = false := by rw [beq_eq_false_iff_ne]; omega
  have HCC : Hid (1 ≤ cc ∧ cc ≤ 7) := by show _ ∧ _; omega
  have HL1 : Hid (L1.length ≤ 1000000) := by show _ ≤ _; rw [← hL1]; have := (recs_len (kQuery, q, p, c, m, a) cc L).2; omega
  have HQ1 := Lib.hid hl2
  have HLT : Hid (∀ k ∈ fpG b v1 v2, k < w.heap.size) := fun k hk => (h.lt k hk).1
  have hb1 : Below w.heap.size w (w.alloc (.cells #[.string (st kQuery), .string (st q), .string (st p), .string (st c), .int .i64 m, .int .i64 a] 29)) := (Below.refl _ w).alloc (Nat.le_refl _) _
  have HB0 := Lib.hid hb1
  have HRQ : Hid (Blk (w.alloc (.cells #[.string (st kQuery), .string (st q), .string (st p), .string (st c), .int .i64 m, .int .i64 a] 29)) w.heap.size 29 #[.string (st kQuery), .string (st q), .string (st p), .string (st c), .int .i64 m, .int .i64 a]) := Blk.new w _ _
  have p1 : ((st kQuery).toList == [112, 97, 121]) = false := txt_f (by decide)
  have p2 : ((st kQuery).toList == [113, 117, 101, 114, 121]) = true := txt_t rfl
  rw [recs_query (r := (kQuery, q, p, c, m, a)) (show kQuery ≠ kPay by decide)] at hL1
  subst hL1
  obtain ⟨a1, ha1⟩ : ∃ a1, a1 = v1 := ⟨_, rfl⟩
  obtain ⟨a2, ha2⟩ : ∃ a2, a2 = v2 := ⟨_, rfl⟩
  have hg1 := h.keep hb1
  rw [← ha1, ← ha2] at hg1
  have HG1 := Lib.hid hg1
  have HST1 : Hid (Stp (fpG b v1 v2) w (w.alloc (.cells #[.string (st kQuery), .string (st q), .string (st p), .string (st c), .int .i64 m, .int .i64 a] 29))) := Stp.of_below hb1
  have HN1 : Hid (∀ k ∈ fpG b a1 a2, k ∈ fpG b v1 v2 ∨ w.heap.size ≤ k) := fun k hk => by rw [ha1, ha2] at hk; exact .inl hk
  have HNE : Hid (∀ k ∈ fpG b a1 a2, k ≠ w.heap.size) := fun k hk e => by
    rw [ha1, ha2] at hk
    have := HLT.out k hk
    omega
  obtain ⟨L1, hLL⟩ : ∃ L1, L1 = L := ⟨_, rfl⟩
  rw [← hLL] at HG1 HL1 ⊢
  clear hcc h0 hl hl2 h hg1 hb1 ha1 ha2 hLL HB0
  go_enter Try.func16, Try.ntmps16
  go_wp2_with fail
  rw [hm]
  have HRQ1 := HRQ
  clear HRQ
  generalize w.alloc (.cells #[.string (st kQuery), .string (st q), .string (st p), .string (st c), .int .i64 m, .int .i64 a] 29) = w1 at HG1 HST1 HRQ1 ⊢
  refine wp_region_E (Sask w.heap.size q a) [] (by kernel_rfl) ?_
  have HB1 : Hid (Below w1.heap.size w1 w1.drew) := (Below.refl _ w1).drew
  generalize w1.drew = W at HB1 ⊢
  have HGW := Lib.hid (HG1.out.keep HB1.out)
  have HRQ2 := Lib.hid (HRQ1.out.since HB1.out)
  have HS0 : Hid (Sask w.heap.size q a W) := ⟨HRQ2.out.cell 1, HRQ2.out.cell 5⟩
  have HKN := Lib.hid (known_any B b L1 Q a1 a2 q W HGW.out HL1.out)
  refine wpAnyE_take 0 (some 32) (.pointer (some ⟨b, 0, none⟩)) rfl rfl (by kernel_rfl) (by kernel_rfl) (by kernel_rfl) (by kernel_rfl) (fun _ _ _ h => h) (yields_move rfl _ rfl _ rfl) HS0.out ?_
  simp only [Act.put, List.setIfInBounds_toArray, List.set_cons_zero, List.set_cons_succ]
  refine wpAnyE_take 1 (some 33) (.pointer (some ⟨w.heap.size, 1, none⟩)) rfl rfl (by kernel_rfl) (by kernel_rfl) (by kernel_rfl) (by kernel_rfl) (fun _ _ _ h => h) (Or.inl ⟨by rfl, fun w _ => by go_simp⟩) HS0.out ?_
  simp only [Act.put, List.setIfInBounds_toArray, List.set_cons_zero, List.set_cons_succ]
  refine wpAnyE_take 2 (some 34) (.string (st q)) rfl rfl (by kernel_rfl) (by kernel_rfl) (by kernel_rfl) (by kernel_rfl) (fun _ _ _ h => h) (yields_load rfl 9 _ rfl Try.underlying9 rfl _ rfl _ (fun w h => h.1)) HS0.out ?_
  simp only [Act.put, List.setIfInBounds_toArray, List.set_cons_zero, List.set_cons_succ]
  refine wpAnyE_take 3 (some 35) (.pointer (some ⟨b, 0, none⟩)) rfl rfl (by kernel_rfl) (by kernel_rfl) (by kernel_rfl) (by kernel_rfl) (fun _ _ _ h => h) (yields_move rfl _ rfl _ rfl) HS0.out ?_
  simp only [Act.put, List.setIfInBounds_toArray, List.set_cons_zero, List.set_cons_succ]
  refine wpAnyE_take 4 (some 36) (.pointer (some ⟨w.heap.size, 1, none⟩)) rfl rfl (by kernel_rfl) (by kernel_rfl) (by kernel_rfl) (by kernel_rfl) (fun _ _ _ h => h) (Or.inl ⟨by rfl, fun w _ => by go_simp⟩) HS0.out ?_
  simp only [Act.put, List.setIfInBounds_toArray, List.set_cons_zero, List.set_cons_succ]
  refine wpAnyE_take 5 (some 37) (.string (st q)) rfl rfl (by kernel_rfl) (by kernel_rfl) (by kernel_rfl) (by kernel_rfl) (fun _ _ _ h => h) (yields_load rfl 9 _ rfl Try.underlying9 rfl _ rfl _ (fun w h => h.1)) HS0.out ?_
  simp only [Act.put, List.setIfInBounds_toArray, List.set_cons_zero, List.set_cons_succ]
  refine wpAnyE_take 7 (some 39) (.pointer (some ⟨w.heap.size, 5, none⟩)) rfl rfl (by kernel_rfl) (by kernel_rfl) (by kernel_rfl) (by kernel_rfl) (fun _ _ _ h => h) (Or.inl ⟨by rfl, fun w _ => by go_simp⟩) HS0.out ?_
  simp only [Act.put, List.setIfInBounds_toArray, List.set_cons_zero, List.set_cons_succ]
  refine wpAnyE_take 8 (some 40) (.int .i64 a) rfl rfl (by kernel_rfl) (by kernel_rfl) (by kernel_rfl) (by kernel_rfl) (fun _ _ _ h => h) (yields_load rfl 2 _ rfl Try.underlying2 rfl _ rfl _ (fun w h => h.2)) HS0.out ?_
  simp only [Act.put, List.setIfInBounds_toArray, List.set_cons_zero, List.set_cons_succ]
  refine wpAnyE_take 10 (some 42) (.int .u8 (cc : Int)) rfl rfl (by kernel_rfl) (by kernel_rfl) (by kernel_rfl) (by kernel_rfl) (fun _ _ _ h => h) (yields_move rfl _ rfl _ rfl) HS0.out ?_
  simp only [Act.put, List.setIfInBounds_toArray, List.set_cons_zero, List.set_cons_succ]
  refine wpAnyE_oneG 6 (by kernel_rfl) rfl (by rfl) (fun K hK => ?_)
  go_simp
  refine HKN.out.mono ?_
  rintro e wn ⟨rfl, hbn⟩
  have HBN := Lib.hid hbn
  have HRQ3 := Lib.hid (HRQ2.out.since hbn)
  have HGN := Lib.hid (HGW.out.keep hbn)
  have HS1 : Hid (Sask w.heap.size q a wn) := ⟨HRQ3.out.cell 1, HRQ3.out.cell 5⟩
  clear hbn HKN
  try go_wp2_with fail
  refine hK.out _ _ HS1.out ?_
  clear hK K
  try simp only [Act.put, List.setIfInBounds_toArray, List.set_cons_zero, List.set_cons_succ]
  refine wpAnyE_step 9 (some 41) (.agg #[.string (st q), .string (st (knd q L1)), .int .i64 a]) (by kernel_rfl) rfl rfl (Or.inl ⟨by rfl, fun w _ => by go_simp⟩) HS1.out ?_
  simp only [Act.put, List.setIfInBounds_toArray, List.set_cons_zero, List.set_cons_succ]
  have HTL := Lib.hid (tell_any B b L1 Q a1 a2 q (knd q L1) a cc wn HGN.out HQ1.out HCC.out)
  refine wpAnyE_oneG 11 (by kernel_rfl) rfl (by rfl) (fun K hK => ?_)
  go_simp
  refine HTL.out.mono ?_
  rintro e w5 ⟨ar, cp, rfl, hrow, hnew, ht⟩
  have HFIN : Hid (AskG 46 63 59 B b v1 v2 L1 (lateL cc (q, knd q L1, a) Q) (told cc (q, knd q L1, a)) w (.returned (.slice ar (told cc (q, knd q L1, a)).length cp)) w5) := ⟨ar, cp, rfl, hrow, (fun p hp => by have h1 := hnew p hp; have h2 := HST1.out.size; have h3 := HB1.out.size; have h4 := HBN.out.size; omega), Turned.trans HST1.out HN1.out ((ht.since HBN.out).since HB1.out)⟩
  have HS5 : Hid (Sask w.heap.size q a w5) := by
    obtain ⟨b1, b2, hg5, hs5, hn5⟩ := ht
    have hr := HRQ3.out.stp hs5 (fun hm => by
      rcases HN1.out _ hm with h | h
      · have := HLT.out _ h; omega
      · have := HNE.out _ hm; exact this rfl)
    exact ⟨hr.cell 1, hr.cell 5⟩
  generalize (told cc (q, knd q L1, a)).length = tn at HFIN ⊢
  clear hrow hnew ht HTL
  try go_wp2_with fail
  refine hK.out _ _ HS5.out ?_
  clear hK K
  try simp only [Act.put, List.setIfInBounds_toArray, List.set_cons_zero, List.set_cons_succ]
  refine wpAnyE_step 12 (some 6) (.slice ar tn cp) (by kernel_rfl) rfl rfl (Or.inl ⟨by rfl, fun w _ => by go_simp⟩) HS5.out ?_
  simp only [Act.put, List.setIfInBounds_toArray, List.set_cons_zero, List.set_cons_succ]
  refine wpAnyE_done (by kernel_rfl) ?_ _
  go_wp2
  go_ret
  exact HFIN.out

/-- Ask, of whatever request -/
theorem ask_any (B b : Nat) (L : List Rc) (Q : List Rp) (v1 v2 : Value) (r : Rq) (ch : Nat) (w : World) (h : GateP 46 63 59 B w b L Q v1 v2) (hl : L.length < 1000000) (hl2 : Q.length ≤ 1000000) (hch : ch ≤ 255) :
    Calls Try.prog 16 #[.pointer (some ⟨b, 0, none⟩), .agg (cRq r).toArray, .int .u8 (ch : Int)] w (AskG 46 63 59 B b v1 v2 (askL r (ch % 8) L) (askQ r (ch % 8) L Q) (askA r (ch % 8) L) w) := by
  obtain ⟨k, q, p, c, m, a⟩ := r
  have off : offB (k, q, p, c, m, a) (ch % 8) = true → (Calls Try.prog 16 #[.pointer (some ⟨b, 0, none⟩), .agg #[.string (st k), .string (st q), .string (st p), .string (st c), .int .i64 m, .int .i64 a], .int .u8 (ch : Int)] w fun e w' => e = .returned (.slice none 0 0) ∧ Below w.heap.size w w') → Calls Try.prog 16 #[.pointer (some ⟨b, 0, none⟩), .agg #[.string (st k), .string (st q), .string (st p), .string (st c), .int .i64 m, .int .i64 a], .int .u8 (ch : Int)] w (AskG 46 63 59 B b v1 v2 (askL (k, q, p, c, m, a) (ch % 8) L) (askQ (k, q, p, c, m, a) (ch % 8) L Q) (askA (k, q, p, c, m, a) (ch % 8) L) w) := fun ho hc => by
    obtain ⟨e1, e2, e3⟩ := ask_off (L := L) (Q := Q) ho
    rw [e1, e2, e3]
    exact hc.mono fun e w' ⟨he, hb⟩ => ⟨none, 0, he, RowG.nil _ _, (fun p hp => by cases hp), Turned.still h hb⟩
  show Calls Try.prog 16 #[.pointer (some ⟨b, 0, none⟩), .agg #[.string (st k), .string (st q), .string (st p), .string (st c), .int .i64 m, .int .i64 a], .int .u8 (ch : Int)] w _
  by_cases h0 : ch % 8 = 0
  · exact off (by unfold offB; rw [h0]; rfl) (ask_zero b k q p c m a ch w hch h0)
  by_cases h1 : k = kPay
  · subst h1
    obtain ⟨e1, e2, e3⟩ := ask_on (r := (kPay, q, p, c, m, a)) (c := ch % 8) (L := L) (Q := Q) (by unfold offB; rw [decide_eq_false h0]; simp)
    rw [e1, e2, e3]
    exact ask_pay B b L Q v1 v2 q p c m a ch (ch % 8) w h hl hl2 hch rfl h0 _ rfl
  by_cases h2 : k = kQuery
  · subst h2
    obtain ⟨e1, e2, e3⟩ := ask_on (r := (kQuery, q, p, c, m, a)) (c := ch % 8) (L := L) (Q := Q) (by unfold offB; rw [decide_eq_false h0]; simp)
    rw [e1, e2, e3]
    exact ask_query B b L Q v1 v2 q p c m a ch (ch % 8) w h hl hl2 hch rfl h0 _ rfl
  · exact off (by unfold offB; simp only; rw [decide_eq_true h1, decide_eq_true h2]; simp) (ask_kind b k q p c m a ch w hch h0 h1 h2)
end Go.Proofs.Ytdahgmkbpiklpaa
