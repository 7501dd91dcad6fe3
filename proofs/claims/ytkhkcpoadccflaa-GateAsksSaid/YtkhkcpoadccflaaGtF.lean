/-
  The document's Ask, one way of three (has).
-/
import Derived.Test.YtkhkcpoadccflaaGtC
import Derived.BigRegion
import Derived.Deep.WholeRow
namespace Go.Proofs.Ytkhkcpoadccflaa
open Go.RowKit Go.Deep Go.Lib

set_option maxHeartbeats 3200000 in
set_option maxRecDepth 100000 in
theorem rask_has1 (B b : Nat) (L : List Rc) (Q : List Rp) (v1 v2 : Value) (q p c : List UInt8) (m a : Int) (ch : Nat) (w : World) (h : GateP 33 52 43 B w b L Q v1 v2) (hl : L.length < 1000000) (hl2 : Q.length ≤ 1000000) (hch : ch ≤ 255) (hm : (ch : Int) % 8 = 1) (hk : hasK q L = true) (L1 : List Rc) (hL1 : L1 = L) :
    Calls Try.prog 11 #[.pointer (some ⟨b, 0, none⟩), .agg #[.string (st kPay), .string (st q), .string (st p), .string (st c), .int .i64 m, .int .i64 a], .int .u8 (ch : Int)] w (AskG 33 52 43 B b v1 v2 L1 Q [(q, knd q L1, a)] w) := by
  have HQ1 := Lib.hid hl2
  have HLT : Hid (∀ k ∈ fpG b v1 v2, k < w.heap.size) := fun k hk => (h.lt k hk).1
  have hb1 : Below w.heap.size w (w.alloc (.cells #[.string (st kPay), .string (st q), .string (st p), .string (st c), .int .i64 m, .int .i64 a] 35)) := (Below.refl _ w).alloc (Nat.le_refl _) _
  have HG := Lib.hid h
  have HRQ : Hid (Blk (w.alloc (.cells #[.string (st kPay), .string (st q), .string (st p), .string (st c), .int .i64 m, .int .i64 a] 35)) w.heap.size 35 #[.string (st kPay), .string (st q), .string (st p), .string (st c), .int .i64 m, .int .i64 a]) := Blk.new w _ _
  have p1 : ((st kPay).toList == [112, 97, 121]) = true := txt_t rfl
  have pk : ((st (knd q L)).toList == [117, 110, 107, 110, 111, 119, 110]) = false := txt_f (fun e => by rw [knd_unk.mp e] at hk; cases hk)
  have HK := Lib.hid (rkind_any B b L Q v1 v2 q _ (h.keep hb1) (Nat.le_of_lt hl))
  subst hL1
  have HGZ := Lib.hid (h.keep hb1)
  have HSTZ : Hid (Stp (fpG b v1 v2) w (w.alloc (.cells #[.string (st kPay), .string (st q), .string (st p), .string (st c), .int .i64 m, .int .i64 a] 35))) := Stp.of_below hb1
  have HNZ : Hid (∀ k ∈ fpG b v1 v2, k ∈ fpG b v1 v2 ∨ w.heap.size ≤ k) := fun k hk => .inl hk
  clear h hl hl2 hb1 hk
  go_enter Try.func11, Try.ntmps11
  go_wp2_with fail
  refine HK.out.mono ?_
  rintro e w2 ⟨rfl, rfl⟩
  clear HK
  try rw [hm]
  generalize w.alloc (.cells #[.string (st kPay), .string (st q), .string (st p), .string (st c), .int .i64 m, .int .i64 a] 35) = wz at HGZ HSTZ HNZ HRQ ⊢
  have HRQZ := HRQ
  obtain ⟨a1, ha1⟩ : ∃ a1, a1 = v1 := ⟨_, rfl⟩
  obtain ⟨a2, ha2⟩ : ∃ a2, a2 = v2 := ⟨_, rfl⟩
  rw [← ha1, ← ha2] at HGZ
  rw [show (∀ k ∈ fpG b v1 v2, k ∈ fpG b v1 v2 ∨ w.heap.size ≤ k) = (∀ k ∈ fpG b a1 a2, k ∈ fpG b v1 v2 ∨ w.heap.size ≤ k) by rw [ha1, ha2]] at HNZ
  clear ha1 ha2 HRQ HG
  have hq0 : wz.cell? ⟨w.heap.size, 0, none⟩ = some (.string (st kPay)) := HRQZ.out.cell 0
  have hq1 : wz.cell? ⟨w.heap.size, 1, none⟩ = some (.string (st q)) := HRQZ.out.cell 1
  have hq5 : wz.cell? ⟨w.heap.size, 5, none⟩ = some (.int .i64 a) := HRQZ.out.cell 5
  have HBA : Hid (∀ c t c' t', Below wz.heap.size wz (wz.alloc (.cells c t)) ∧ Below wz.heap.size wz ((wz.alloc (.cells c t)).alloc (.cells c' t'))) := fun c t c' t' => ⟨(Below.refl _ wz).alloc (Nat.le_refl _) _, ((Below.refl _ wz).alloc (Nat.le_refl _) _).alloc (by simp) _⟩
  go_wp2
  go_ret
  exact ⟨_, _, rfl, row_one rfl (by simp), (fun p hp => by injection hp with hp; rw [← hp]; have := HSTZ.out.size; simp; omega), Turned.trans HSTZ.out HNZ.out (Turned.still HGZ.out (HBA.out _ _ _ _).2)⟩

set_option maxHeartbeats 3200000 in
set_option maxRecDepth 100000 in
theorem rask_has2 (B b : Nat) (L : List Rc) (Q : List Rp) (v1 v2 : Value) (q p c : List UInt8) (m a : Int) (ch : Nat) (w : World) (h : GateP 33 52 43 B w b L Q v1 v2) (hl : L.length < 1000000) (hl2 : Q.length ≤ 1000000) (hch : ch ≤ 255) (hm : (ch : Int) % 8 = 2) (hk : hasK q L = true) (L1 : List Rc) (hL1 : L1 = L) :
    Calls Try.prog 11 #[.pointer (some ⟨b, 0, none⟩), .agg #[.string (st kPay), .string (st q), .string (st p), .string (st c), .int .i64 m, .int .i64 a], .int .u8 (ch : Int)] w (AskG 33 52 43 B b v1 v2 L1 Q [] w) := by
  have HQ1 := Lib.hid hl2
  have HLT : Hid (∀ k ∈ fpG b v1 v2, k < w.heap.size) := fun k hk => (h.lt k hk).1
  have hb1 : Below w.heap.size w (w.alloc (.cells #[.string (st kPay), .string (st q), .string (st p), .string (st c), .int .i64 m, .int .i64 a] 35)) := (Below.refl _ w).alloc (Nat.le_refl _) _
  have HG := Lib.hid h
  have HRQ : Hid (Blk (w.alloc (.cells #[.string (st kPay), .string (st q), .string (st p), .string (st c), .int .i64 m, .int .i64 a] 35)) w.heap.size 35 #[.string (st kPay), .string (st q), .string (st p), .string (st c), .int .i64 m, .int .i64 a]) := Blk.new w _ _
  have p1 : ((st kPay).toList == [112, 97, 121]) = true := txt_t rfl
  have pk : ((st (knd q L)).toList == [117, 110, 107, 110, 111, 119, 110]) = false := txt_f (fun e => by rw [knd_unk.mp e] at hk; cases hk)
  have HK := Lib.hid (rkind_any B b L Q v1 v2 q _ (h.keep hb1) (Nat.le_of_lt hl))
  subst hL1
  have HGZ := Lib.hid (h.keep hb1)
  have HSTZ : Hid (Stp (fpG b v1 v2) w (w.alloc (.cells #[.string (st kPay), .string (st q), .string (st p), .string (st c), .int .i64 m, .int .i64 a] 35))) := Stp.of_below hb1
  have HNZ : Hid (∀ k ∈ fpG b v1 v2, k ∈ fpG b v1 v2 ∨ w.heap.size ≤ k) := fun k hk => .inl hk
  clear h hl hl2 hb1 hk
  go_enter Try.func11, Try.ntmps11
  go_wp2_with fail
  refine HK.out.mono ?_
  rintro e w2 ⟨rfl, rfl⟩
  clear HK
  try rw [hm]
  generalize w.alloc (.cells #[.string (st kPay), .string (st q), .string (st p), .string (st c), .int .i64 m, .int .i64 a] 35) = wz at HGZ HSTZ HNZ HRQ ⊢
  have HRQZ := HRQ
  obtain ⟨a1, ha1⟩ : ∃ a1, a1 = v1 := ⟨_, rfl⟩
  obtain ⟨a2, ha2⟩ : ∃ a2, a2 = v2 := ⟨_, rfl⟩
  rw [← ha1, ← ha2] at HGZ
  rw [show (∀ k ∈ fpG b v1 v2, k ∈ fpG b v1 v2 ∨ w.heap.size ≤ k) = (∀ k ∈ fpG b a1 a2, k ∈ fpG b v1 v2 ∨ w.heap.size ≤ k) by rw [ha1, ha2]] at HNZ
  clear ha1 ha2 HRQ HG
  have hq0 : wz.cell? ⟨w.heap.size, 0, none⟩ = some (.string (st kPay)) := HRQZ.out.cell 0
  have hq1 : wz.cell? ⟨w.heap.size, 1, none⟩ = some (.string (st q)) := HRQZ.out.cell 1
  have hq5 : wz.cell? ⟨w.heap.size, 5, none⟩ = some (.int .i64 a) := HRQZ.out.cell 5
  have HBA : Hid (∀ c t c' t', Below wz.heap.size wz (wz.alloc (.cells c t)) ∧ Below wz.heap.size wz ((wz.alloc (.cells c t)).alloc (.cells c' t'))) := fun c t c' t' => ⟨(Below.refl _ wz).alloc (Nat.le_refl _) _, ((Below.refl _ wz).alloc (Nat.le_refl _) _).alloc (by simp) _⟩
  go_wp2
  go_ret
  exact ⟨_, _, rfl, RowG.nil _ _, (fun p hp => by cases hp), Turned.trans HSTZ.out HNZ.out (Turned.still HGZ.out (HBA.out _ 43 #[] 43).1)⟩

set_option maxHeartbeats 3200000 in
set_option maxRecDepth 100000 in
theorem rask_has3 (B b : Nat) (L : List Rc) (Q : List Rp) (v1 v2 : Value) (q p c : List UInt8) (m a : Int) (ch : Nat) (w : World) (h : GateP 33 52 43 B w b L Q v1 v2) (hl : L.length < 1000000) (hl2 : Q.length ≤ 1000000) (hch : ch ≤ 255) (hm : (ch : Int) % 8 = 3) (hk : hasK q L = true) (L1 : List Rc) (hL1 : L1 = L) :
    Calls Try.prog 11 #[.pointer (some ⟨b, 0, none⟩), .agg #[.string (st kPay), .string (st q), .string (st p), .string (st c), .int .i64 m, .int .i64 a], .int .u8 (ch : Int)] w (AskG 33 52 43 B b v1 v2 L1 Q [(q, knd q L1, a)] w) := by
  have HQ1 := Lib.hid hl2
  have HLT : Hid (∀ k ∈ fpG b v1 v2, k < w.heap.size) := fun k hk => (h.lt k hk).1
  have hb1 : Below w.heap.size w (w.alloc (.cells #[.string (st kPay), .string (st q), .string (st p), .string (st c), .int .i64 m, .int .i64 a] 35)) := (Below.refl _ w).alloc (Nat.le_refl _) _
  have HG := Lib.hid h
  have HRQ : Hid (Blk (w.alloc (.cells #[.string (st kPay), .string (st q), .string (st p), .string (st c), .int .i64 m, .int .i64 a] 35)) w.heap.size 35 #[.string (st kPay), .string (st q), .string (st p), .string (st c), .int .i64 m, .int .i64 a]) := Blk.new w _ _
  have p1 : ((st kPay).toList == [112, 97, 121]) = true := txt_t rfl
  have pk : ((st (knd q L)).toList == [117, 110, 107, 110, 111, 119, 110]) = false := txt_f (fun e => by rw [knd_unk.mp e] at hk; cases hk)
  have HK := Lib.hid (rkind_any B b L Q v1 v2 q _ (h.keep hb1) (Nat.le_of_lt hl))
  subst hL1
  have HGZ := Lib.hid (h.keep hb1)
  have HSTZ : Hid (Stp (fpG b v1 v2) w (w.alloc (.cells #[.string (st kPay), .string (st q), .string (st p), .string (st c), .int .i64 m, .int .i64 a] 35))) := Stp.of_below hb1
  have HNZ : Hid (∀ k ∈ fpG b v1 v2, k ∈ fpG b v1 v2 ∨ w.heap.size ≤ k) := fun k hk => .inl hk
  clear h hl hl2 hb1 hk
  go_enter Try.func11, Try.ntmps11
  go_wp2_with fail
  refine HK.out.mono ?_
  rintro e w2 ⟨rfl, rfl⟩
  clear HK
  try rw [hm]
  generalize w.alloc (.cells #[.string (st kPay), .string (st q), .string (st p), .string (st c), .int .i64 m, .int .i64 a] 35) = wz at HGZ HSTZ HNZ HRQ ⊢
  have HRQZ := HRQ
  obtain ⟨a1, ha1⟩ : ∃ a1, a1 = v1 := ⟨_, rfl⟩
  obtain ⟨a2, ha2⟩ : ∃ a2, a2 = v2 := ⟨_, rfl⟩
  rw [← ha1, ← ha2] at HGZ
  rw [show (∀ k ∈ fpG b v1 v2, k ∈ fpG b v1 v2 ∨ w.heap.size ≤ k) = (∀ k ∈ fpG b a1 a2, k ∈ fpG b v1 v2 ∨ w.heap.size ≤ k) by rw [ha1, ha2]] at HNZ
  clear ha1 ha2 HRQ HG
  have hq0 : wz.cell? ⟨w.heap.size, 0, none⟩ = some (.string (st kPay)) := HRQZ.out.cell 0
  have hq1 : wz.cell? ⟨w.heap.size, 1, none⟩ = some (.string (st q)) := HRQZ.out.cell 1
  have hq5 : wz.cell? ⟨w.heap.size, 5, none⟩ = some (.int .i64 a) := HRQZ.out.cell 5
  have HBA : Hid (∀ c t c' t', Below wz.heap.size wz (wz.alloc (.cells c t)) ∧ Below wz.heap.size wz ((wz.alloc (.cells c t)).alloc (.cells c' t'))) := fun c t c' t' => ⟨(Below.refl _ wz).alloc (Nat.le_refl _) _, ((Below.refl _ wz).alloc (Nat.le_refl _) _).alloc (by simp) _⟩
  go_wp2
  go_ret
  exact ⟨_, _, rfl, row_one rfl (by simp), (fun p hp => by injection hp with hp; rw [← hp]; have := HSTZ.out.size; simp; omega), Turned.trans HSTZ.out HNZ.out (Turned.still HGZ.out (HBA.out _ _ _ _).2)⟩

set_option maxHeartbeats 3200000 in
set_option maxRecDepth 100000 in
theorem rask_has4 (B b : Nat) (L : List Rc) (Q : List Rp) (v1 v2 : Value) (q p c : List UInt8) (m a : Int) (ch : Nat) (w : World) (h : GateP 33 52 43 B w b L Q v1 v2) (hl : L.length < 1000000) (hl2 : Q.length ≤ 1000000) (hch : ch ≤ 255) (hm : (ch : Int) % 8 = 4) (hk : hasK q L = true) (L1 : List Rc) (hL1 : L1 = L) :
    Calls Try.prog 11 #[.pointer (some ⟨b, 0, none⟩), .agg #[.string (st kPay), .string (st q), .string (st p), .string (st c), .int .i64 m, .int .i64 a], .int .u8 (ch : Int)] w (AskG 33 52 43 B b v1 v2 L1 Q [] w) := by
  have HQ1 := Lib.hid hl2
  have HLT : Hid (∀ k ∈ fpG b v1 v2, k < w.heap.size) := fun k hk => (h.lt k hk).1
  have hb1 : Below w.heap.size w (w.alloc (.cells #[.string (st kPay), .string (st q), .string (st p), .string (st c), .int .i64 m, .int .i64 a] 35)) := (Below.refl _ w).alloc (Nat.le_refl _) _
  have HG := Lib.hid h
  have HRQ : Hid (Blk (w.alloc (.cells #[.string (st kPay), .string (st q), .string (st p), .string (st c), .int .i64 m, .int .i64 a] 35)) w.heap.size 35 #[.string (st kPay), .string (st q), .string (st p), .string (st c), .int .i64 m, .int .i64 a]) := Blk.new w _ _
  have p1 : ((st kPay).toList == [112, 97, 121]) = true := txt_t rfl
  have pk : ((st (knd q L)).toList == [117, 110, 107, 110, 111, 119, 110]) = false := txt_f (fun e => by rw [knd_unk.mp e] at hk; cases hk)
  have HK := Lib.hid (rkind_any B b L Q v1 v2 q _ (h.keep hb1) (Nat.le_of_lt hl))
  subst hL1
  have HGZ := Lib.hid (h.keep hb1)
  have HSTZ : Hid (Stp (fpG b v1 v2) w (w.alloc (.cells #[.string (st kPay), .string (st q), .string (st p), .string (st c), .int .i64 m, .int .i64 a] 35))) := Stp.of_below hb1
  have HNZ : Hid (∀ k ∈ fpG b v1 v2, k ∈ fpG b v1 v2 ∨ w.heap.size ≤ k) := fun k hk => .inl hk
  clear h hl hl2 hb1 hk
  go_enter Try.func11, Try.ntmps11
  go_wp2_with fail
  refine HK.out.mono ?_
  rintro e w2 ⟨rfl, rfl⟩
  clear HK
  try rw [hm]
  generalize w.alloc (.cells #[.string (st kPay), .string (st q), .string (st p), .string (st c), .int .i64 m, .int .i64 a] 35) = wz at HGZ HSTZ HNZ HRQ ⊢
  have HRQZ := HRQ
  obtain ⟨a1, ha1⟩ : ∃ a1, a1 = v1 := ⟨_, rfl⟩
  obtain ⟨a2, ha2⟩ : ∃ a2, a2 = v2 := ⟨_, rfl⟩
  rw [← ha1, ← ha2] at HGZ
  rw [show (∀ k ∈ fpG b v1 v2, k ∈ fpG b v1 v2 ∨ w.heap.size ≤ k) = (∀ k ∈ fpG b a1 a2, k ∈ fpG b v1 v2 ∨ w.heap.size ≤ k) by rw [ha1, ha2]] at HNZ
  clear ha1 ha2 HRQ HG
  have hq0 : wz.cell? ⟨w.heap.size, 0, none⟩ = some (.string (st kPay)) := HRQZ.out.cell 0
  have hq1 : wz.cell? ⟨w.heap.size, 1, none⟩ = some (.string (st q)) := HRQZ.out.cell 1
  have hq5 : wz.cell? ⟨w.heap.size, 5, none⟩ = some (.int .i64 a) := HRQZ.out.cell 5
  have HBA : Hid (∀ c t c' t', Below wz.heap.size wz (wz.alloc (.cells c t)) ∧ Below wz.heap.size wz ((wz.alloc (.cells c t)).alloc (.cells c' t'))) := fun c t c' t' => ⟨(Below.refl _ wz).alloc (Nat.le_refl _) _, ((Below.refl _ wz).alloc (Nat.le_refl _) _).alloc (by simp) _⟩
  go_wp2
  go_ret
  exact ⟨_, _, rfl, RowG.nil _ _, (fun p hp => by cases hp), Turned.trans HSTZ.out HNZ.out (Turned.still HGZ.out (HBA.out _ 43 #[] 43).1)⟩

set_option maxHeartbeats 3200000 in
set_option maxRecDepth 100000 in
theorem rask_has5 (B b : Nat) (L : List Rc) (Q : List Rp) (v1 v2 : Value) (q p c : List UInt8) (m a : Int) (ch : Nat) (w : World) (h : GateP 33 52 43 B w b L Q v1 v2) (hl : L.length < 1000000) (hl2 : Q.length ≤ 1000000) (hch : ch ≤ 255) (hm : (ch : Int) % 8 = 5) (hk : hasK q L = true) (L1 : List Rc) (hL1 : L1 = L) :
    Calls Try.prog 11 #[.pointer (some ⟨b, 0, none⟩), .agg #[.string (st kPay), .string (st q), .string (st p), .string (st c), .int .i64 m, .int .i64 a], .int .u8 (ch : Int)] w (AskG 33 52 43 B b v1 v2 L1 Q [(q, knd q L1, a), (q, knd q L1, a)] w) := by
  have HQ1 := Lib.hid hl2
  have HLT : Hid (∀ k ∈ fpG b v1 v2, k < w.heap.size) := fun k hk => (h.lt k hk).1
  have hb1 : Below w.heap.size w (w.alloc (.cells #[.string (st kPay), .string (st q), .string (st p), .string (st c), .int .i64 m, .int .i64 a] 35)) := (Below.refl _ w).alloc (Nat.le_refl _) _
  have HG := Lib.hid h
  have HRQ : Hid (Blk (w.alloc (.cells #[.string (st kPay), .string (st q), .string (st p), .string (st c), .int .i64 m, .int .i64 a] 35)) w.heap.size 35 #[.string (st kPay), .string (st q), .string (st p), .string (st c), .int .i64 m, .int .i64 a]) := Blk.new w _ _
  have p1 : ((st kPay).toList == [112, 97, 121]) = true := txt_t rfl
  have pk : ((st (knd q L)).toList == [117, 110, 107, 110, 111, 119, 110]) = false := txt_f (fun e => by rw [knd_unk.mp e] at hk; cases hk)
  have HK := Lib.hid (rkind_any B b L Q v1 v2 q _ (h.keep hb1) (Nat.le_of_lt hl))
  subst hL1
  have HGZ := Lib.hid (h.keep hb1)
  have HSTZ : Hid (Stp (fpG b v1 v2) w (w.alloc (.cells #[.string (st kPay), .string (st q), .string (st p), .string (st c), .int .i64 m, .int .i64 a] 35))) := Stp.of_below hb1
  have HNZ : Hid (∀ k ∈ fpG b v1 v2, k ∈ fpG b v1 v2 ∨ w.heap.size ≤ k) := fun k hk => .inl hk
  clear h hl hl2 hb1 hk
  go_enter Try.func11, Try.ntmps11
  go_wp2_with fail
  refine HK.out.mono ?_
  rintro e w2 ⟨rfl, rfl⟩
  clear HK
  try rw [hm]
  generalize w.alloc (.cells #[.string (st kPay), .string (st q), .string (st p), .string (st c), .int .i64 m, .int .i64 a] 35) = wz at HGZ HSTZ HNZ HRQ ⊢
  have HRQZ := HRQ
  obtain ⟨a1, ha1⟩ : ∃ a1, a1 = v1 := ⟨_, rfl⟩
  obtain ⟨a2, ha2⟩ : ∃ a2, a2 = v2 := ⟨_, rfl⟩
  rw [← ha1, ← ha2] at HGZ
  rw [show (∀ k ∈ fpG b v1 v2, k ∈ fpG b v1 v2 ∨ w.heap.size ≤ k) = (∀ k ∈ fpG b a1 a2, k ∈ fpG b v1 v2 ∨ w.heap.size ≤ k) by rw [ha1, ha2]] at HNZ
  clear ha1 ha2 HRQ HG
  have hq0 : wz.cell? ⟨w.heap.size, 0, none⟩ = some (.string (st kPay)) := HRQZ.out.cell 0
  have hq1 : wz.cell? ⟨w.heap.size, 1, none⟩ = some (.string (st q)) := HRQZ.out.cell 1
  have hq5 : wz.cell? ⟨w.heap.size, 5, none⟩ = some (.int .i64 a) := HRQZ.out.cell 5
  have HBA : Hid (∀ c t c' t', Below wz.heap.size wz (wz.alloc (.cells c t)) ∧ Below wz.heap.size wz ((wz.alloc (.cells c t)).alloc (.cells c' t'))) := fun c t c' t' => ⟨(Below.refl _ wz).alloc (Nat.le_refl _) _, ((Below.refl _ wz).alloc (Nat.le_refl _) _).alloc (by simp) _⟩
  go_wp2
  go_ret
  exact ⟨_, _, rfl, row_two16 rfl (by simp), (fun p hp => by injection hp with hp; rw [← hp]; have := HSTZ.out.size; simp; omega), Turned.trans HSTZ.out HNZ.out (Turned.still HGZ.out (HBA.out _ _ _ _).2)⟩

set_option maxHeartbeats 3200000 in
set_option maxRecDepth 100000 in
theorem rask_has6 (B b : Nat) (L : List Rc) (Q : List Rp) (v1 v2 : Value) (q p c : List UInt8) (m a : Int) (ch : Nat) (w : World) (h : GateP 33 52 43 B w b L Q v1 v2) (hl : L.length < 1000000) (hl2 : Q.length ≤ 1000000) (hch : ch ≤ 255) (hm : (ch : Int) % 8 = 6) (hk : hasK q L = true) (L1 : List Rc) (hL1 : L1 = L) :
    Calls Try.prog 11 #[.pointer (some ⟨b, 0, none⟩), .agg #[.string (st kPay), .string (st q), .string (st p), .string (st c), .int .i64 m, .int .i64 a], .int .u8 (ch : Int)] w (AskG 33 52 43 B b v1 v2 L1 (Q ++ [(q, knd q L1, a)]) [] w) := by
  have HQ1 := Lib.hid hl2
  have HLT : Hid (∀ k ∈ fpG b v1 v2, k < w.heap.size) := fun k hk => (h.lt k hk).1
  have hb1 : Below w.heap.size w (w.alloc (.cells #[.string (st kPay), .string (st q), .string (st p), .string (st c), .int .i64 m, .int .i64 a] 35)) := (Below.refl _ w).alloc (Nat.le_refl _) _
  have HG := Lib.hid h
  have HRQ : Hid (Blk (w.alloc (.cells #[.string (st kPay), .string (st q), .string (st p), .string (st c), .int .i64 m, .int .i64 a] 35)) w.heap.size 35 #[.string (st kPay), .string (st q), .string (st p), .string (st c), .int .i64 m, .int .i64 a]) := Blk.new w _ _
  have p1 : ((st kPay).toList == [112, 97, 121]) = true := txt_t rfl
  have pk : ((st (knd q L)).toList == [117, 110, 107, 110, 111, 119, 110]) = false := txt_f (fun e => by rw [knd_unk.mp e] at hk; cases hk)
  have HK := Lib.hid (rkind_any B b L Q v1 v2 q _ (h.keep hb1) (Nat.le_of_lt hl))
  subst hL1
  have HGZ := Lib.hid (h.keep hb1)
  have HSTZ : Hid (Stp (fpG b v1 v2) w (w.alloc (.cells #[.string (st kPay), .string (st q), .string (st p), .string (st c), .int .i64 m, .int .i64 a] 35))) := Stp.of_below hb1
  have HNZ : Hid (∀ k ∈ fpG b v1 v2, k ∈ fpG b v1 v2 ∨ w.heap.size ≤ k) := fun k hk => .inl hk
  clear h hl hl2 hb1 hk
  go_enter Try.func11, Try.ntmps11
  go_wp2_with fail
  refine HK.out.mono ?_
  rintro e w2 ⟨rfl, rfl⟩
  clear HK
  try rw [hm]
  generalize w.alloc (.cells #[.string (st kPay), .string (st q), .string (st p), .string (st c), .int .i64 m, .int .i64 a] 35) = wz at HGZ HSTZ HNZ HRQ ⊢
  have HRQZ := HRQ
  obtain ⟨a1, ha1⟩ : ∃ a1, a1 = v1 := ⟨_, rfl⟩
  obtain ⟨a2, ha2⟩ : ∃ a2, a2 = v2 := ⟨_, rfl⟩
  rw [← ha1, ← ha2] at HGZ
  rw [show (∀ k ∈ fpG b v1 v2, k ∈ fpG b v1 v2 ∨ w.heap.size ≤ k) = (∀ k ∈ fpG b a1 a2, k ∈ fpG b v1 v2 ∨ w.heap.size ≤ k) by rw [ha1, ha2]] at HNZ
  clear ha1 ha2 HRQ HG
  have hq0 : wz.cell? ⟨w.heap.size, 0, none⟩ = some (.string (st kPay)) := HRQZ.out.cell 0
  have hq1 : wz.cell? ⟨w.heap.size, 1, none⟩ = some (.string (st q)) := HRQZ.out.cell 1
  have hq5 : wz.cell? ⟨w.heap.size, 5, none⟩ = some (.int .i64 a) := HRQZ.out.cell 5
  have HBA : Hid (∀ c t c' t', Below wz.heap.size wz (wz.alloc (.cells c t)) ∧ Below wz.heap.size wz ((wz.alloc (.cells c t)).alloc (.cells c' t'))) := fun c t c' t' => ⟨(Below.refl _ wz).alloc (Nat.le_refl _) _, ((Below.refl _ wz).alloc (Nat.le_refl _) _).alloc (by simp) _⟩
  have HB2 : Hid (Below wz.heap.size wz (wz.alloc (.cells #[.string (st q), .string (st (knd q L1)), .int .i64 a] 43)).drew) := ((Below.refl _ wz).alloc (Nat.le_refl _) _).drew
  have HRQ2 : Hid (Blk (wz.alloc (.cells #[.string (st q), .string (st (knd q L1)), .int .i64 a] 43)).drew wz.heap.size 43 #[.string (st q), .string (st (knd q L1)), .int .i64 a]) := Blk.new wz _ _
  have HI2 : Hid ((Try.prog.info? 43).map (·.size) = some [Value.string (st q), .string (st (knd q L1)), .int .i64 a].length) := (info_zero infoRRp).2.1
  go_wp2_with fail
  refine wp_region_E (Stel b wz.heap.size a2 q (knd q L1) a) [10] (by kernel_rfl) ?_
  generalize (wz.alloc (.cells #[.string (st q), .string (st (knd q L1)), .int .i64 a] 43)).drew = W at HB2 HRQ2 ⊢
  have HGW := Lib.hid (HGZ.out.keep HB2.out)
  have HS0 : Hid (Stel b wz.heap.size a2 q (knd q L1) a W) := ⟨HGW.out.cell1, range3 HRQ2.out⟩
  refine wpAnyE_take 0 (some 87) (.pointer (some ⟨b, 0, none⟩)) rfl rfl (by kernel_rfl) (by kernel_rfl) (by kernel_rfl) (by kernel_rfl) (fun _ _ _ h => h) (yields_move rfl _ rfl _ rfl) HS0.out ?_
  simp only [Act.put, List.setIfInBounds_toArray, List.set_cons_zero, List.set_cons_succ]
  refine wpAnyE_take 1 (some 88) (.pointer (some ⟨b, 0, none⟩)) rfl rfl (by kernel_rfl) (by kernel_rfl) (by kernel_rfl) (by kernel_rfl) (fun _ _ _ h => h) (yields_move rfl _ rfl _ rfl) HS0.out ?_
  simp only [Act.put, List.setIfInBounds_toArray, List.set_cons_zero, List.set_cons_succ]
  refine wpAnyE_take 2 (some 89) (.pointer (some ⟨b, 0, none⟩)) rfl rfl (by kernel_rfl) (by kernel_rfl) (by kernel_rfl) (by kernel_rfl) (fun _ _ _ h => h) (yields_nilCheck rfl _ rfl _ rfl) HS0.out ?_
  simp only [Act.put, List.setIfInBounds_toArray, List.set_cons_zero, List.set_cons_succ]
  refine wpAnyE_take 3 (some 90) (.pointer (some ⟨b, 1, none⟩)) rfl rfl (by kernel_rfl) (by kernel_rfl) (by kernel_rfl) (by kernel_rfl) (fun _ _ _ h => h) (Or.inl ⟨by rfl, fun w _ => by go_simp⟩) HS0.out ?_
  simp only [Act.put, List.setIfInBounds_toArray, List.set_cons_zero, List.set_cons_succ]
  refine wpAnyE_take 4 (some 91) (a2) rfl rfl (by kernel_rfl) (by kernel_rfl) (by kernel_rfl) (by kernel_rfl) (fun _ _ _ h => h) (yields_load rfl 31 _ rfl Try.underlying31 rfl _ rfl _ (fun w h => h.1)) HS0.out ?_
  simp only [Act.put, List.setIfInBounds_toArray, List.set_cons_zero, List.set_cons_succ]
  refine wpAnyE_take 5 (some 92) (.agg #[.string (st q), .string (st (knd q L1)), .int .i64 a]) rfl rfl (by kernel_rfl) (by kernel_rfl) (by kernel_rfl) (by kernel_rfl) (fun _ _ _ h => h) (yieldsIf_load_mid rfl 43 _ rfl wz.heap.size 0 rfl _ _ (fun w h => h.2) Try.underlying43 rfl HI2.out) HS0.out ?_
  simp only [Act.put, List.setIfInBounds_toArray, List.set_cons_zero, List.set_cons_succ]
  refine wpAnyE_one (i := 6) (by kernel_rfl) rfl rfl ?_
  refine wp_buildSlice_one (some 93) rfl 31 43 _ rfl _ 3 40 Try.underlying31 infoRRp (by omega) (by omega) #[.string (st q), .string (st (knd q L1)), .int .i64 a] rfl rfl ?_
  simp only [Act.put, List.setIfInBounds_toArray, List.set_cons_zero, List.set_cons_succ]
  have HB3 : Hid (Below W.heap.size W (W.alloc (.cells #[.string (st q), .string (st (knd q L1)), .int .i64 a] 43))) := (Below.refl _ W).alloc (Nat.le_refl _) _
  have HBN : Hid (Blk (W.alloc (.cells #[.string (st q), .string (st (knd q L1)), .int .i64 a] 43)) W.heap.size 43 #[.string (st q), .string (st (knd q L1)), .int .i64 a]) := Blk.new W _ _
  generalize W.alloc (.cells #[.string (st q), .string (st (knd q L1)), .int .i64 a] 43) = W2 at HB3 HBN ⊢
  have HG2 := Lib.hid (HGW.out.keep HB3.out)
  have HRQ3 := Lib.hid (HRQ2.out.since HB3.out)
  refine ⟨⟨HG2.out.cell1, range3 HRQ3.out⟩, ?_⟩
  refine wpAnyE_one (i := 7) (by kernel_rfl) rfl rfl ?_
  refine wp_append_wide (some 94) rfl (.tmp 91) (.tmp 93) 31 43 rfl B _ 3 40 Try.underlying31 infoRRp rfl (by omega) a2 Q.length _ rfl W.heap.size 1 rfl HG2.out.two _ HBN.out rfl (rp_one3 q (knd q L1) a) (by have := HQ1.out; unfold maxLen; omega) (by have := HQ1.out; omega) (Nat.le_trans HG2.out.hb (Nat.le_of_lt HG2.out.box.lt)) ?_
  intro v' W3 hown3 hgr3 hat3
  simp only [Act.put, List.setIfInBounds_toArray, List.set_cons_zero, List.set_cons_succ]
  have HG4 : Hid (GateP 33 52 43 B (W3.setCell ⟨b, 1, none⟩ v') b L1 (Q ++ [(q, knd q L1, a)]) a1 v' ∧ Stp (fpG b a1 a2) W2 (W3.setCell ⟨b, 1, none⟩ v') ∧ ∀ k ∈ fpG b a1 v', k ∈ fpG b a1 a2 ∨ W2.heap.size ≤ k) := HG2.out.grow2 (x := (q, knd q L1, a)) hgr3 hown3 hat3
  have HX3 := Lib.hid (HG2.out.box.kept hgr3 (fun e => HG2.out.ne2 _ e.symm rfl))
  have HRQ4 := Lib.hid (HRQ3.out.kept hgr3 (fun e => by have := (HGZ.out.lt _ (mem_fpG.2 (.inr (.inr e.symm)))).1; omega))
  obtain ⟨va, vc, hvv⟩ := own_sliceG hown3
  clear hgr3 hown3 hat3
  have HS3 : Hid (Stel b wz.heap.size a2 q (knd q L1) a W3) := ⟨HX3.out.cell 1, range3 HRQ4.out⟩
  refine ⟨HS3.out, ?_⟩
  refine wpAnyE_step 8 (some 95) (.pointer (some ⟨b, 0, none⟩)) (by kernel_rfl) rfl rfl (yields_nilCheck rfl _ rfl _ rfl) HS3.out ?_
  simp only [Act.put, List.setIfInBounds_toArray, List.set_cons_zero, List.set_cons_succ]
  refine wpAnyE_step 9 (some 96) (.pointer (some ⟨b, 1, none⟩)) (by kernel_rfl) rfl rfl (Or.inl ⟨by rfl, fun w _ => by go_simp⟩) HS3.out ?_
  simp only [Act.put, List.setIfInBounds_toArray, List.set_cons_zero, List.set_cons_succ]
  refine wpAnyE_end (i := 10) (by kernel_rfl) rfl rfl rfl ?_
  refine wp_store_one none rfl 31 _ _ rfl (by kernel_rfl) ⟨b, 1, none⟩ rfl v' a2 rfl (by rw [hvv]; rfl) (HX3.out.cell 1) (HX3.out.frozen 1) ?_
  simp only [Act.put]
  refine wpAnyE_done (by kernel_rfl) ?_ _
  have HFIN : Hid (Turned 33 52 43 B b v1 v2 L1 (Q ++ [(q, knd q L1, a)]) w (W3.setCell ⟨b, 1, none⟩ v')) :=
    Turned.trans HSTZ.out HNZ.out (Turned.since (Turned.since ⟨a1, v', HG4.out.1, HG4.out.2.1, HG4.out.2.2⟩ HB3.out) HB2.out)
  generalize W3.setCell ⟨b, 1, none⟩ v' = W4 at HFIN ⊢
  clear HS3 HX3 HRQ4 HG4 HG2 HRQ3 HB3 HBN hvv
  go_wp2
  go_ret
  exact ⟨_, _, rfl, RowG.nil _ _, (fun p hp => by cases hp), HFIN.out⟩

set_option maxHeartbeats 3200000 in
set_option maxRecDepth 100000 in
theorem rask_has7 (B b : Nat) (L : List Rc) (Q : List Rp) (v1 v2 : Value) (q p c : List UInt8) (m a : Int) (ch : Nat) (w : World) (h : GateP 33 52 43 B w b L Q v1 v2) (hl : L.length < 1000000) (hl2 : Q.length ≤ 1000000) (hch : ch ≤ 255) (hm : (ch : Int) % 8 = 7) (hk : hasK q L = true) (L1 : List Rc) (hL1 : L1 = L) :
    Calls Try.prog 11 #[.pointer (some ⟨b, 0, none⟩), .agg #[.string (st kPay), .string (st q), .string (st p), .string (st c), .int .i64 m, .int .i64 a], .int .u8 (ch : Int)] w (AskG 33 52 43 B b v1 v2 L1 (Q ++ [(q, knd q L1, a)]) [] w) := by
  have HQ1 := Lib.hid hl2
  have HLT : Hid (∀ k ∈ fpG b v1 v2, k < w.heap.size) := fun k hk => (h.lt k hk).1
  have hb1 : Below w.heap.size w (w.alloc (.cells #[.string (st kPay), .string (st q), .string (st p), .string (st c), .int .i64 m, .int .i64 a] 35)) := (Below.refl _ w).alloc (Nat.le_refl _) _
  have HG := Lib.hid h
  have HRQ : Hid (Blk (w.alloc (.cells #[.string (st kPay), .string (st q), .string (st p), .string (st c), .int .i64 m, .int .i64 a] 35)) w.heap.size 35 #[.string (st kPay), .string (st q), .string (st p), .string (st c), .int .i64 m, .int .i64 a]) := Blk.new w _ _
  have p1 : ((st kPay).toList == [112, 97, 121]) = true := txt_t rfl
  have pk : ((st (knd q L)).toList == [117, 110, 107, 110, 111, 119, 110]) = false := txt_f (fun e => by rw [knd_unk.mp e] at hk; cases hk)
  have HK := Lib.hid (rkind_any B b L Q v1 v2 q _ (h.keep hb1) (Nat.le_of_lt hl))
  subst hL1
  have HGZ := Lib.hid (h.keep hb1)
  have HSTZ : Hid (Stp (fpG b v1 v2) w (w.alloc (.cells #[.string (st kPay), .string (st q), .string (st p), .string (st c), .int .i64 m, .int .i64 a] 35))) := Stp.of_below hb1
  have HNZ : Hid (∀ k ∈ fpG b v1 v2, k ∈ fpG b v1 v2 ∨ w.heap.size ≤ k) := fun k hk => .inl hk
  clear h hl hl2 hb1 hk
  go_enter Try.func11, Try.ntmps11
  go_wp2_with fail
  refine HK.out.mono ?_
  rintro e w2 ⟨rfl, rfl⟩
  clear HK
  try rw [hm]
  generalize w.alloc (.cells #[.string (st kPay), .string (st q), .string (st p), .string (st c), .int .i64 m, .int .i64 a] 35) = wz at HGZ HSTZ HNZ HRQ ⊢
  have HRQZ := HRQ
  obtain ⟨a1, ha1⟩ : ∃ a1, a1 = v1 := ⟨_, rfl⟩
  obtain ⟨a2, ha2⟩ : ∃ a2, a2 = v2 := ⟨_, rfl⟩
  rw [← ha1, ← ha2] at HGZ
  rw [show (∀ k ∈ fpG b v1 v2, k ∈ fpG b v1 v2 ∨ w.heap.size ≤ k) = (∀ k ∈ fpG b a1 a2, k ∈ fpG b v1 v2 ∨ w.heap.size ≤ k) by rw [ha1, ha2]] at HNZ
  clear ha1 ha2 HRQ HG
  have hq0 : wz.cell? ⟨w.heap.size, 0, none⟩ = some (.string (st kPay)) := HRQZ.out.cell 0
  have hq1 : wz.cell? ⟨w.heap.size, 1, none⟩ = some (.string (st q)) := HRQZ.out.cell 1
  have hq5 : wz.cell? ⟨w.heap.size, 5, none⟩ = some (.int .i64 a) := HRQZ.out.cell 5
  have HBA : Hid (∀ c t c' t', Below wz.heap.size wz (wz.alloc (.cells c t)) ∧ Below wz.heap.size wz ((wz.alloc (.cells c t)).alloc (.cells c' t'))) := fun c t c' t' => ⟨(Below.refl _ wz).alloc (Nat.le_refl _) _, ((Below.refl _ wz).alloc (Nat.le_refl _) _).alloc (by simp) _⟩
  have HB2 : Hid (Below wz.heap.size wz (wz.alloc (.cells #[.string (st q), .string (st (knd q L1)), .int .i64 a] 43)).drew) := ((Below.refl _ wz).alloc (Nat.le_refl _) _).drew
  have HRQ2 : Hid (Blk (wz.alloc (.cells #[.string (st q), .string (st (knd q L1)), .int .i64 a] 43)).drew wz.heap.size 43 #[.string (st q), .string (st (knd q L1)), .int .i64 a]) := Blk.new wz _ _
  have HI2 : Hid ((Try.prog.info? 43).map (·.size) = some [Value.string (st q), .string (st (knd q L1)), .int .i64 a].length) := (info_zero infoRRp).2.1
  go_wp2_with fail
  refine wp_region_E (Stel b wz.heap.size a2 q (knd q L1) a) [10] (by kernel_rfl) ?_
  generalize (wz.alloc (.cells #[.string (st q), .string (st (knd q L1)), .int .i64 a] 43)).drew = W at HB2 HRQ2 ⊢
  have HGW := Lib.hid (HGZ.out.keep HB2.out)
  have HS0 : Hid (Stel b wz.heap.size a2 q (knd q L1) a W) := ⟨HGW.out.cell1, range3 HRQ2.out⟩
  refine wpAnyE_take 0 (some 87) (.pointer (some ⟨b, 0, none⟩)) rfl rfl (by kernel_rfl) (by kernel_rfl) (by kernel_rfl) (by kernel_rfl) (fun _ _ _ h => h) (yields_move rfl _ rfl _ rfl) HS0.out ?_
  simp only [Act.put, List.setIfInBounds_toArray, List.set_cons_zero, List.set_cons_succ]
  refine wpAnyE_take 1 (some 88) (.pointer (some ⟨b, 0, none⟩)) rfl rfl (by kernel_rfl) (by kernel_rfl) (by kernel_rfl) (by kernel_rfl) (fun _ _ _ h => h) (yields_move rfl _ rfl _ rfl) HS0.out ?_
  simp only [Act.put, List.setIfInBounds_toArray, List.set_cons_zero, List.set_cons_succ]
  refine wpAnyE_take 2 (some 89) (.pointer (some ⟨b, 0, none⟩)) rfl rfl (by kernel_rfl) (by kernel_rfl) (by kernel_rfl) (by kernel_rfl) (fun _ _ _ h => h) (yields_nilCheck rfl _ rfl _ rfl) HS0.out ?_
  simp only [Act.put, List.setIfInBounds_toArray, List.set_cons_zero, List.set_cons_succ]
  refine wpAnyE_take 3 (some 90) (.pointer (some ⟨b, 1, none⟩)) rfl rfl (by kernel_rfl) (by kernel_rfl) (by kernel_rfl) (by kernel_rfl) (fun _ _ _ h => h) (Or.inl ⟨by rfl, fun w _ => by go_simp⟩) HS0.out ?_
  simp only [Act.put, List.setIfInBounds_toArray, List.set_cons_zero, List.set_cons_succ]
  refine wpAnyE_take 4 (some 91) (a2) rfl rfl (by kernel_rfl) (by kernel_rfl) (by kernel_rfl) (by kernel_rfl) (fun _ _ _ h => h) (yields_load rfl 31 _ rfl Try.underlying31 rfl _ rfl _ (fun w h => h.1)) HS0.out ?_
  simp only [Act.put, List.setIfInBounds_toArray, List.set_cons_zero, List.set_cons_succ]
  refine wpAnyE_take 5 (some 92) (.agg #[.string (st q), .string (st (knd q L1)), .int .i64 a]) rfl rfl (by kernel_rfl) (by kernel_rfl) (by kernel_rfl) (by kernel_rfl) (fun _ _ _ h => h) (yieldsIf_load_mid rfl 43 _ rfl wz.heap.size 0 rfl _ _ (fun w h => h.2) Try.underlying43 rfl HI2.out) HS0.out ?_
  simp only [Act.put, List.setIfInBounds_toArray, List.set_cons_zero, List.set_cons_succ]
  refine wpAnyE_one (i := 6) (by kernel_rfl) rfl rfl ?_
  refine wp_buildSlice_one (some 93) rfl 31 43 _ rfl _ 3 40 Try.underlying31 infoRRp (by omega) (by omega) #[.string (st q), .string (st (knd q L1)), .int .i64 a] rfl rfl ?_
  simp only [Act.put, List.setIfInBounds_toArray, List.set_cons_zero, List.set_cons_succ]
  have HB3 : Hid (Below W.heap.size W (W.alloc (.cells #[.string (st q), .string (st (knd q L1)), .int .i64 a] 43))) := (Below.refl _ W).alloc (Nat.le_refl _) _
  have HBN : Hid (Blk (W.alloc (.cells #[.string (st q), .string (st (knd q L1)), .int .i64 a] 43)) W.heap.size 43 #[.string (st q), .string (st (knd q L1)), .int .i64 a]) := Blk.new W _ _
  generalize W.alloc (.cells #[.string (st q), .string (st (knd q L1)), .int .i64 a] 43) = W2 at HB3 HBN ⊢
  have HG2 := Lib.hid (HGW.out.keep HB3.out)
  have HRQ3 := Lib.hid (HRQ2.out.since HB3.out)
  refine ⟨⟨HG2.out.cell1, range3 HRQ3.out⟩, ?_⟩
  refine wpAnyE_one (i := 7) (by kernel_rfl) rfl rfl ?_
  refine wp_append_wide (some 94) rfl (.tmp 91) (.tmp 93) 31 43 rfl B _ 3 40 Try.underlying31 infoRRp rfl (by omega) a2 Q.length _ rfl W.heap.size 1 rfl HG2.out.two _ HBN.out rfl (rp_one3 q (knd q L1) a) (by have := HQ1.out; unfold maxLen; omega) (by have := HQ1.out; omega) (Nat.le_trans HG2.out.hb (Nat.le_of_lt HG2.out.box.lt)) ?_
  intro v' W3 hown3 hgr3 hat3
  simp only [Act.put, List.setIfInBounds_toArray, List.set_cons_zero, List.set_cons_succ]
  have HG4 : Hid (GateP 33 52 43 B (W3.setCell ⟨b, 1, none⟩ v') b L1 (Q ++ [(q, knd q L1, a)]) a1 v' ∧ Stp (fpG b a1 a2) W2 (W3.setCell ⟨b, 1, none⟩ v') ∧ ∀ k ∈ fpG b a1 v', k ∈ fpG b a1 a2 ∨ W2.heap.size ≤ k) := HG2.out.grow2 (x := (q, knd q L1, a)) hgr3 hown3 hat3
  have HX3 := Lib.hid (HG2.out.box.kept hgr3 (fun e => HG2.out.ne2 _ e.symm rfl))
  have HRQ4 := Lib.hid (HRQ3.out.kept hgr3 (fun e => by have := (HGZ.out.lt _ (mem_fpG.2 (.inr (.inr e.symm)))).1; omega))
  obtain ⟨va, vc, hvv⟩ := own_sliceG hown3
  clear hgr3 hown3 hat3
  have HS3 : Hid (Stel b wz.heap.size a2 q (knd q L1) a W3) := ⟨HX3.out.cell 1, range3 HRQ4.out⟩
  refine ⟨HS3.out, ?_⟩
  refine wpAnyE_step 8 (some 95) (.pointer (some ⟨b, 0, none⟩)) (by kernel_rfl) rfl rfl (yields_nilCheck rfl _ rfl _ rfl) HS3.out ?_
  simp only [Act.put, List.setIfInBounds_toArray, List.set_cons_zero, List.set_cons_succ]
  refine wpAnyE_step 9 (some 96) (.pointer (some ⟨b, 1, none⟩)) (by kernel_rfl) rfl rfl (Or.inl ⟨by rfl, fun w _ => by go_simp⟩) HS3.out ?_
  simp only [Act.put, List.setIfInBounds_toArray, List.set_cons_zero, List.set_cons_succ]
  refine wpAnyE_end (i := 10) (by kernel_rfl) rfl rfl rfl ?_
  refine wp_store_one none rfl 31 _ _ rfl (by kernel_rfl) ⟨b, 1, none⟩ rfl v' a2 rfl (by rw [hvv]; rfl) (HX3.out.cell 1) (HX3.out.frozen 1) ?_
  simp only [Act.put]
  refine wpAnyE_done (by kernel_rfl) ?_ _
  have HFIN : Hid (Turned 33 52 43 B b v1 v2 L1 (Q ++ [(q, knd q L1, a)]) w (W3.setCell ⟨b, 1, none⟩ v')) :=
    Turned.trans HSTZ.out HNZ.out (Turned.since (Turned.since ⟨a1, v', HG4.out.1, HG4.out.2.1, HG4.out.2.2⟩ HB3.out) HB2.out)
  generalize W3.setCell ⟨b, 1, none⟩ v' = W4 at HFIN ⊢
  clear HS3 HX3 HRQ4 HG4 HG2 HRQ3 HB3 HBN hvv
  go_wp2
  go_ret
  exact ⟨_, _, rfl, RowG.nil _ _, (fun p hp => by cases hp), HFIN.out⟩

end Go.Proofs.Ytkhkcpoadccflaa
