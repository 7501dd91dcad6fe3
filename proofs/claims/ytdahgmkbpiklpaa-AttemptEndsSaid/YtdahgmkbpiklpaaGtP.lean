/-
  Plain: what a gateway knows and tells; a gateway in a box, with two rows of its own.
-/
import Derived.Test.YtdahgmkbpiklpaaRowP
import Derived.Test.YtdahgmkbpiklpaaLawA
namespace Go.Proofs.Ytdahgmkbpiklpaa
open Go.RowKit

/-- a record: its key, its party, its currency, its amount, was it moved? -/
abbrev Rc := List UInt8 × List UInt8 × List UInt8 × Int × Bool
/-- a reply: its key, its kind, its attempt -/
abbrev Rp := List UInt8 × List UInt8 × Int
/-- a request: its kind, its key, its party, its currency, its amount, its attempt -/
abbrev Rq := List UInt8 × List UInt8 × List UInt8 × List UInt8 × Int × Int
def cRc (x : Rc) : List Value := [.string (st x.1), .string (st x.2.1), .string (st x.2.2.1), .int .i64 x.2.2.2.1, .bool x.2.2.2.2]
def cRp (x : Rp) : List Value := [.string (st x.1), .string (st x.2.1), .int .i64 x.2.2]
def cRq (x : Rq) : List Value := [.string (st x.1), .string (st x.2.1), .string (st x.2.2.1), .string (st x.2.2.2.1), .int .i64 x.2.2.2.2.1, .int .i64 x.2.2.2.2.2]
theorem cRc_len (x : Rc) : (cRc x).length = 5 := rfl
theorem cRp_len (x : Rp) : (cRp x).length = 3 := rfl

def kPay : List UInt8 := [112, 97, 121]
def kQuery : List UInt8 := [113, 117, 101, 114, 121]
def kAcc : List UInt8 := [97, 99, 99, 101, 112, 116, 101, 100]
def kDec : List UInt8 := [100, 101, 99, 108, 105, 110, 101, 100]
def kUnk : List UInt8 := [117, 110, 107, 110, 111, 119, 110]

theorem txt_t {k L : List UInt8} (h : k = L) : ((st k).toList == L) = true := by
  rw [Go.Lib.toList_data, st_toList, h]; simp
theorem txt_f {k L : List UInt8} (h : k ≠ L) : ((st k).toList == L) = false := by
  rw [Go.Lib.toList_data, st_toList, beq_eq_false_iff_ne]; exact h

/-- is there a record of that key? -/
def hasK (key : List UInt8) (L : List Rc) : Bool := L.any fun x => decide (x.1 = key)
/-- a record's kind of reply -/
def knR (x : Rc) : List UInt8 := if x.2.2.2.2 then kAcc else kDec
/-- a key's kind of reply -/
def knd (key : List UInt8) (L : List Rc) : List UInt8 := match L.find? fun x => decide (x.1 = key) with | some x => knR x | none => kUnk
/-- is money moved by that choice? -/
def mvB (c : Nat) : Bool := !(decide (c = 3) || decide (c = 4) || decide (c = 7))
/-- is nothing asked? -/
def offB (r : Rq) (c : Nat) : Bool := decide (c = 0) || (decide (r.1 ≠ kPay) && decide (r.1 ≠ kQuery))
/-- the records behind a request -/
def recs (r : Rq) (c : Nat) (L : List Rc) : List Rc := if r.1 = kPay ∧ hasK r.2.1 L = false then L ++ [(r.2.1, r.2.2.1, r.2.2.2.1, r.2.2.2.2.1, mvB c)] else L
/-- what is told at once -/
def told (c : Nat) (x : Rp) : List Rp := if c = 1 ∨ c = 3 then [x] else if c = 5 then [x, x] else []
/-- what is told late -/
def lateL (c : Nat) (x : Rp) (Q : List Rp) : List Rp := if c = 6 ∨ c = 7 then Q ++ [x] else Q
/-- the reply -/
def repl (r : Rq) (c : Nat) (L : List Rc) : Rp := (r.2.1, knd r.2.1 (recs r c L), r.2.2.2.2.2)
def askL (r : Rq) (c : Nat) (L : List Rc) : List Rc := if offB r c then L else recs r c L
def askA (r : Rq) (c : Nat) (L : List Rc) : List Rp := if offB r c then [] else told c (repl r c L)
def askQ (r : Rq) (c : Nat) (L : List Rc) (Q : List Rp) : List Rp := if offB r c then Q else lateL c (repl r c L) Q

theorem told_len (c : Nat) (x : Rp) : (told c x).length ≤ 2 := by
  unfold told
  split
  · simp
  · split <;> simp
theorem lateL_len (c : Nat) (x : Rp) (Q : List Rp) : (lateL c x Q).length ≤ Q.length + 1 := by unfold lateL; split <;> simp
theorem recs_len (r : Rq) (c : Nat) (L : List Rc) : L.length ≤ (recs r c L).length ∧ (recs r c L).length ≤ L.length + 1 := by unfold recs; split <;> simp
theorem askL_len (r : Rq) (c : Nat) (L : List Rc) : L.length ≤ (askL r c L).length ∧ (askL r c L).length ≤ L.length + 1 := by
  unfold askL
  split
  · omega
  · exact recs_len r c L
theorem askQ_len (r : Rq) (c : Nat) (L : List Rc) (Q : List Rp) : (askQ r c L Q).length ≤ Q.length + 1 := by
  unfold askQ
  split
  · omega
  · exact lateL_len _ _ _
theorem askA_len (r : Rq) (c : Nat) (L : List Rc) : (askA r c L).length ≤ 2 := by
  unfold askA
  split
  · simp
  · exact told_len _ _

/-- where a key's record stands -/
def Found (key : List UInt8) (L : List Rc) (n : Int) : Prop :=
  (n = -1 ∧ ∀ (j : Nat) (s : Rc), L[j]? = some s → s.1 ≠ key) ∨ ∃ (k : Nat) (x : Rc), n = (k : Int) ∧ L[k]? = some x ∧ x.1 = key ∧ ∀ (j : Nat) (s : Rc), j < k → L[j]? = some s → s.1 ≠ key

theorem find_none {key : List UInt8} {L : List Rc} (h : ∀ (j : Nat) (s : Rc), L[j]? = some s → s.1 ≠ key) : L.find? (fun x => decide (x.1 = key)) = none := by
  rw [List.find?_eq_none]
  intro x hx
  obtain ⟨j, hj⟩ := List.mem_iff_getElem?.1 hx
  simpa using h j x hj
theorem find_some : ∀ {L : List Rc} {key : List UInt8} {k : Nat} {x : Rc}, L[k]? = some x → x.1 = key → (∀ (j : Nat) (s : Rc), j < k → L[j]? = some s → s.1 ≠ key) → L.find? (fun x => decide (x.1 = key)) = some x
  | [], _, _, _, h, _, _ => by simp at h
  | y :: r, key, 0, x, h, e, _ => by
    simp only [List.getElem?_cons_zero, Option.some.injEq] at h
    subst h
    rw [List.find?_cons_of_pos]
    simpa using e
  | y :: r, key, k + 1, x, h, e, hn => by
    have h0 := hn 0 y (by omega) rfl
    rw [List.find?_cons_of_neg (by simpa using h0)]
    exact find_some (by simpa using h) e fun j s hj hs => hn (j + 1) s (by omega) (by simpa using hs)

theorem hasK_none {key : List UInt8} {L : List Rc} (h : ∀ (j : Nat) (s : Rc), L[j]? = some s → s.1 ≠ key) : hasK key L = false := by
  unfold hasK
  rw [List.any_eq_false]
  intro x hx
  obtain ⟨j, hj⟩ := List.mem_iff_getElem?.1 hx
  simpa using h j x hj
theorem hasK_some {key : List UInt8} {L : List Rc} {k : Nat} {x : Rc} (h : L[k]? = some x) (e : x.1 = key) : hasK key L = true := by
  unfold hasK
  rw [List.any_eq_true]
  exact ⟨x, List.mem_of_getElem? h, decide_eq_true e⟩
theorem Found.has {key : List UInt8} {L : List Rc} {n : Int} (h : Found key L n) : hasK key L = decide (0 ≤ n) := by
  rcases h with ⟨rfl, h⟩ | ⟨k, x, rfl, h1, h2, _⟩
  · rw [hasK_none h]; rfl
  · rw [hasK_some h1 h2, decide_eq_true (by omega)]
theorem Found.not {key : List UInt8} {L : List Rc} {n : Int} (h : Found key L n) (hn : n < 0) : knd key L = kUnk := by
  rcases h with ⟨rfl, h⟩ | ⟨k, x, rfl, h1, h2, _⟩
  · unfold knd; rw [find_none h]
  · omega
theorem knd_at {key : List UInt8} {L : List Rc} {k : Nat} {x : Rc} (h1 : L[k]? = some x) (h2 : x.1 = key) (h3 : ∀ (j : Nat) (s : Rc), j < k → L[j]? = some s → s.1 ≠ key) : knd key L = knR x := by
  unfold knd; rw [find_some h1 h2 h3]
theorem knd_none {key : List UInt8} {L : List Rc} (h : ∀ (j : Nat) (s : Rc), L[j]? = some s → s.1 ≠ key) : knd key L = kUnk := by
  unfold knd; rw [find_none h]
/-- unknown: there is no record -/
theorem knd_unk {key : List UInt8} {L : List Rc} : (knd key L = kUnk) = (hasK key L = false) := by
  cases hf : L.find? fun x => decide (x.1 = key) with
  | none =>
    have h1 : hasK key L = false := by
      rw [List.find?_eq_none] at hf
      unfold hasK
      rw [List.any_eq_false]
      exact hf
    have h2 : knd key L = kUnk := by unfold knd; rw [hf]
    rw [h1, h2]; simp
  | some x =>
    have hm := List.mem_of_find?_eq_some hf
    have hx := List.find?_some hf
    have h1 : hasK key L = true := by
      unfold hasK
      rw [List.any_eq_true]
      exact ⟨x, hm, hx⟩
    have h2 : knd key L = knR x := by unfold knd; rw [hf]
    rw [h1, h2]
    unfold knR
    cases x.2.2.2.2 <;> simp [kAcc, kDec, kUnk]

theorem infoRc : (Try.prog.info? 63).map (fun i => (i.zero, i.size, i.bytes)) = some (some (.agg #[.string ⟨#[]⟩, .string ⟨#[]⟩, .string ⟨#[]⟩, .int .i64 0, .bool false]), 5, 64) := by kernel_rfl
theorem infoRp : (Try.prog.info? 59).map (fun i => (i.zero, i.size, i.bytes)) = some (some (.agg #[.string ⟨#[]⟩, .string ⟨#[]⟩, .int .i64 0]), 3, 40) := by kernel_rfl

theorem rc_one {ss : List Rc} : ∀ u ∈ ss.flatMap cRc, u.oneCell' = true := by
  intro u hu
  obtain ⟨x, _, hx⟩ := List.mem_flatMap.1 hu
  simp only [cRc, List.mem_cons, List.not_mem_nil, or_false] at hx
  rcases hx with rfl | rfl | rfl | rfl | rfl <;> rfl
theorem rp_one {ss : List Rp} : ∀ u ∈ ss.flatMap cRp, u.oneCell' = true := by
  intro u hu
  obtain ⟨x, _, hx⟩ := List.mem_flatMap.1 hu
  simp only [cRp, List.mem_cons, List.not_mem_nil, or_false] at hx
  rcases hx with rfl | rfl | rfl <;> rfl

theorem cells5 {w : World} {b off : Nat} {xs : List Rc} (h : RowG 5 cRc w (some ⟨b, off, none⟩) xs) {k : Nat} {x : Rc} (hx : xs[k]? = some x) :
    w.cell? ⟨b, off + k * 5, none⟩ = some (.string (st x.1)) ∧ w.cell? ⟨b, off + k * 5 + 1, none⟩ = some (.string (st x.2.1)) ∧ w.cell? ⟨b, off + k * 5 + 2, none⟩ = some (.string (st x.2.2.1)) ∧
      w.cell? ⟨b, off + k * 5 + 3, none⟩ = some (.int .i64 x.2.2.2.1) ∧ w.cell? ⟨b, off + k * 5 + 4, none⟩ = some (.bool x.2.2.2.2) := by
  have := h.at hx
  exact ⟨by simpa using this 0 _ rfl, this 1 _ rfl, this 2 _ rfl, this 3 _ rfl, this 4 _ rfl⟩
theorem cells3 {w : World} {b off : Nat} {xs : List Rp} (h : RowG 3 cRp w (some ⟨b, off, none⟩) xs) {k : Nat} {x : Rp} (hx : xs[k]? = some x) :
    w.cell? ⟨b, off + k * 3, none⟩ = some (.string (st x.1)) ∧ w.cell? ⟨b, off + k * 3 + 1, none⟩ = some (.string (st x.2.1)) ∧ w.cell? ⟨b, off + k * 3 + 2, none⟩ = some (.int .i64 x.2.2) := by
  have := h.at hx
  exact ⟨by simpa using this 0 _ rfl, this 1 _ rfl, this 2 _ rfl⟩

/-- what a call on a gateway may write -/
def fpG (b : Nat) (v1 v2 : Value) : List Nat := b :: (v1.ownBlock.toList ++ v2.ownBlock.toList)
theorem mem_fpG {b k : Nat} {v1 v2 : Value} : k ∈ fpG b v1 v2 ↔ k = b ∨ v1.ownBlock = some k ∨ v2.ownBlock = some k := by
  unfold fpG
  rw [List.mem_cons, List.mem_append, Option.mem_toList, Option.mem_toList]

/-- a gateway in a box: its records, its late replies, each in a row of its own -/
structure GateP (tg tr tq : TypeId) (B : Nat) (w : World) (b : Nat) (L : List Rc) (Q : List Rp) (v1 v2 : Value) : Prop where
  ty : tg ≠ tr ∧ tg ≠ tq ∧ tr ≠ tq
  hb : B ≤ b
  box : Blk w b tg #[v1, v2]
  one : w.ownsRow B tr 5 v1 L.length (L.flatMap cRc)
  two : w.ownsRow B tq 3 v2 Q.length (Q.flatMap cRp)

section
variable {tg tr tq : TypeId} {B b : Nat} {w w' : World} {L L' : List Rc} {Q Q' : List Rp} {v1 v2 v1' v2' : Value}

theorem GateP.keep (h : GateP tg tr tq B w b L Q v1 v2) (hb : Below w.heap.size w w') : GateP tg tr tq B w' b L Q v1 v2 := ⟨h.ty, h.hb, h.box.since hb, own_keepG h.one hb, own_keepG h.two hb⟩
theorem GateP.lt (h : GateP tg tr tq B w b L Q v1 v2) : ∀ k ∈ fpG b v1 v2, k < w.heap.size ∧ B ≤ k := fun k hk => by
  rcases mem_fpG.1 hk with rfl | hk | hk
  · exact ⟨h.box.lt, h.hb⟩
  · exact ⟨(h.one.lt k hk).2, (h.one.lt k hk).1⟩
  · exact ⟨(h.two.lt k hk).2, (h.two.lt k hk).1⟩
theorem GateP.ne1 (h : GateP tg tr tq B w b L Q v1 v2) : ∀ k, v1.ownBlock = some k → k ≠ b := fun k hk e => by
  subst e
  obtain ⟨cur, hcur⟩ := own_blkG h.one hk
  exact absurd rfl (h.box.ne hcur h.ty.1)
theorem GateP.ne2 (h : GateP tg tr tq B w b L Q v1 v2) : ∀ k, v2.ownBlock = some k → k ≠ b := fun k hk e => by
  subst e
  obtain ⟨cur, hcur⟩ := own_blkG h.two hk
  exact absurd rfl (h.box.ne hcur h.ty.2.1)
theorem GateP.ne12 (h : GateP tg tr tq B w b L Q v1 v2) : ∀ k, v1.ownBlock = some k → v2.ownBlock = some k → False := fun k hk hk2 => by
  obtain ⟨cur, hcur⟩ := own_blkG h.one hk
  obtain ⟨cur2, hcur2⟩ := own_blkG h.two hk2
  exact absurd rfl (hcur.ne hcur2 h.ty.2.2)
theorem GateP.stp {fp : List Nat} (h : GateP tg tr tq B w b L Q v1 v2) (hs : Stp fp w w') (hn : ∀ k ∈ fpG b v1 v2, k ∉ fp) : GateP tg tr tq B w' b L Q v1 v2 :=
  ⟨h.ty, h.hb, h.box.stp hs (hn b (mem_fpG.2 (.inl rfl))), own_stp h.one hs fun k hk => hn k (mem_fpG.2 (.inr (.inl hk))), own_stp h.two hs fun k hk => hn k (mem_fpG.2 (.inr (.inr hk)))⟩
theorem GateP.cell0 (h : GateP tg tr tq B w b L Q v1 v2) : w.cell? ⟨b, 0, none⟩ = some v1 := h.box.cell 0
theorem GateP.cell1 (h : GateP tg tr tq B w b L Q v1 v2) : w.cell? ⟨b, 1, none⟩ = some v2 := h.box.cell 1
theorem GateP.row1 (h : GateP tg tr tq B w b L Q v1 v2) : ∃ a cp, v1 = .slice a L.length cp ∧ RowG 5 cRc w a L := by
  obtain ⟨a, cp, h1, h2, _, _⟩ := RowG.own cRc_len h.one rfl
  exact ⟨a, cp, h1, h2⟩
theorem GateP.row2 (h : GateP tg tr tq B w b L Q v1 v2) : ∃ a cp, v2 = .slice a Q.length cp ∧ RowG 3 cRp w a Q := by
  obtain ⟨a, cp, h1, h2, _, _⟩ := RowG.own cRp_len h.two rfl
  exact ⟨a, cp, h1, h2⟩

/-- the first field is turned -/
theorem GateP.put1 (ht : tg ≠ tr ∧ tg ≠ tq ∧ tr ≠ tq) (hb : B ≤ b) (hx : Blk w b tg #[v1, v2]) (h1 : w.ownsRow B tr 5 v1' L'.length (L'.flatMap cRc)) (h2 : w.ownsRow B tq 3 v2 Q.length (Q.flatMap cRp)) : GateP tg tr tq B (w.setCell ⟨b, 0, none⟩ v1') b L' Q v1' v2 := by
  have hs := (Stp.refl [b] w).setCell (x := ⟨b, 0, none⟩) (.inl (by simp)) v1'
  refine ⟨ht, hb, hx.set 0 _, own_stp h1 hs fun k hk hm => ?_, own_stp h2 hs fun k hk hm => ?_⟩
  · rw [List.mem_singleton] at hm
    subst hm
    obtain ⟨cur, hcur⟩ := own_blkG h1 hk
    exact absurd rfl (hx.ne hcur ht.1)
  · rw [List.mem_singleton] at hm
    subst hm
    obtain ⟨cur, hcur⟩ := own_blkG h2 hk
    exact absurd rfl (hx.ne hcur ht.2.1)
/-- the second field is turned -/
theorem GateP.put2 (ht : tg ≠ tr ∧ tg ≠ tq ∧ tr ≠ tq) (hb : B ≤ b) (hx : Blk w b tg #[v1, v2]) (h1 : w.ownsRow B tr 5 v1 L.length (L.flatMap cRc)) (h2 : w.ownsRow B tq 3 v2' Q'.length (Q'.flatMap cRp)) : GateP tg tr tq B (w.setCell ⟨b, 1, none⟩ v2') b L Q' v1 v2' := by
  have hs := (Stp.refl [b] w).setCell (x := ⟨b, 1, none⟩) (.inl (by simp)) v2'
  refine ⟨ht, hb, hx.set 1 _, own_stp h1 hs fun k hk hm => ?_, own_stp h2 hs fun k hk hm => ?_⟩
  · rw [List.mem_singleton] at hm
    subst hm
    obtain ⟨cur, hcur⟩ := own_blkG h1 hk
    exact absurd rfl (hx.ne hcur ht.1)
  · rw [List.mem_singleton] at hm
    subst hm
    obtain ⟨cur, hcur⟩ := own_blkG h2 hk
    exact absurd rfl (hx.ne hcur ht.2.1)

/-- the first row has grown -/
theorem GateP.grow1 {W W3 : World} {x : Rc} (h : GateP tg tr tq B W b L Q v1 v2) (hg : W.grownBy W3 v1.ownBlock) (ho : W3.ownsRow B tr 5 v1' (L.length + 1) (L.flatMap cRc ++ cRc x)) (ha : v1'.ownBlock = v1.ownBlock ∨ v1'.ownBlock = some W.heap.size) :
    GateP tg tr tq B (W3.setCell ⟨b, 0, none⟩ v1') b (L ++ [x]) Q v1' v2 ∧ Stp (fpG b v1 v2) W (W3.setCell ⟨b, 0, none⟩ v1') ∧ ∀ k ∈ fpG b v1' v2, k ∈ fpG b v1 v2 ∨ W.heap.size ≤ k := by
  have hs := Stp.of_grown_row (fp := fpG b v1 v2) hg (fun k hk => mem_fpG.2 (.inr (.inl hk)))
  refine ⟨GateP.put1 h.ty h.hb (h.box.kept hg fun e => h.ne1 b e.symm rfl) (by rw [List.length_append, List.flatMap_append]; simpa using ho) ?_, hs.setCell (.inl (mem_fpG.2 (.inl rfl))) _, fun k hk => ?_⟩
  · exact own_stp h.two (Stp.of_grown_row (fp := v1.ownBlock.toList) hg (fun k hk => by rw [Option.mem_toList]; exact hk)) fun k hk hm => by
      rw [Option.mem_toList] at hm
      exact h.ne12 k hm hk
  · rcases mem_fpG.1 hk with rfl | hk | hk
    · exact .inl (mem_fpG.2 (.inl rfl))
    · rcases ha with e | e
      · exact .inl (mem_fpG.2 (.inr (.inl (by rw [← e]; exact hk))))
      · rw [e] at hk
        injection hk with hk
        exact .inr (by omega)
    · exact .inl (mem_fpG.2 (.inr (.inr hk)))
/-- the second row has grown -/
theorem GateP.grow2 {W W3 : World} {x : Rp} (h : GateP tg tr tq B W b L Q v1 v2) (hg : W.grownBy W3 v2.ownBlock) (ho : W3.ownsRow B tq 3 v2' (Q.length + 1) (Q.flatMap cRp ++ cRp x)) (ha : v2'.ownBlock = v2.ownBlock ∨ v2'.ownBlock = some W.heap.size) :
    GateP tg tr tq B (W3.setCell ⟨b, 1, none⟩ v2') b L (Q ++ [x]) v1 v2' ∧ Stp (fpG b v1 v2) W (W3.setCell ⟨b, 1, none⟩ v2') ∧ ∀ k ∈ fpG b v1 v2', k ∈ fpG b v1 v2 ∨ W.heap.size ≤ k := by
  have hs := Stp.of_grown_row (fp := fpG b v1 v2) hg (fun k hk => mem_fpG.2 (.inr (.inr hk)))
  refine ⟨GateP.put2 h.ty h.hb (h.box.kept hg fun e => h.ne2 b e.symm rfl) ?_ (by rw [List.length_append, List.flatMap_append]; simpa using ho), hs.setCell (.inl (mem_fpG.2 (.inl rfl))) _, fun k hk => ?_⟩
  · exact own_stp h.one (Stp.of_grown_row (fp := v2.ownBlock.toList) hg (fun k hk => by rw [Option.mem_toList]; exact hk)) fun k hk hm => by
      rw [Option.mem_toList] at hm
      exact h.ne12 k hk hm
  · rcases mem_fpG.1 hk with rfl | hk | hk
    · exact .inl (mem_fpG.2 (.inl rfl))
    · exact .inl (mem_fpG.2 (.inr (.inl hk)))
    · rcases ha with e | e
      · exact .inl (mem_fpG.2 (.inr (.inr (by rw [← e]; exact hk))))
      · rw [e] at hk
        injection hk with hk
        exact .inr (by omega)
end

/-- a gateway has turned, and all else stands -/
def Turned (tg tr tq : TypeId) (B b : Nat) (v1 v2 : Value) (L' : List Rc) (Q' : List Rp) (w w' : World) : Prop :=
  ∃ v1' v2', GateP tg tr tq B w' b L' Q' v1' v2' ∧ Stp (fpG b v1 v2) w w' ∧ ∀ k ∈ fpG b v1' v2', k ∈ fpG b v1 v2 ∨ w.heap.size ≤ k

theorem Turned.still {tg tr tq : TypeId} {B b : Nat} {v1 v2 : Value} {L : List Rc} {Q : List Rp} {w w' : World} (h : GateP tg tr tq B w b L Q v1 v2) (hb : Below w.heap.size w w') : Turned tg tr tq B b v1 v2 L Q w w' :=
  ⟨v1, v2, h.keep hb, Stp.of_below hb, fun _ hk => .inl hk⟩
theorem Turned.since {tg tr tq : TypeId} {B b : Nat} {v1 v2 : Value} {L' : List Rc} {Q' : List Rp} {w w1 w' : World} (h : Turned tg tr tq B b v1 v2 L' Q' w1 w') (hb : Below w.heap.size w w1) : Turned tg tr tq B b v1 v2 L' Q' w w' := by
  obtain ⟨v1', v2', hg, hs, hn⟩ := h
  refine ⟨v1', v2', hg, (Stp.of_below (fp := fpG b v1 v2) hb).trans hs (fun k hk => .inl hk), fun k hk => ?_⟩
  rcases hn k hk with h | h
  · exact .inl h
  · exact .inr (Nat.le_trans hb.size h)
end Go.Proofs.Ytdahgmkbpiklpaa
