/-
  Plain: a command's bytes as the document takes them.
-/
import Derived.Test.YtkflakeocdlinaaGreatDoorCmRMC
import Derived.Test.YtkflakeocdlinaaGreatDoorMC11
import Derived.Test.YtkflakeocdlinaaGreatDoorCmJMC
import Derived.Test.YtkflakeocdlinaaGreatDoorMC05
import Derived.Test.YtkflakeocdlinaaGreatDoorMC06
import Derived.Test.YtkflakeocdlinaaGreatDoorLawAMC
import Derived.BigRegion
import Derived.Deep.WholeRow
namespace Go.Proofs.YtkflakeocdlinaaGreatDoor
open Go.RowKit Go.Deep Go.Lib

/-- a wrapper -/
theorem rbytes_any (c : Cm) (a : Option Addr) (cp : Nat) (w : World) (hr : RowG 2 cSh w a c.sh) (hx : c.sh.length ≤ 8) (hI : ∀ x ∈ itH c ++ itSh c.sh, smI x) :
    Calls Tryz.prog 14 #[.agg #[.string (st c.kind), .string (st c.id), .string (st c.about), .string (st c.cur), .string (st c.cat), .int .i64 c.amt, .slice a c.sh.length cp]] w fun e w' => e = .returned (.string (st (bytesC c))) ∧ Below w.heap.size w w' := by
  obtain ⟨k, i, b, u, t, m, xs⟩ := c
  exact rbytes_core k i b u t m a cp xs.length xs w hr rfl hx _ hI rfl

def ts7 : List Bool := [true, true, true, true, true, false, false]
def pairB : Nat → List Bool
  | 0 => []
  | n + 1 => pairB n ++ [true, false]
def tsC (n : Nat) : List Bool := ts7 ++ pairB n
theorem pairB_len : ∀ n, (pairB n).length = 2 * n
  | 0 => rfl
  | n + 1 => by rw [pairB, List.length_append, pairB_len n]; simp; omega
theorem pairB_add (a : Nat) : ∀ b, pairB (a + b) = pairB a ++ pairB b
  | 0 => by simp [pairB]
  | b + 1 => by rw [← Nat.add_assoc, pairB, pairB_add a b, pairB, List.append_assoc]
theorem tsC_len (n : Nat) : (tsC n).length = 7 + 2 * n := by unfold tsC; rw [List.length_append, pairB_len]; rfl
theorem tsC_add (j r : Nat) : tsC (j + r) = tsC j ++ pairB r := by unfold tsC; rw [pairB_add, List.append_assoc]
theorem pairB_one (r : Nat) : pairB (1 + r) = true :: false :: pairB r := by rw [pairB_add]; rfl

def fsB (l : List UInt8) (ts : List Bool) : List UInt8 := ts.foldl (fun s t => vL t s) l
theorem stS_fst (ts : List Bool) : ∀ (l : List UInt8) (c : Bool), (ts.foldl (fun s t => (vL t s.1, s.2 || vC t s.1)) (l, c)).1 = fsB l ts := by
  induction ts with
  | nil => intro l c; rfl
  | cons t r ih => intro l c; rw [List.foldl_cons, ih]; rfl
theorem stS_one (l : List UInt8) (ts : List Bool) : (stS l ts).1 = fsB l ts := stS_fst ts l false
theorem fsB_append (l : List UInt8) (a b : List Bool) : fsB l (a ++ b) = fsB (fsB l a) b := by unfold fsB; rw [List.foldl_append]
theorem fsB_pair (l : List UInt8) : ∀ n, fsB l (pairB n) = rdR n l
  | 0 => rfl
  | n + 1 => by rw [pairB, fsB_append, fsB_pair l n]; rfl
theorem fsB_ts7 (l : List UInt8) : fsB l ts7 = bSh l := by simp [fsB, ts7, bSh, tl5, vL]
theorem fsB_tsC (l : List UInt8) (n : Nat) : fsB l (tsC n) = rdR n (bSh l) := by unfold tsC; rw [fsB_append, fsB_ts7, fsB_pair]

theorem item_text {n j r : Nat} (l : List UInt8) (h : n = j + (1 + r)) : (itS l (tsC n))[7 + 2 * j]? = some ⟨true, 0, tt (rdR j (bSh l))⟩ := by
  subst h
  have e : (tsC (j + (1 + r)))[7 + 2 * j]? = some true := by rw [tsC_add, List.getElem?_append_right (by rw [tsC_len]; omega), tsC_len, Nat.sub_self, pairB_one]; rfl
  have h1 := itS_get (l0 := l) e
  rw [stS_one, tsC_add, List.take_left' (tsC_len j), fsB_tsC] at h1
  rw [tsC_add]
  exact h1
theorem item_num {n j r : Nat} (l : List UInt8) (h : n = j + (1 + r)) : (itS l (tsC n))[7 + 2 * j + 1]? = some ⟨false, iv8 (tl (rdR j (bSh l))), []⟩ := by
  subst h
  have e0 : tsC (j + (1 + r)) = (tsC j ++ [true]) ++ (false :: pairB r) := by rw [tsC_add, pairB_one]; simp
  have hl : (tsC j ++ [true]).length = 7 + 2 * j + 1 := by rw [List.length_append, tsC_len]; rfl
  have e : (tsC (j + (1 + r)))[7 + 2 * j + 1]? = some false := by rw [e0, List.getElem?_append_right (by omega), hl, Nat.sub_self]; rfl
  have h1 := itS_get (l0 := l) e
  rw [stS_one, e0, List.take_left' hl, fsB_append, fsB_tsC] at h1
  rw [e0]
  exact h1
theorem item_head {n : Nat} (l : List UInt8) : (itS l (tsC n))[0]? = some ⟨true, 0, tt l⟩ ∧ (itS l (tsC n))[1]? = some ⟨true, 0, tt (tl l)⟩ ∧ (itS l (tsC n))[2]? = some ⟨true, 0, tt (tl (tl l))⟩ ∧ (itS l (tsC n))[3]? = some ⟨true, 0, tt (tl (tl (tl l)))⟩ ∧ (itS l (tsC n))[4]? = some ⟨true, 0, tt (tl (tl (tl (tl l))))⟩ ∧ (itS l (tsC n))[5]? = some ⟨false, iv8 (tl5 l), []⟩ ∧ (itS l (tsC n))[6]? = some ⟨false, nSh l, []⟩ :=
  ⟨(by have h := itS_get (l0 := l) (ts := tsC n) (k := 0) (t := true) rfl; rw [stS_one] at h; simpa [tsC, ts7, fsB, vL, vI, tl5, nSh, iv8] using h), (by have h := itS_get (l0 := l) (ts := tsC n) (k := 1) (t := true) rfl; rw [stS_one] at h; simpa [tsC, ts7, fsB, vL, vI, tl5, nSh, iv8] using h), (by have h := itS_get (l0 := l) (ts := tsC n) (k := 2) (t := true) rfl; rw [stS_one] at h; simpa [tsC, ts7, fsB, vL, vI, tl5, nSh, iv8] using h), (by have h := itS_get (l0 := l) (ts := tsC n) (k := 3) (t := true) rfl; rw [stS_one] at h; simpa [tsC, ts7, fsB, vL, vI, tl5, nSh, iv8] using h), (by have h := itS_get (l0 := l) (ts := tsC n) (k := 4) (t := true) rfl; rw [stS_one] at h; simpa [tsC, ts7, fsB, vL, vI, tl5, nSh, iv8] using h), (by have h := itS_get (l0 := l) (ts := tsC n) (k := 5) (t := false) rfl; rw [stS_one] at h; simpa [tsC, ts7, fsB, vL, vI, tl5, nSh, iv8] using h), (by have h := itS_get (l0 := l) (ts := tsC n) (k := 6) (t := false) rfl; rw [stS_one] at h; simpa [tsC, ts7, fsB, vL, vI, tl5, nSh, iv8] using h)⟩

theorem iv8_range (l : List UInt8) : -9223372036854775808 ≤ iv8 l ∧ iv8 l ≤ 9223372036854775807 := by
  have hn := numL_lt (tk 8 l)
  have hp : 256 ^ (tk 8 l).length ≤ 256 ^ 8 := Nat.pow_le_pow_right (by decide) (tk_le 8 l)
  rw [pow_256_8] at hp
  unfold iv8 sg
  split <;> omega
theorem rdR_len : ∀ (n : Nat) (l : List UInt8), (rdR n l).length ≤ l.length
  | 0, _ => Nat.le_refl _
  | n + 1, l => Nat.le_trans (lf_len _ _) (Nat.le_trans (tl_len _) (rdR_len n l))
theorem rdX_mem : ∀ (n : Nat) (l : List UInt8), ∀ s ∈ rdX n l, s.1.length ≤ l.length ∧ -9223372036854775808 ≤ s.2 ∧ s.2 ≤ 9223372036854775807
  | 0, _, s, h => by simp [rdX] at h
  | n + 1, l, s, h => by
    rw [rdX, List.mem_append] at h
    rcases h with h | h
    · exact rdX_mem n l s h
    · rw [List.mem_singleton] at h
      subst h
      exact ⟨Nat.le_trans (tt_len _) (rdR_len n l), iv8_range _⟩
/-- what is read of at most 2000 bytes is small -/
theorem decN_small (l : List UInt8) (n : Nat) (hl : l.length ≤ 2000) (hn : n ≤ 8) : ∀ x ∈ itH (decN l n) ++ itSh (decN l n).sh, smI x := by
  have t1 := tt_len l
  have a1 := tl_len l
  have t2 := tt_len (tl l)
  have a2 := tl_len (tl l)
  have t3 := tt_len (tl (tl l))
  have a3 := tl_len (tl (tl l))
  have t4 := tt_len (tl (tl (tl l)))
  have a4 := tl_len (tl (tl (tl l)))
  have t5 := tt_len (tl (tl (tl (tl l))))
  have a5 := tl_len (tl (tl (tl (tl l))))
  have b0 : (tl5 l).length ≤ l.length := Nat.le_trans a5 (Nat.le_trans a4 (Nat.le_trans a3 (Nat.le_trans a2 a1)))
  have e : (bSh l).length ≤ 2000 := Nat.le_trans (lf_len 8 (lf 8 (tl5 l))) (Nat.le_trans (lf_len 8 (tl5 l)) (Nat.le_trans b0 hl))
  have hX : (rdX n (bSh l)).length ≤ 8 := by rw [rdX_len]; exact hn
  have hV := iv8_range (tl5 l)
  have hS : ∀ s ∈ rdX n (bSh l), s.1.length ≤ 2000 ∧ -9223372036854775808 ≤ s.2 ∧ s.2 ≤ 9223372036854775807 := fun s hs => by
    have h := rdX_mem n (bSh l) s hs
    exact ⟨Nat.le_trans h.1 e, h.2⟩
  have hT : (tt l).length ≤ 2000 ∧ (tt (tl l)).length ≤ 2000 ∧ (tt (tl (tl l))).length ≤ 2000 ∧ (tt (tl (tl (tl l)))).length ≤ 2000 ∧ (tt (tl (tl (tl (tl l))))).length ≤ 2000 := by
    clear b0 e hS hX hV
    refine ⟨by omega, by omega, by omega, by omega, by omega⟩
  clear t1 t2 t3 t4 t5 a1 a2 a3 a4 a5 b0 e
  unfold decN
  generalize tt l = x1 at *
  generalize tt (tl l) = x2 at *
  generalize tt (tl (tl l)) = x3 at *
  generalize tt (tl (tl (tl l))) = x4 at *
  generalize tt (tl (tl (tl (tl l)))) = x5 at *
  generalize iv8 (tl5 l) = x6 at *
  generalize rdX n (bSh l) = x7 at *
  exact smI_all (c := ⟨x1, x2, x3, x4, x5, x6, x7⟩) hX hT hV hS
/-- fewer than none, or more than eight: none's bytes -/
theorem dec_out {l : List UInt8} (h : nSh l < 0 ∨ 8 < nSh l) : ¬ (rightC (decC l) = 0 ∧ bytesC (decC l) = l) := fun hh => by
  obtain ⟨h1, h2⟩ := hh
  have hg := good_of h1
  have h3 := (dec_bytes hg).1
  rw [h2] at h3
  have h8 : (decC l).sh.length ≤ 8 := (good_small hg).2.2.2.2.2.2.2.1
  omega
theorem dec_in {l : List UInt8} {n : Nat} (h : nSh l = (n : Int)) (hn : n ≤ 8) : decC l = decN l n := by
  unfold decC
  rw [h, show (min (n : Int) 8).toNat = n by omega]
end Go.Proofs.YtkflakeocdlinaaGreatDoor
/-
  Contract of command.Decode.
-/
namespace Go.Proofs.YtkflakeocdlinaaGreatDoor
open Go.RowKit Go.Deep Go.Lib

theorem w64d {z : Int} (h1 : -9223372036854775808 ≤ z) (h2 : z ≤ 9223372036854775807) : wrap64 z = z := by unfold wrap64; omega
theorem infoShare : (Tryz.prog.info? 39).map (fun i => (i.zero, i.size, i.bytes)) = some (some (.agg #[.string ⟨#[]⟩, .int .i64 0]), 2, 24) := by kernel_rfl

/-- a reader, behind what was there -/
structure DeP (w0 : World) (br : Nat) (W : World) (L : List UInt8) : Prop where
  rat : ∃ c, RAt W br L c
  below : Below br w0 W
section
variable {w0 W W' : World} {br : Nat} {L L' : List UInt8}
theorem DeP.size (h : DeP w0 br W L) : br < W.heap.size := by obtain ⟨c, hc⟩ := h.rat; exact Blk.lt hc
theorem DeP.drew (h : DeP w0 br W L) : DeP w0 br W.drew L := by
  obtain ⟨c, hc⟩ := h.rat
  exact ⟨⟨c, hc.keep (Below.refl _ W).drew⟩, drewN_below h.below 1⟩
theorem DeP.keep (h : DeP w0 br W L) (hb : Below W.heap.size W W') : DeP w0 br W' L := by
  obtain ⟨c, hc⟩ := h.rat
  exact ⟨⟨c, hc.keep hb⟩, h.below.trans (bel_lessG hb (Nat.le_of_lt h.size))⟩
theorem DeP.on {r : Option Nat} (h : DeP w0 br W L) (hg : W.grownBy W' r) (hr : ∀ k, r = some k → br < k) : DeP w0 br W' L := by
  obtain ⟨c, hc⟩ := h.rat
  exact ⟨⟨c, Blk.kept hc hg fun e => by have := hr br e.symm; omega⟩, h.below.grown hg (Nat.le_of_lt h.size) fun k e => Nat.le_of_lt (hr k e)⟩
theorem DeP.set (h : DeP w0 br W L) {x : Nat} (hx : br < x) (j : Nat) (u : Value) : DeP w0 br (W.setCell ⟨x, j, none⟩ u) L := by
  obtain ⟨c, hc⟩ := h.rat
  exact ⟨⟨c, (show Blk W br _ _ from hc).stp ((Stp.refl [x] W).setCell (x := ⟨x, j, none⟩) (.inl (by simp)) u) (by simp; omega)⟩, h.below.setCell (p := ⟨x, j, none⟩) (Nat.le_of_lt hx) u⟩
theorem DeP.text (h : DeP w0 br W L) : Calls Tryz.prog 35 #[.pointer (some ⟨br, 0, none⟩)] W fun e w' => e = .returned (.string (st (tt L))) ∧ DeP w0 br w' (tl L) ∧ W.grownBy w' (some br) := by
  obtain ⟨c, hc⟩ := h.rat
  refine (rText_any br L c W hc).mono ?_
  rintro e w' ⟨he, hg, ha⟩
  exact ⟨he, ⟨⟨_, ha⟩, Below.of_grown h.below hg (Nat.le_of_lt h.size) (Nat.le_refl _)⟩, hg⟩
theorem DeP.int (h : DeP w0 br W L) : Calls Tryz.prog 36 #[.pointer (some ⟨br, 0, none⟩)] W fun e w' => e = .returned (.int .i64 (iv8 L)) ∧ DeP w0 br w' (lf 8 L) ∧ W.grownBy w' (some br) := by
  obtain ⟨c, hc⟩ := h.rat
  refine (rInt_any br L c W hc).mono ?_
  rintro e w' ⟨he, hg, ha⟩
  exact ⟨he, ⟨⟨_, ha⟩, Below.of_grown h.below hg (Nat.le_of_lt h.size) (Nat.le_refl _)⟩, hg⟩
end

/-- what the loop holds: a reader, a command in a box, its shares in a row of their own -/
structure LoP (w0 : World) (br bx B : Nat) (k i b u t : List UInt8) (m : Int) (W : World) (L : List UInt8) (xs : List Sh) (v : Value) : Prop where
  rd : DeP w0 br W L
  box : Blk W bx 24 #[.string (st k), .string (st i), .string (st b), .string (st u), .string (st t), .int .i64 m, v]
  own : W.ownsRow B 39 2 v xs.length (xs.flatMap cSh)
  lt : br < bx ∧ bx < B
  hB : B ≤ W.heap.size
section
variable {w0 W W' : World} {br bx B : Nat} {k i b u t : List UInt8} {m : Int} {L L' : List UInt8} {xs : List Sh} {v v' : Value}
theorem LoP.drew (h : LoP w0 br bx B k i b u t m W L xs v) : LoP w0 br bx B k i b u t m W.drew L xs v :=
  ⟨h.rd.drew, h.box.since (Below.refl _ W).drew, own_keepG h.own (Below.refl _ W).drew, h.lt, h.hB⟩
theorem LoP.up (h : LoP w0 br bx B k i b u t m W L xs v) : ∀ g, v.ownBlock = some g → bx < g ∧ br < g := fun g hg => by
  have h1 := (h.own.lt g hg).1
  have h2 := h.lt
  omega
theorem LoP.keep (h : LoP w0 br bx B k i b u t m W L xs v) (hb : Below W.heap.size W W') : LoP w0 br bx B k i b u t m W' L xs v :=
  ⟨h.rd.keep hb, h.box.since hb, own_keepG h.own hb, h.lt, Nat.le_trans h.hB hb.size⟩
theorem LoP.read (h : LoP w0 br bx B k i b u t m W L xs v) (hg : W.grownBy W' (some br)) (hr : DeP w0 br W' L') : LoP w0 br bx B k i b u t m W' L' xs v :=
  ⟨hr, h.box.kept hg (fun e => by have := h.lt.1; injection e with e; omega), own_stp h.own (Stp.of_grown (fp := [br]) hg (by simp)) (fun g hk hm => by
    rw [List.mem_singleton] at hm
    have := (h.up g hk).2
    omega), h.lt, Nat.le_trans h.hB hg.size⟩
theorem LoP.put {W3 : World} {x : Sh} (h : LoP w0 br bx B k i b u t m W L xs v) (hg : W.grownBy W3 v.ownBlock) (ho : W3.ownsRow B 39 2 v' (xs.length + 1) (xs.flatMap cSh ++ cSh x)) : LoP w0 br bx B k i b u t m (W3.setCell ⟨bx, 6, none⟩ v') L (xs ++ [x]) v' := by
  have hs := (Stp.refl [bx] W3).setCell (x := ⟨bx, 6, none⟩) (.inl (by simp)) v'
  have hbk : Blk W3 bx 24 #[.string (st k), .string (st i), .string (st b), .string (st u), .string (st t), .int .i64 m, v] := h.box.kept hg fun e => by have := (h.up bx e.symm).1; omega
  refine ⟨(h.rd.on hg fun g e => (h.up g e).2).set h.lt.1 6 v', hbk.set 6 v', ?_, h.lt, ?_⟩
  · refine own_stp (by rw [List.length_append, List.flatMap_append]; simpa using ho) hs fun g hk hm => ?_
    rw [List.mem_singleton] at hm
    have h1 := (ho.lt g hk).1
    have h2 := h.lt
    omega
  · exact Nat.le_trans h.hB (Nat.le_trans hg.size (by simp [World.setCell]))
end
theorem sh_one2 (p : List UInt8) (q : Int) : ∀ u ∈ (#[.string (st p), .int .i64 q] : Array Value).toList, u.oneCell' = true := by
  intro u hu
  simp only [List.mem_cons, List.not_mem_nil, or_false] at hu
  rcases hu with rfl | rfl <;> rfl

/-- what Decode answers -/
def DePost (l : List UInt8) (w : World) (e : Ending) (w' : World) : Prop :=
  ∃ (c : Cm) (a : Option Addr) (cp : Nat) (er : Int), e = .returned (.tuple #[.agg #[.string (st c.kind), .string (st c.id), .string (st c.about), .string (st c.cur), .string (st c.cat), .int .i64 c.amt, .slice a c.sh.length cp], .int .i64 er]) ∧ RowG 2 cSh w' a c.sh ∧ c.sh.length ≤ cp ∧ Below w.heap.size w w' ∧
    ((er = 0 ∧ c = decC l ∧ rightC c = 0 ∧ bytesC c = l) ∨ (er = 3 ∧ c = cZero ∧ ¬ (rightC (decC l) = 0 ∧ bytesC (decC l) = l)))

set_option maxHeartbeats 6400000 in
set_option maxRecDepth 100000 in
theorem decode_anyC (l : List UInt8) (w : World) (hl : l.length ≤ 100000) :
    Calls Tryz.prog 12 #[.string (st l)] w (DePost l w) := by
  have hb0 : Below w.heap.size w (w.alloc (.cells #[.string ⟨#[]⟩, .string ⟨#[]⟩, .string ⟨#[]⟩, .string ⟨#[]⟩, .string ⟨#[]⟩, .int .i64 0, .slice none 0 0] 24)) := (Below.refl _ w).alloc (Nat.le_refl _) _
  have HRS : Hid (Blk (w.alloc (.cells #[.string ⟨#[]⟩, .string ⟨#[]⟩, .string ⟨#[]⟩, .string ⟨#[]⟩, .string ⟨#[]⟩, .int .i64 0, .slice none 0 0] 24)) w.heap.size 24 #[.string ⟨#[]⟩, .string ⟨#[]⟩, .string ⟨#[]⟩, .string ⟨#[]⟩, .string ⟨#[]⟩, .int .i64 0, .slice none 0 0]) := Blk.new w _ _
  have HB0 := Lib.hid hb0
  obtain ⟨FC, hFC⟩ : ∃ FC, FC = decC l := ⟨_, rfl⟩
  have HFC := Lib.hid hFC
  obtain ⟨k, hk⟩ : ∃ k, k = tt l := ⟨_, rfl⟩
  obtain ⟨l1, hl1⟩ : ∃ l1, l1 = tl l := ⟨_, rfl⟩
  obtain ⟨i, hi⟩ : ∃ i, i = tt l1 := ⟨_, rfl⟩
  obtain ⟨l2, hl2⟩ : ∃ l2, l2 = tl l1 := ⟨_, rfl⟩
  obtain ⟨b, hb⟩ : ∃ b, b = tt l2 := ⟨_, rfl⟩
  obtain ⟨l3, hl3⟩ : ∃ l3, l3 = tl l2 := ⟨_, rfl⟩
  obtain ⟨u, hu⟩ : ∃ u, u = tt l3 := ⟨_, rfl⟩
  obtain ⟨l4, hl4⟩ : ∃ l4, l4 = tl l3 := ⟨_, rfl⟩
  obtain ⟨t, ht⟩ : ∃ t, t = tt l4 := ⟨_, rfl⟩
  obtain ⟨l5, hl5⟩ : ∃ l5, l5 = tl l4 := ⟨_, rfl⟩
  obtain ⟨m, hm⟩ : ∃ m, m = iv8 l5 := ⟨_, rfl⟩
  obtain ⟨l6, hl6⟩ : ∃ l6, l6 = lf 8 l5 := ⟨_, rfl⟩
  obtain ⟨n0, hn0⟩ : ∃ n0, n0 = iv8 l6 := ⟨_, rfl⟩
  obtain ⟨l7, hl7⟩ : ∃ l7, l7 = lf 8 l6 := ⟨_, rfl⟩
  obtain ⟨mi, hmi⟩ : ∃ mi, mi = min n0 8 := ⟨_, rfl⟩
  obtain ⟨cnt, hcnt⟩ : ∃ cnt, cnt = mi.toNat := ⟨_, rfl⟩
  have HDC : Hid (FC = ⟨k, i, b, u, t, m, rdX cnt l7⟩) := by
    show _ = _
    rw [hFC, hcnt, hmi, hn0, hl7, hl6, hm, ht, hu, hb, hi, hk, hl5, hl4, hl3, hl2, hl1]
    rfl
  have HKL : Hid (k.length ≤ 100000) := by show _ ≤ _; rw [hk]; exact Nat.le_trans (tt_len l) hl
  have T1 : ∀ {w0 : World} {br : Nat} (W : World), DeP w0 br W l → Hid (Calls Tryz.prog 35 #[.pointer (some ⟨br, 0, none⟩)] W fun e w' => e = .returned (.string (st k)) ∧ DeP w0 br w' l1) := fun W h => by rw [hk, hl1]; exact h.text.mono fun e w' h => ⟨h.1, h.2.1⟩
  have T2 : ∀ {w0 : World} {br : Nat} (W : World), DeP w0 br W l1 → Hid (Calls Tryz.prog 35 #[.pointer (some ⟨br, 0, none⟩)] W fun e w' => e = .returned (.string (st i)) ∧ DeP w0 br w' l2) := fun W h => by rw [hi, hl2]; exact h.text.mono fun e w' h => ⟨h.1, h.2.1⟩
  have T3 : ∀ {w0 : World} {br : Nat} (W : World), DeP w0 br W l2 → Hid (Calls Tryz.prog 35 #[.pointer (some ⟨br, 0, none⟩)] W fun e w' => e = .returned (.string (st b)) ∧ DeP w0 br w' l3) := fun W h => by rw [hb, hl3]; exact h.text.mono fun e w' h => ⟨h.1, h.2.1⟩
  have T4 : ∀ {w0 : World} {br : Nat} (W : World), DeP w0 br W l3 → Hid (Calls Tryz.prog 35 #[.pointer (some ⟨br, 0, none⟩)] W fun e w' => e = .returned (.string (st u)) ∧ DeP w0 br w' l4) := fun W h => by rw [hu, hl4]; exact h.text.mono fun e w' h => ⟨h.1, h.2.1⟩
  have T5 : ∀ {w0 : World} {br : Nat} (W : World), DeP w0 br W l4 → Hid (Calls Tryz.prog 35 #[.pointer (some ⟨br, 0, none⟩)] W fun e w' => e = .returned (.string (st t)) ∧ DeP w0 br w' l5) := fun W h => by rw [ht, hl5]; exact h.text.mono fun e w' h => ⟨h.1, h.2.1⟩
  have I1 : ∀ {w0 : World} {br : Nat} (W : World), DeP w0 br W l5 → Hid (Calls Tryz.prog 36 #[.pointer (some ⟨br, 0, none⟩)] W fun e w' => e = .returned (.int .i64 m) ∧ DeP w0 br w' l6) := fun W h => by rw [hm, hl6]; exact h.int.mono fun e w' h => ⟨h.1, h.2.1⟩
  have I2 : ∀ {w0 : World} {br : Nat} (W : World), DeP w0 br W l6 → Hid (Calls Tryz.prog 36 #[.pointer (some ⟨br, 0, none⟩)] W fun e w' => e = .returned (.int .i64 n0) ∧ DeP w0 br w' l7 ∧ W.grownBy w' (some br)) := fun W h => by rw [hn0, hl7]; exact h.int
  have hc8 : cnt ≤ 8 := by omega
  have hcm : ∀ j : Nat, j < cnt → (j : Int) < mi := fun j hj => by omega
  have hcn : ∀ j : Nat, cnt ≤ j → mi ≤ (j : Int) := fun j hj => by omega
  have HCM := Lib.hid hcm
  have HCN := Lib.hid hcn
  have HC8 := Lib.hid hc8
  have HMIN : Hid (min n0 8 = mi) := hmi.symm
  clear hk hl1 hi hl2 hb hl3 hu hl4 ht hl5 hm hl6 hn0 hl7 hcnt hb0 hFC hc8 hcm hcn hmi
  unfold DePost
  rw [← HFC.out]
  go_enter Tryz.func12, Tryz.ntmps12
  go_upto_region 1 with fail
  obtain ⟨rs, hrs⟩ : ∃ rs, rs = w.heap.size := ⟨_, rfl⟩
  have HE := Lib.hid hrs
  rw [← hrs] at HRS HB0 ⊢
  generalize w.alloc (.cells #[.string ⟨#[]⟩, .string ⟨#[]⟩, .string ⟨#[]⟩, .string ⟨#[]⟩, .string ⟨#[]⟩, .int .i64 0, .slice none 0 0] 24) = w0 at HRS HB0 ⊢
  clear hrs
  have hrs0 : rs < w0.heap.size := HRS.out.lt
  have HRD : Hid (Calls Tryz.prog 34 #[.string (st l)] w0 fun e w' => e = .returned (.pointer (some ⟨w0.heap.size, 0, none⟩)) ∧ DeP w0 w0.heap.size w' l) := by
    refine (read_any (st l) w0).mono ?_
    rintro e w' ⟨he, hb, ha⟩
    have hd : (st l).data.toList = l := st_toList l
    rw [hd] at ha
    exact ⟨he, ⟨_, ha⟩, hb⟩
  go_wp2_with fail
  refine HRD.out.mono ?_
  rintro e w1 ⟨rfl, hD⟩
  obtain ⟨br, hbr⟩ : ∃ br, br = w0.heap.size := ⟨_, rfl⟩
  rw [← hbr] at hD ⊢
  have HBR := Lib.hid hbr
  have hrs1 : rs < br := by omega
  clear hbr HRD hrs0
  go_wp2_with fail
  refine (T1 _ hD).out.mono ?_
  rintro e w2 ⟨rfl, D2⟩
  go_wp2_with fail
  refine (T2 _ D2).out.mono ?_
  rintro e w3 ⟨rfl, D3⟩
  go_wp2_with fail
  refine (T3 _ D3).out.mono ?_
  rintro e w4 ⟨rfl, D4⟩
  go_wp2_with fail
  refine (T4 _ D4).out.mono ?_
  rintro e w5 ⟨rfl, D5⟩
  go_wp2_with fail
  refine (T5 _ D5).out.mono ?_
  rintro e w6 ⟨rfl, D6⟩
  go_wp2_with fail
  refine (I1 _ D6).out.mono ?_
  rintro e w7 ⟨rfl, D7⟩
  have HD7 := Lib.hid D7
  clear hD D2 D3 D4 D5 D6 D7 T1 T2 T3 T4 T5 I1
  go_upto_region 3 with fail
  obtain ⟨bx, hbx⟩ : ∃ bx, bx = w7.heap.size := ⟨_, rfl⟩
  have HBX : Hid (Blk (w7.alloc (.cells #[.string (st k), .string (st i), .string (st b), .string (st u), .string (st t), .int .i64 m, .slice none 0 0] 24)) bx 24 #[.string (st k), .string (st i), .string (st b), .string (st u), .string (st t), .int .i64 m, .slice none 0 0]) := by rw [hbx]; exact Blk.new w7 _ _
  have HD8 : Hid (DeP w0 br (w7.alloc (.cells #[.string (st k), .string (st i), .string (st b), .string (st u), .string (st t), .int .i64 m, .slice none 0 0] 24)) l6) := HD7.out.keep ((Below.refl _ w7).alloc (Nat.le_refl _) _)
  have hlt : br < bx := by rw [hbx]; exact HD7.out.size
  rw [← hbx]
  generalize w7.alloc (.cells #[.string (st k), .string (st i), .string (st b), .string (st u), .string (st t), .int .i64 m, .slice none 0 0] 24) = w8 at HBX HD8 ⊢
  clear hbx HD7
  go_wp2_with fail
  refine (I2 _ HD8.out).out.mono ?_
  rintro e w9 ⟨rfl, D9, hg⟩
  have HLO : Hid (LoP w0 br bx w9.heap.size k i b u t m w9 l7 [] (.slice none 0 0)) :=
    ⟨D9, HBX.out.kept hg (fun e => by injection e with e; omega), World.ownsRow_nil w9 _ 39 2, ⟨hlt, Nat.lt_of_lt_of_le HBX.out.lt hg.size⟩, Nat.le_refl _⟩
  obtain ⟨B, hB⟩ : ∃ B, B = w9.heap.size := ⟨_, rfl⟩
  rw [← hB] at HLO
  clear hB D9 hg HBX HD8 I2 hlt
  go_wp2
  rw [HMIN.out]
  go_loopg [26] cnt (fun gk ix wr => ∃ (j : Nat) (v : Value), j ≤ cnt ∧ ix = .int .i64 j ∧ cnt - j ≤ gk ∧ Hid (LoP w0 br bx B k i b u t m wr (rdR j l7) (rdX j l7) v))
  case atStart => exact ⟨0, _, Nat.zero_le _, rfl, by omega, HLO.out⟩
  case round =>
    clear HLO
    obtain ⟨j, v, hj, rfl, hgk, HL⟩ := hrel
    by_cases hlt : j < cnt
    · have hkn : (j : Int) < mi := HCM.out j hlt
      have hkz : (0 : Int) ≤ (j : Int) := by omega
      have hlen : (rdX j l7).length = j := rdX_len j l7
      obtain ⟨L, hL⟩ : ∃ L, L = rdR j l7 := ⟨_, rfl⟩
      obtain ⟨xs, hxs⟩ : ∃ xs, xs = rdX j l7 := ⟨_, rfl⟩
      obtain ⟨p, hp⟩ : ∃ p, p = tt L := ⟨_, rfl⟩
      obtain ⟨L1, hL1⟩ : ∃ L1, L1 = tl L := ⟨_, rfl⟩
      obtain ⟨q, hq⟩ : ∃ q, q = iv8 L1 := ⟨_, rfl⟩
      obtain ⟨L2, hL2⟩ : ∃ L2, L2 = lf 8 L1 := ⟨_, rfl⟩
      have HX2 : Hid (xs ++ [(p, q)] = rdX (j + 1) l7 ∧ L2 = rdR (j + 1) l7) := by
        refine ⟨?_, ?_⟩
        · rw [hxs, hp, hq, hL1, hL]; rfl
        · rw [hL2, hL1, hL]; rfl
      have TP : ∀ W, DeP w0 br W L → Hid (Calls Tryz.prog 35 #[.pointer (some ⟨br, 0, none⟩)] W fun e w' => e = .returned (.string (st p)) ∧ DeP w0 br w' L1 ∧ W.grownBy w' (some br)) := fun W h => by rw [hp, hL1]; exact h.text
      have IP : ∀ W, DeP w0 br W L1 → Hid (Calls Tryz.prog 36 #[.pointer (some ⟨br, 0, none⟩)] W fun e w' => e = .returned (.int .i64 q) ∧ DeP w0 br w' L2 ∧ W.grownBy w' (some br)) := fun W h => by rw [hq, hL2]; exact h.int
      rw [← hL, ← hxs] at HL
      rw [← hxs] at hlen
      have HLEN : Hid (xs.length ≤ 8) := by have := HC8.out; show _ ≤ _; omega
      have HLD := Lib.hid HL.out.drew
      clear hL hxs hp hL1 hq hL2 hlen HL
      go_wp2_with fail
      refine wp_region_E (fun w' => w'.cell? ⟨bx, 6, none⟩ = some v) [10] (by kernel_rfl) ?_
      generalize wr.drew = W at HLD ⊢
      have HS0 : Hid (W.cell? ⟨bx, 6, none⟩ = some v) := HLD.out.box.cell 6
      refine wpAnyE_take 0 (some 28) (.pointer (some ⟨bx, 6, none⟩)) rfl rfl (by kernel_rfl) (by kernel_rfl) (by kernel_rfl) (by kernel_rfl) (fun _ _ _ h => h) (Or.inl ⟨by rfl, fun w _ => by go_simp⟩) HS0.out ?_
      simp only [Act.put, List.setIfInBounds_toArray, List.set_cons_zero, List.set_cons_succ]
      refine wpAnyE_take 1 (some 29) (v) rfl rfl (by kernel_rfl) (by kernel_rfl) (by kernel_rfl) (by kernel_rfl) (fun _ _ _ h => h) (yields_load rfl 22 _ rfl Tryz.underlying22 rfl _ rfl _ (fun w h => h)) HS0.out ?_
      simp only [Act.put, List.setIfInBounds_toArray, List.set_cons_zero, List.set_cons_succ]
      refine wpAnyE_take 2 (some 30) (.pointer (some ⟨br, 0, none⟩)) rfl rfl (by kernel_rfl) (by kernel_rfl) (by kernel_rfl) (by kernel_rfl) (fun _ _ _ h => h) (yields_move rfl _ rfl _ rfl) HS0.out ?_
      simp only [Act.put, List.setIfInBounds_toArray, List.set_cons_zero, List.set_cons_succ]
      refine wpAnyE_take 4 (some 32) (.pointer (some ⟨br, 0, none⟩)) rfl rfl (by kernel_rfl) (by kernel_rfl) (by kernel_rfl) (by kernel_rfl) (fun _ _ _ h => h) (yields_move rfl _ rfl _ rfl) HS0.out ?_
      simp only [Act.put, List.setIfInBounds_toArray, List.set_cons_zero, List.set_cons_succ]
      refine wpAnyE_oneG 3 (by kernel_rfl) rfl (by rfl) (fun K hK => ?_)
      go_simp
      refine (TP _ HLD.out.rd).out.mono ?_
      rintro e W1 ⟨rfl, hd1, hg1⟩
      have HL1 := Lib.hid (HLD.out.read hg1 hd1)
      have HS1 : Hid (W1.cell? ⟨bx, 6, none⟩ = some v) := HL1.out.box.cell 6
      clear hg1 hd1
      try go_wp2_with fail
      refine hK.out _ _ HS1.out ?_
      clear hK K
      try simp only [Act.put, List.setIfInBounds_toArray, List.set_cons_zero, List.set_cons_succ]
      refine wpAnyE_oneG 5 (by kernel_rfl) rfl (by rfl) (fun K hK => ?_)
      go_simp
      refine (IP _ HL1.out.rd).out.mono ?_
      rintro e W2 ⟨rfl, hd2, hg2⟩
      have HL2 := Lib.hid (HL1.out.read hg2 hd2)
      have HS2 : Hid (W2.cell? ⟨bx, 6, none⟩ = some v) := HL2.out.box.cell 6
      clear hg2 hd2
      try go_wp2_with fail
      refine hK.out _ _ HS2.out ?_
      clear hK K
      try simp only [Act.put, List.setIfInBounds_toArray, List.set_cons_zero, List.set_cons_succ]
      refine wpAnyE_step 6 (some 34) (.agg #[.string (st p), .int .i64 q]) (by kernel_rfl) rfl rfl (Or.inl ⟨by rfl, fun w _ => by go_simp⟩) HS2.out ?_
      simp only [Act.put, List.setIfInBounds_toArray, List.set_cons_zero, List.set_cons_succ]
      refine wpAnyE_one (i := 7) (by kernel_rfl) rfl rfl ?_
      refine wp_buildSlice_one (some 35) rfl 22 39 _ rfl _ 2 24 Tryz.underlying22 infoShare (by omega) (by omega) #[.string (st p), .int .i64 q] rfl rfl ?_
      simp only [Act.put, List.setIfInBounds_toArray, List.set_cons_zero, List.set_cons_succ]
      have HB3 : Hid (Below W2.heap.size W2 (W2.alloc (.cells #[.string (st p), .int .i64 q] 39))) := (Below.refl _ W2).alloc (Nat.le_refl _) _
      have HBN : Hid (Blk (W2.alloc (.cells #[.string (st p), .int .i64 q] 39)) W2.heap.size 39 #[.string (st p), .int .i64 q]) := Blk.new W2 _ _
      generalize W2.alloc (.cells #[.string (st p), .int .i64 q] 39) = W3 at HB3 HBN ⊢
      have HL3 := Lib.hid (HL2.out.keep HB3.out)
      refine ⟨HL3.out.box.cell 6, ?_⟩
      refine wpAnyE_one (i := 8) (by kernel_rfl) rfl rfl ?_
      refine wp_append_wide (some 36) rfl (.tmp 29) (.tmp 35) 22 39 rfl B _ 2 24 Tryz.underlying22 infoShare rfl (by omega) v xs.length _ rfl W2.heap.size 1 rfl HL3.out.own _ HBN.out rfl (sh_one2 p q) (by have := HLEN.out; unfold maxLen; omega) (by have := HLEN.out; omega) HL3.out.hB ?_
      intro v' W4 hown4 hgr4 hat4
      simp only [Act.put, List.setIfInBounds_toArray, List.set_cons_zero, List.set_cons_succ]
      have HL4 : Hid (LoP w0 br bx B k i b u t m (W4.setCell ⟨bx, 6, none⟩ v') L2 (xs ++ [(p, q)]) v') := HL3.out.put (x := (p, q)) hgr4 hown4
      have HX4 := Lib.hid (HL3.out.box.kept hgr4 fun e => by have := (HL3.out.up bx e.symm).1; omega)
      obtain ⟨va, vc, hvv⟩ := own_sliceG hown4
      clear hgr4 hown4 hat4
      have HS4 : Hid (W4.cell? ⟨bx, 6, none⟩ = some v) := HX4.out.cell 6
      refine ⟨HS4.out, ?_⟩
      refine wpAnyE_step 9 (some 37) (.pointer (some ⟨bx, 6, none⟩)) (by kernel_rfl) rfl rfl (Or.inl ⟨by rfl, fun w _ => by go_simp⟩) HS4.out ?_
      simp only [Act.put, List.setIfInBounds_toArray, List.set_cons_zero, List.set_cons_succ]
      refine wpAnyE_end (i := 10) (by kernel_rfl) rfl rfl rfl ?_
      refine wp_store_one none rfl 22 _ _ rfl (by kernel_rfl) ⟨bx, 6, none⟩ rfl v' v rfl (by rw [hvv]; rfl) (HX4.out.cell 6) (HX4.out.frozen 6) ?_
      simp only [Act.put]
      refine wpAnyE_done (by kernel_rfl) ?_ _
      rw [HX2.out.1, HX2.out.2] at HL4
      generalize W4.setCell ⟨bx, 6, none⟩ v' = W5 at HL4 ⊢
      clear HS4 HX4 HL3 HL2 HL1 HLD HS0 HS1 HS2 HB3 HBN hvv TP IP HX2 HLEN
      go_wp2
      go_roundg (cnt - (j + 1))
      case measure => omega
      case rel =>
        have h8 := HC8.out
        exact ⟨j + 1, v', by omega, (by rw [w64d (z := (j : Int) + 1) (by omega) (by omega)]; go_num), by omega, HL4.out⟩
    · have hk0 : mi ≤ (j : Int) := HCN.out j (by omega)
      have hkn : ¬ (j : Int) < mi := by omega
      have e : j = cnt := by omega
      obtain ⟨aa, cc, hv, hrow, hup, hcp⟩ := RowG.own cSh_len HL.out.own rfl
      have hsh : FC.sh = rdX j l7 := by rw [HDC.out, e]
      have HBP : Hid (BoxP wr bx FC aa cc) := by
        refine ⟨?_, by rw [hsh]; exact hrow, (fun p hp => by have h1 := hup p hp; have h2 := HL.out.lt.2; omega), by rw [hsh]; exact hcp⟩
        have h := HL.out.box
        rw [hv, ← hsh] at h
        rw [HDC.out] at h ⊢
        exact h
      have HUA : Hid (∀ p, aa = some p → w0.heap.size ≤ p.block) := fun p hp => by have h1 := hup p hp; have h2 := HL.out.lt; have h3 := HBR.out; omega
      have HLEN : Hid (FC.sh.length ≤ 8) := by show _ ≤ _; rw [hsh, rdX_len]; have := HC8.out; omega
      have HKC : Hid (FC.kind.length ≤ 100000) := by rw [HDC.out]; exact HKL.out
      have HBr : Hid (Below br w0 wr) := HL.out.rd.below
      have HEN : Hid (Calls Tryz.prog 9 #[.agg #[.string (st FC.kind), .string (st FC.id), .string (st FC.about), .string (st FC.cur), .string (st FC.cat), .int .i64 FC.amt, .slice aa FC.sh.length cc]] wr fun e w' => e = .returned (.tuple #[.string (st (enT FC)), .int .i64 (rightC FC)]) ∧ Below wr.heap.size wr w') :=
        encode_any18 FC aa cc wr (by have := HKC.out; unfold maxLen; omega) HBP.out.row HBP.out.room (by have := HLEN.out; omega)
      clear hv hrow hup hcp hsh HL HDC e
      obtain ⟨R, hR⟩ : ∃ R, R = rightC FC := ⟨_, rfl⟩
      have HRE := Lib.hid hR
      rw [← hR] at HEN
      have HRSr : Hid (Blk wr rs 24 #[.string ⟨#[]⟩, .string ⟨#[]⟩, .string ⟨#[]⟩, .string ⟨#[]⟩, .string ⟨#[]⟩, .int .i64 0, .slice none 0 0]) := HRS.out.below HBr.out hrs1
      have HRW : Hid (w.heap.size ≤ rs) := Nat.le_of_eq HE.out.symm
      have HBw : Hid (Below w.heap.size w wr) := (show Below w.heap.size w w0 by rw [← HE.out]; exact HB0.out).trans (bel_lessG HBr.out (by have := HE.out; omega))
      obtain ⟨d0, d1, d2, d3, d4, d5, d6⟩ := cell_seven HBP.out.blk
      clear hR HBr
      by_cases hg : R = 0 ∧ enT FC = l
      · obtain ⟨h1, h2⟩ := hg
        have HV1 : Hid (rightC FC = 0) := by show _ = _; rw [← HRE.out]; exact h1
        have HV2 : Hid (bytesC FC = l) := by show _ = _; rw [← h2]; unfold enT; rw [if_pos HV1.out]
        rw [h1, h2] at HEN
        clear h1 h2 HRE
        go_wp2_with fail
        refine HEN.out.mono ?_
        rintro e w7 ⟨rfl, hb⟩
        have HBP7 := Lib.hid (HBP.out.keep hb)
        have HRS7 := Lib.hid (HRSr.out.since hb)
        have HB7 := Lib.hid (bel_onG HBw.out HBw.out.size hb)
        clear hb d0 d1 d2 d3 d4 d5 d6 HEN HBP HRSr
        obtain ⟨d0, d1, d2, d3, d4, d5, d6⟩ := cell_seven HBP7.out.blk
        obtain ⟨r0, r1, r2, r3, r4, r5, r6⟩ := cell_seven HRS7.out
        have f0 := HRS7.out.frozen 0
        have f1 := HRS7.out.frozen 1
        have f2 := HRS7.out.frozen 2
        have f3 := HRS7.out.frozen 3
        have f4 := HRS7.out.frozen 4
        have f5 := HRS7.out.frozen 5
        have f6 := HRS7.out.frozen 6
        go_wp2
        have hs := put7_stp w7 rs (.string (st FC.kind)) (.string (st FC.id)) (.string (st FC.about)) (.string (st FC.cur)) (.string (st FC.cat)) (.int .i64 FC.amt) (.slice aa FC.sh.length cc)
        exact bodyPost_ret (cmd_ret2 rfl rs rfl (HRS7.out.put7 _ _ _ _ _ _ _) rfl) rfl ⟨FC, aa, cc, 0, rfl, HBP7.out.row.stp0 hs (fun _ p hp => by have h1 := HUA.out p hp; have h2 := HBR.out; simp; omega), HBP7.out.room, HB7.out.trans (hs.below (fun kk hk => by rw [List.mem_singleton] at hk; rw [hk]; exact HRW.out) HB7.out.size), .inl ⟨rfl, rfl, HV1.out, HV2.out⟩⟩
      · have HV1 : Hid (¬ (rightC FC = 0 ∧ bytesC FC = l)) := fun h => hg ⟨by rw [HRE.out]; exact h.1, by unfold enT; rw [if_pos h.1]; exact h.2⟩
        obtain ⟨X, hX⟩ : ∃ X, X = enT FC := ⟨_, rfl⟩
        rw [← hX] at HEN hg
        have HRX : Hid ((R != 0) = true ∨ ((R != 0) = false ∧ ((st X).toList == (st l).toList) = false)) := by
          by_cases h1 : R = 0
          · exact .inr ⟨by rw [h1]; rfl, st_neb (fun h => hg ⟨h1, h⟩)⟩
          · exact .inl (by rw [bne_iff_ne]; exact h1)
        clear hX hg HRE
        go_wp2_with fail
        refine HEN.out.mono ?_
        rintro e w7 ⟨rfl, hb⟩
        have HRS7 := Lib.hid (HRSr.out.since hb)
        have HB7 := Lib.hid (bel_onG HBw.out HBw.out.size hb)
        clear hb d0 d1 d2 d3 d4 d5 d6 HEN HBP HRSr
        obtain ⟨r0, r1, r2, r3, r4, r5, r6⟩ := cell_seven HRS7.out
        have f0 := HRS7.out.frozen 0
        have f1 := HRS7.out.frozen 1
        have f2 := HRS7.out.frozen 2
        have f3 := HRS7.out.frozen 3
        have f4 := HRS7.out.frozen 4
        have f5 := HRS7.out.frozen 5
        have f6 := HRS7.out.frozen 6
        have HFIN : Hid (Blk (((((((w7.setCell ⟨rs, 0, none⟩ (.string ⟨#[]⟩)).setCell ⟨rs, 1, none⟩ (.string ⟨#[]⟩)).setCell ⟨rs, 2, none⟩ (.string ⟨#[]⟩)).setCell ⟨rs, 3, none⟩ (.string ⟨#[]⟩)).setCell ⟨rs, 4, none⟩ (.string ⟨#[]⟩)).setCell ⟨rs, 5, none⟩ (.int .i64 0)).setCell ⟨rs, 6, none⟩ (.slice none 0 0)) rs 24 #[.string ⟨#[]⟩, .string ⟨#[]⟩, .string ⟨#[]⟩, .string ⟨#[]⟩, .string ⟨#[]⟩, .int .i64 0, .slice none 0 0]) := HRS7.out.put7 _ _ _ _ _ _ _
        have hs := put7_stp w7 rs (.string ⟨#[]⟩) (.string ⟨#[]⟩) (.string ⟨#[]⟩) (.string ⟨#[]⟩) (.string ⟨#[]⟩) (.int .i64 0) (.slice none 0 0)
        have HBF := Lib.hid (HB7.out.trans (hs.below (fun kk hk => by rw [List.mem_singleton] at hk; rw [hk]; exact HRW.out) HB7.out.size))
        clear hs
        rcases HRX.out with h1 | ⟨h1, h2⟩
        · go_wp2
          exact bodyPost_ret (cmd_ret2 rfl rs rfl HFIN.out rfl) rfl ⟨cZero, none, 0, 3, rfl, RowG.nil _ _, Nat.le_refl _, HBF.out, .inr ⟨rfl, rfl, HV1.out⟩⟩
        · go_wp2
          exact bodyPost_ret (cmd_ret2 rfl rs rfl HFIN.out rfl) rfl ⟨cZero, none, 0, 3, rfl, RowG.nil _ _, Nat.le_refl _, HBF.out, .inr ⟨rfl, rfl, HV1.out⟩⟩

/-- the two ways of Decode -/
theorem decode_two (l : List UInt8) (w : World) (hl : l.length ≤ 100000) :
    Calls Tryz.prog 12 #[.string (st l)] w fun e w' => Below w.heap.size w w' ∧
      ((∃ a cp, e = .returned (.tuple #[.agg #[.string (st (decC l).kind), .string (st (decC l).id), .string (st (decC l).about), .string (st (decC l).cur), .string (st (decC l).cat), .int .i64 (decC l).amt, .slice a (decC l).sh.length cp], .int .i64 0]) ∧ RowG 2 cSh w' a (decC l).sh ∧ (decC l).sh.length ≤ cp ∧ rightC (decC l) = 0 ∧ bytesC (decC l) = l) ∨
       (∃ a cp, e = .returned (.tuple #[.agg #[.string ⟨#[]⟩, .string ⟨#[]⟩, .string ⟨#[]⟩, .string ⟨#[]⟩, .string ⟨#[]⟩, .int .i64 0, .slice a 0 cp], .int .i64 3]) ∧ ¬ (rightC (decC l) = 0 ∧ bytesC (decC l) = l))) := by
  refine (decode_anyC l w hl).mono ?_
  rintro e w' ⟨c, a, cp, er, he, hr, hc, hb, h⟩
  refine ⟨hb, ?_⟩
  rcases h with ⟨rfl, rfl, h1, h2⟩ | ⟨rfl, rfl, h1⟩
  · exact .inl ⟨a, cp, he, hr, hc, h1, h2⟩
  · exact .inr ⟨a, cp, he, h1⟩
end Go.Proofs.YtkflakeocdlinaaGreatDoor
