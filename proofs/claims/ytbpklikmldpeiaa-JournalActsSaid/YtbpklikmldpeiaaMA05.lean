/-
  A journal that nothing happens to: its calls; slices.Equal and Clone of texts.
-/
import Derived.Test.YtbpklikmldpeiaaJnEMA
import Derived.Test.YtbpklikmldpeiaaMA04
import Derived.Test.YtbpklikmldpeiaaEqSMA
import Derived.Test.YtbpklikmldpeiaaMA02
import Derived.Test.YtbpklikmldpeiaaDskFMA
import Derived.Test.YtbpklikmldpeiaaJnSMA
import Derived.Test.YtbpklikmldpeiaaRDskCMA
namespace Go.Proofs.Ytbpklikmldpeiaa
open Go.RowKit Go.Lib

/-- slices.Equal of texts -/
theorem equal_texts (a1 a2 : Option Addr) (c1 c2 n1 n2 : Nat) (xs ys : List (List UInt8)) (w : World) (h1 : RowS w a1 xs) (h2 : RowS w a2 ys) (hn1 : n1 = xs.length) (hn2 : n2 = ys.length) (hb1 : n1 ≤ 1000000) (hb2 : n2 ≤ 1000000) :
    Calls Try.prog 16 #[.slice a1 n1 c1, .slice a2 n2 c2] w fun e w' => e = .returned (.bool (decide (xs = ys))) ∧ ∃ q, w' = w.drewN q := by
  subst hn1 hn2
  by_cases hl : xs.length = ys.length
  · by_cases h0 : xs.length = 0
    · have e1 : xs = [] := List.eq_nil_of_length_eq_zero h0
      have e2 : ys = [] := List.eq_nil_of_length_eq_zero (by omega)
      subst e1 e2
      refine (Try.slices_Equal_string_empty a1 a2 c1 0 c2 w (by omega)).mono ?_
      rintro e w' ⟨rfl, rfl⟩
      exact ⟨rfl, 0, rfl⟩
    · obtain ⟨b1, o1, e1, hc1⟩ := h1 (by omega)
      obtain ⟨b2, o2, e2, hc2⟩ := h2 (by omega)
      subst e1 e2
      have get : ∀ (ls : List (List UInt8)) j, j < (ls.map st).length → ∃ x, ls[j]? = some x ∧ (ls.map st).getD j ByteArray.empty = st x := fun ls j hj => by
        rw [List.length_map] at hj
        refine ⟨ls[j], List.getElem?_eq_getElem hj, ?_⟩
        rw [List.getD_eq_getElem?_getD, List.getElem?_map, List.getElem?_eq_getElem hj]; rfl
      refine (Try.slices_Equal_string b1 o1 xs.length c1 b2 o2 ys.length c2 (xs.map st) (ys.map st) w (by simp) (by simp) (by omega) (by omega) (fun j hj => ?_) (fun j hj => ?_)).mono ?_
      · obtain ⟨x, hx, hg⟩ := get xs j hj
        rw [hg]; exact hc1 j x hx
      · obtain ⟨x, hx, hg⟩ := get ys j hj
        rw [hg]; exact hc2 j x hx
      · rintro e w' ⟨rfl, hq⟩
        refine ⟨?_, hq⟩
        rw [List.take_of_length_le (by simp), List.take_of_length_le (by simp)]
        have e : decide (xs.map st = ys.map st) = decide (xs = ys) := by
          rw [decide_eq_decide]
          refine ⟨fun h => ?_, fun h => by rw [h]⟩
          apply List.ext_getElem?
          intro i
          have h3 := congrArg (·[i]?) h
          simp only [List.getElem?_map] at h3
          cases hx : xs[i]? with
          | none => rw [hx] at h3; cases hy : ys[i]? with
            | none => rfl
            | some y => rw [hy] at h3; cases h3
          | some x =>
            rw [hx] at h3
            cases hy : ys[i]? with
            | none => rw [hy] at h3; cases h3
            | some y =>
              rw [hy] at h3
              injection h3 with h3
              have := congrArg (fun z : ByteArray => z.data.toList) h3
              rw [st_toList, st_toList] at this
              rw [this]
        rw [e]
  · have e : decide (xs = ys) = false := decide_eq_false (fun h => hl (by rw [h]))
    rw [e]
    refine (Try.slices_Equal_string_lens a1 a2 xs.length c1 ys.length c2 w hl).mono ?_
    rintro e w' ⟨rfl, rfl⟩
    exact ⟨rfl, 0, rfl⟩

/-- an Append, and what is there then -/
structure Next (L : List (List UInt8)) (z : Nat) (p : List UInt8) (L' : List (List UInt8)) (z' : Nat) (t : Int) : Prop where
  app : (Cl L z).app L.length (used L) p = (Cl L' z', t)
  ok : AllOk L'
  room : used L' + z' = used L + z
  n : nAfter (Cl L' z', t) L.length = L'.length
  u : uAfter (Cl L' z', t) (used L) (cnt p.length) = used L'
  or : (t = 0 ∧ L' = L ++ [p]) ∨ (t ≠ 0 ∧ L' = L)
theorem next_of {L : List (List UInt8)} (h : AllOk L) (z : Nat) (p : List UInt8) : ∃ L' z' t, Next L z p L' z' t := by
  rcases app_cl L z p with ⟨hr, hc, he⟩ | ⟨t, ht, he⟩
  · refine ⟨L ++ [p], z - cnt p.length, 0, he, h.snoc hr, ?_, ?_, ?_, .inl ⟨rfl, rfl⟩⟩
    · rw [used_snoc]; omega
    · unfold nAfter; rw [if_pos rfl, List.length_append]; rfl
    · unfold uAfter; rw [if_pos rfl, used_snoc]
  · refine ⟨L, z, t, he, h, rfl, ?_, ?_, .inr ⟨ht, rfl⟩⟩
    · unfold nAfter; rw [if_neg ht]
    · unfold uAfter; rw [if_neg ht]

/-- a journal of such records -/
def JCl (jb b : Nat) (L : List (List UInt8)) (z : Nat) : World → List Nat → Prop := PJr jb b (Cl L z) L.length (used L)
theorem JCl.stays (jb b : Nat) (L : List (List UInt8)) (z : Nat) : Stays (JCl jb b L z) := PJr.stays _ _ _ _ _

theorem Cl.len (L : List (List UInt8)) (z : Nat) : (Cl L z).bl.length = used L + z := fitL_length L z

theorem append_cl (jb b : Nat) {L L' : List (List UInt8)} {z z' : Nat} {p : List UInt8} {t : Int} (hx : Next L z p L' z' t) (fp : List Nat) (w : World) (h : JCl jb b L z w fp) (hk : AllOk L) (hz : used L + z ≤ 65536) (hp : p.length ≤ 100000000) :
    Calls Try.prog 12 #[.pointer (some ⟨jb, 0, none⟩), .string (st p)] w fun e w' => e = .returned (.int .i64 t) ∧ After fp w w' (JCl jb b L' z' w') := by
  have := append_any jb b L.length (used L) (Cl L z) p fp w h (by simp [Cl]) (by rw [Cl.len]; omega) (by have := hk.few; omega) hp
  rw [hx.app, hx.n, hx.u] at this
  exact this

/-- what Open gives -/
structure JX where
  jb : Nat
  v : Value

theorem open_cl_any (b : Nat) (L : List (List UInt8)) (z : Nat) (fp : List Nat) (w : World) (h : PDr b (Cl L z) w fp) (hk : AllOk L) (hz : used L + z ≤ 65536) :
    Calls Try.prog 10 #[.pointer (some ⟨b, 0, none⟩)] w fun e w' => ∃ x : JX, e = .returned (.tuple #[.pointer (some ⟨x.jb, 0, none⟩), x.v, .int .i64 0]) ∧ After fp w w' (Sep (JCl x.jb b L z) (TxR x.v L) w') := by
  refine (open_any b (Cl L z) fp w h rfl rfl).mono ?_
  rintro e w' ⟨x, ⟨hr, he⟩, ha⟩
  obtain ⟨e1, e2, e3⟩ := open_cl hk hz hr
  obtain ⟨ps, u, jb, v⟩ := x
  simp only at e1 e2 e3 he hr
  subst e1 e2
  unfold OpP at ha
  simp only at ha
  rw [e3] at he ha
  exact ⟨⟨jb, v⟩, he, ha⟩

theorem new_cl (n : Nat) (w : World) (h : n ≤ 65536) :
    Calls Try.prog 8 #[.int .i64 n] w fun e w' => ∃ b, e = .returned (.pointer (some ⟨b, 0, none⟩)) ∧ ∃ fp, PDr b (Cl [] n) w' fp ∧ Below w.heap.size w w' ∧ ∀ k ∈ fp, w.heap.size ≤ k := by
  refine (new_yes n w h).mono ?_
  rintro e w' ⟨b, fp, rfl, hp, hb⟩
  rw [newDS_cl] at hp
  refine ⟨b, rfl, fp, ?_, hb, fun k hk => (hp.lt k hk).1⟩
  obtain ⟨g, n', v, fz, bs, h, rfl⟩ := hp
  exact ⟨g, n', v, fz, bs, ⟨h.ok, h.map, h.last, h.num, h.box, h.fz, h.row, (OwnR.of h.own).1.1, Nat.zero_le _, Nat.zero_le _⟩, rfl⟩

/-- All, and Records of it -/
theorem all_row (b : Nat) (s : DS) (fp : List Nat) (w : World) (h : PDr b s w fp) :
    Calls Try.prog 17 #[.pointer (some ⟨b, 0, none⟩)] w fun e w' => ∃ g n, n = s.bl.length ∧ e = .returned (.slice (some ⟨g, 0, none⟩) n n) ∧ RowS w' (some ⟨g, 0, none⟩) s.bl ∧ Below w.heap.size w w' := by
  refine (all_any 0 b s fp w h).mono ?_
  rintro e w' ⟨g, n, hn, rfl, hown, hb⟩
  exact ⟨g, n, hn, rfl, RowS.of_own (n := n) (c := n) hown, hb⟩
theorem records_cl (g n : Nat) (L : List (List UInt8)) (z : Nat) (w : World) (hr : RowS w (some ⟨g, 0, none⟩) (Cl L z).bl) (hn : n = (Cl L z).bl.length) (hk : AllOk L) (hz : used L + z ≤ 65536) :
    Calls Try.prog 18 #[.slice (some ⟨g, 0, none⟩) n n] w fun e w' => ∃ v, e = .returned (.tuple #[v, .int .i64 (used L : Nat)]) ∧ Below w.heap.size w w' ∧ TxR v L w' v.ownBlock.toList ∧ ∀ k ∈ v.ownBlock.toList, w.heap.size ≤ k := by
  have hl := Cl.len L z
  have := records_some g 0 n (Cl L z).bl w hr (by omega) (by omega) (by omega)
  rw [← hn] at this
  refine this.mono ?_
  rintro e w' ⟨ps, u, v, hrec, rfl, hb, hown⟩
  obtain ⟨e1, e2, _⟩ := open_cl hk hz hrec
  subst e1 e2
  obtain ⟨h1, h2⟩ := TxR.of hown
  exact ⟨v, rfl, hb, h1, h2⟩
end Go.Proofs.Ytbpklikmldpeiaa
/-
  A disk whose power fails: Fail, Restart, Open, Append, as parts of memory; Clone.
-/
namespace Go.Proofs.Ytbpklikmldpeiaa
open Go.RowKit Go.Lib

/-- append under a guard that says yes -/
theorem wpList_append_want {P : Program} {ops : Array Oper} {Q : Exit → Act → World → Prop} {a : Act} {w : World} {rest : List Oper} {o : Oper} (hw : Region.wanted o (yielded ops a.tmps) = true) (s x : Operand) (t e : TypeId) (ho : o.op = .call { callee := .builtin .append, args := #[s, x], argTypes := #[t, t] })
    (base : Nat) (z : Value) (size bytes : Nat) (ht : P.underlying t = some (.slice e)) (hinfo : (P.info? e).map (fun i => (i.zero, i.size, i.bytes)) = some (some z, size, bytes)) (hzs : z.cells.size = size) (hsz : 0 < size)
    (v : Value) (n : Nat) (xs : List Value) (hs : a.eval s = v) (A c : Nat) (hx : a.eval x = .slice (some ⟨A, 0, none⟩) 1 c) (hown : w.ownsRow base e size v n xs) (cs : Array Value) (hA : Blk w A e cs) (hcs : cs.size = size) (h1 : ∀ u ∈ cs.toList, u.oneCell' = true)
    (h63 : n + 1 ≤ maxLen) (hbytes : ((n + 1) + (n + 1) / 4 + 192) * bytes ≤ 281474976710656) (hbase : base ≤ w.heap.size)
    (h : ∀ v' w', w'.ownsRow base e size v' (n + 1) (xs ++ cs.toList) → w.grownBy w' v.ownBlock → (v'.ownBlock = v.ownBlock ∨ v'.ownBlock = some w.heap.size) → wpList P ops Q rest (a.put o.dst v') w') : wpList P ops Q (o :: rest) a w :=
  BigFrame.wpList_want hw fun _ hK => wp_append_wide _ rfl s x t e ho base z size bytes ht hinfo hzs hsz v n xs hs A c hx hown cs hA hcs h1 h63 hbytes hbase fun v' w' h2 h3 h4 => hK _ _ (h v' w' h2 h3 h4)

/-- a call that changes the first part, whose blocks are all new -/
theorem After.callLf {p : Program} {f : Nat} {args : Array Value} {W w : World} {P Q P' : World → List Nat → Prop} {E : Ending → Prop} (hQ : Stays Q) (h : After [] W w (Sep P Q w))
    (hc : ∀ f', P w f' → (∀ k ∈ f', W.heap.size ≤ k) → Calls p f args w fun e w' => E e ∧ After f' w w' (P' w')) : Calls p f args w fun e w' => E e ∧ After [] W w' (Sep P' Q w') := by
  obtain ⟨fp, ⟨f1, f2, h1, h2, hd, rfl⟩, hs, hn⟩ := h
  have hf : ∀ k ∈ f1, W.heap.size ≤ k := fun k hk => by
    rcases hn k (List.mem_append_left _ hk) with h | h
    · cases h
    · exact h
  refine (hc f1 h1 hf).mono ?_
  rintro e w' ⟨he, ha⟩
  refine ⟨he, After.step hs hn (Sep.goL hQ (P := fun w f => f = f1 ∧ P w f) ⟨f1, f2, ⟨rfl, h1⟩, h2, hd, rfl⟩ (fun f hf => by rw [hf.1]; exact ha))⟩

theorem fail_part (b : Nat) (s : DS) (n : Nat) (fp : List Nat) (w : World) (h : PDr b s w fp) (hn : n ≤ 9223372036854775807) :
    Calls Try.prog 19 #[.pointer (some ⟨b, 0, none⟩), .int .i64 n] w fun e w' => e = .returned (.tuple #[]) ∧ After fp w w' (PDr b { s with fu := n } w') := by
  have e : s.fail n = { s with fu := (n : Int) } := by
    unfold DS.fail
    rw [show max (n : Int) (-1) = (n : Int) by omega]
  have := fail_any 0 b s fp (n : Int) w h (by omega)
  rw [e] at this
  exact this

theorem restart_part {W : World} {b : Nat} {s : DS} {bl : List (List UInt8)} (a : Option Addr) (c : Nat) (keep : List Nat) (f : List Nat) (w : World) (h : PDr b s w f) (hf : ∀ k ∈ f, W.heap.size ≤ k) (hb : Below W.heap.size W w) (hrow : RowN W a keep) (hkl : keep.length ≤ 4611686018427387904) (hpe : s.pe.length ≤ 65536) (he : s.restart keep = ⟨bl, [], -1, false⟩) :
    Calls Try.prog 20 #[.pointer (some ⟨b, 0, none⟩), .slice a keep.length c] w fun e w' => e = .returned (.tuple #[]) ∧ After f w w' (PDr b ⟨bl, [], -1, false⟩ w') := by
  have := restart_any 0 b s f a c keep w h (Nat.le_trans hpe (by decide)) hkl (hrow.below hb hrow.lt) (fun h0 A hA hm => by have h1 := hf _ hm; have h2 := hrow.lt h0 A hA; omega)
  rw [he] at this
  exact this

/-- Open, whatever it tells: the disk is what clearing it makes of it -/
theorem openF_any (b : Nat) (bl : List (List UInt8)) (fu : Int) (fp : List Nat) (w : World) (h : PDr b ⟨bl, [], fu, false⟩ w fp) :
    Calls Try.prog 10 #[.pointer (some ⟨b, 0, none⟩)] w fun e w' => ∃ x : Value × List (List UInt8) × Nat, (e = .returned x.1 ∧ Recs 0 bl x.2.1 x.2.2) ∧ After fp w w' (PDr b ((DS.mk bl [] fu false).clear x.2.2).1 w') := by
  refine (open_any b ⟨bl, [], fu, false⟩ fp w h rfl rfl).mono ?_
  rintro e w' ⟨x, ⟨hr, he⟩, ha⟩
  refine ⟨⟨_, x.ps, x.u⟩, ⟨he, hr⟩, ?_⟩
  unfold OpP at ha
  split at ha
  · exact ha.left.right
  · exact ha

/-- opened, without a fuse -/
theorem openL_any (b : Nat) {bl K : List (List UInt8)} {l : List UInt8} (fp : List Nat) (w : World) (h : PDr b ⟨bl, [], -1, false⟩ w fp) (hk : Left6 bl K l) :
    Calls Try.prog 10 #[.pointer (some ⟨b, 0, none⟩)] w fun e w' => ∃ x : JX × List (List UInt8), (e = .returned (.tuple #[.pointer (some ⟨x.1.jb, 0, none⟩), x.1.v, .int .i64 0]) ∧ AllOk x.2 ∧ used x.2 + (bl.length - used x.2) = bl.length ∧ (x.2 = K ∨ (x.2 = K ++ [l] ∧ l ≠ []))) ∧ After fp w w' (Sep (JCl x.1.jb b x.2 (bl.length - used x.2)) (TxR x.1.v x.2) w') := by
  have hok := h.ok
  refine (open_any b ⟨bl, [], -1, false⟩ fp w h rfl rfl).mono ?_
  rintro e w' ⟨x, ⟨hr, he⟩, ha⟩
  obtain ⟨ps, u, jb, v⟩ := x
  simp only at hr he
  obtain ⟨h1, h2, h3, h4, h5⟩ := open_left hok.bl hk hok.len hr
  unfold OpP at ha
  simp only at ha
  rw [h4] at he ha
  refine ⟨⟨⟨jb, v⟩, ps⟩, ⟨he, h1, h3, h5⟩, ?_⟩
  have : After fp w w' (Sep (PJr jb b (Cl ps (bl.length - used ps)) ps.length u) (TxR v ps) w') := ha
  rw [h2] at this
  exact this

/-- once more: the journal that there is stays -/
theorem reopen_any {W w : World} {jb b : Nat} {L : List (List UInt8)} {z : Nat} {Q : World → List Nat → Prop} (hQ : Stays Q) (h : After [] W w (Sep (JCl jb b L z) Q w)) (hk : AllOk L) (hz : used L + z ≤ 65536) :
    Calls Try.prog 10 #[.pointer (some ⟨b, 0, none⟩)] w fun e w' => ∃ x : JX, e = .returned (.tuple #[.pointer (some ⟨x.jb, 0, none⟩), x.v, .int .i64 0]) ∧ After [] W w' (Sep (Sep (JCl jb b L z) Q) (TxR x.v L) w') := by
  refine (h.call fun fp hp => Sep.callL hQ hp fun f hf => Sep.callR (BlkR.stays _ _ _) hf fun f hf => open_cl_any b L z f w hf hk hz).mono ?_
  rintro e w' ⟨x, he, ha⟩
  refine ⟨x, he, ?_⟩
  refine ha.less fun fp hp => ?_
  obtain ⟨f1, f2, ⟨f3, f4, hb, ⟨f5, f6, ⟨f7, f8, _, hd, _, rfl⟩, ht, hd3, rfl⟩, hd2, rfl⟩, hq, hd1, rfl⟩ := hp
  refine ⟨((f3 ++ f8) ++ f2) ++ f6, ⟨(f3 ++ f8) ++ f2, f6, ⟨f3 ++ f8, f2, ⟨f3, f8, hb, hd, fun k hk hk' => hd2 k hk (List.mem_append_left _ (List.mem_append_right _ hk')), rfl⟩, hq, fun k hk hk' => ?_, rfl⟩, ht, fun k hk hk' => ?_, rfl⟩, fun k hk => ?_⟩
  · refine hd1 k ?_ hk'
    rcases List.mem_append.1 hk with h | h
    · exact List.mem_append_left _ h
    · exact List.mem_append_right _ (List.mem_append_left _ (List.mem_append_right _ h))
  · rcases List.mem_append.1 hk with h | h
    · rcases List.mem_append.1 h with h | h
      · exact hd2 k h (List.mem_append_right _ hk')
      · exact hd3 k (List.mem_append_right _ h) hk'
    · exact hd1 k (List.mem_append_right _ (List.mem_append_right _ hk')) h
  · rcases List.mem_append.1 hk with h | h
    · rcases List.mem_append.1 h with h | h
      · rcases List.mem_append.1 h with h | h
        · exact List.mem_append_left _ (List.mem_append_left _ h)
        · exact List.mem_append_left _ (List.mem_append_right _ (List.mem_append_left _ (List.mem_append_right _ h)))
      · exact List.mem_append_right _ h
    · exact List.mem_append_left _ (List.mem_append_right _ (List.mem_append_right _ h))

/-- slices.Clone of a row of one's own -/
theorem clone_texts (v : Value) (ls : List (List UInt8)) (w : World) (fp : List Nat) (h : TxR v ls w fp) (hb : ls.length ≤ 1000000) :
    Calls Try.prog 21 #[v] w fun e w' => ∃ v', e = .returned v' ∧ Below w.heap.size w w' ∧ TxR v' ls w' v'.ownBlock.toList ∧ ∀ k ∈ v'.ownBlock.toList, w.heap.size ≤ k := by
  obtain ⟨a, c, rfl⟩ := h.form
  have hrow := h.row
  by_cases h0 : ls.length = 0
  · have e : ls = [] := List.eq_nil_of_length_eq_zero h0
    subst e
    cases a with
    | none =>
      refine (Try.slices_Clone_string_nil 0 c w).mono ?_
      rintro e w' ⟨rfl, rfl⟩
      obtain ⟨h1, h2⟩ := TxR.of (w := w') (B := w'.heap.size) (v := .slice none 0 0) (ls := []) (World.ownsRow_nil _ _ _ _)
      exact ⟨_, rfl, Below.refl _ _, h1, h2⟩
    | some A =>
      refine (Try.slices_Clone_string_zero A c w).mono ?_
      rintro e w' ⟨v', rfl, hown, _, hb'⟩
      obtain ⟨h1, h2⟩ := TxR.of (ls := []) hown
      exact ⟨v', rfl, hb', h1, h2⟩
  · obtain ⟨b, off, rfl, hc⟩ := hrow (by omega)
    refine (Try.slices_Clone_string b off ls.length c (ls.map st) w (by simp) (by omega) (fun j hj => ?_)).mono ?_
    · rw [List.length_map] at hj
      rw [List.getD_eq_getElem?_getD, List.getElem?_map, List.getElem?_eq_getElem hj]
      exact hc j _ (List.getElem?_eq_getElem hj)
    · rintro e w' ⟨v', rfl, hown, _, hb'⟩
      have hm : ((ls.map st).take ls.length).map Value.string = sv ls := by
        rw [List.take_of_length_le (by simp)]; simp [sv]
      rw [hm] at hown
      obtain ⟨h1, h2⟩ := TxR.of hown
      exact ⟨v', rfl, hb', h1, h2⟩
end Go.Proofs.Ytbpklikmldpeiaa
/-
  Both disks as parts of memory: New, Write, Sync, Open of any blocks, by the program and by the document.
-/
namespace Go.Proofs.Ytbpklikmldpeiaa
open Go.RowKit Go.Lib

theorem DS.write_fine (bl : List (List UInt8)) (pe : List (Nat × List UInt8)) (k : Nat) (d : List UInt8) (hk : k < bl.length) (hd : d.length = 64) : (DS.mk bl pe (-1) false).write (k : Nat) d = (⟨bl, pe ++ [(k, d)], -1, false⟩, 0) := by
  rw [DS.write_may bl pe (-1) k d hk hd]
  rfl
theorem DS.sync_fine (bl : List (List UInt8)) (pe : List (Nat × List UInt8)) : (DS.mk bl pe (-1) false).sync = (⟨settleN bl pe (fun _ => 64) pe.length, [], -1, false⟩, 0) := rfl

theorem rnew_cl (n : Nat) (w : World) (h : n ≤ 65536) :
    Calls Try.prog 9 #[.int .i64 n] w fun e w' => ∃ b, e = .returned (.pointer (some ⟨b, 0, none⟩)) ∧ ∃ fp, RDr b (Cl [] n) w' fp ∧ Below w.heap.size w w' ∧ ∀ k ∈ fp, w.heap.size ≤ k := by
  refine (rNew_any n w h).mono ?_
  rintro e w' ⟨b, fp, rfl, hp, hb⟩
  rw [newDS_cl] at hp
  refine ⟨b, rfl, fp, ?_, hb, fun k hk => (hp.lt k hk).1⟩
  obtain ⟨m, vb, vp, hx, rfl⟩ := hp
  exact ⟨m, vb, vp, ⟨hx.ok, hx.num, hx.box, own_le hx.row (Nat.zero_le _), own_le hx.own (Nat.zero_le _), Nat.zero_le _⟩, rfl⟩

theorem write_part (b : Nat) (bl : List (List UInt8)) (pe : List (Nat × List UInt8)) (k : Nat) (d : List UInt8) (fp : List Nat) (w : World) (h : PDr b ⟨bl, pe, -1, false⟩ w fp) (hk : k < bl.length) (hd : d.length = 64) (hpe : pe.length ≤ 100000) :
    Calls Try.prog 23 #[.pointer (some ⟨b, 0, none⟩), .int .i64 k, .string (st d)] w fun e w' => e = .returned (.int .i64 0) ∧ After fp w w' (PDr b ⟨bl, pe ++ [(k, d)], -1, false⟩ w') := by
  have := write_any 0 b ⟨bl, pe, -1, false⟩ fp (k : Nat) d w h (room_few (by simp only; omega))
  rw [DS.write_fine bl pe k d hk hd] at this
  exact this

theorem rwrite_part (b : Nat) (bl : List (List UInt8)) (pe : List (Nat × List UInt8)) (k : Nat) (d : List UInt8) (fp : List Nat) (w : World) (h : RDr b ⟨bl, pe, -1, false⟩ w fp) (hk : k < bl.length) (hd : d.length = 64) (hpe : pe.length ≤ 100000) :
    Calls Try.prog 24 #[.pointer (some ⟨b, 0, none⟩), .int .i64 k, .string (st d)] w fun e w' => e = .returned (.int .i64 0) ∧ After fp w w' (RDr b ⟨bl, pe ++ [(k, d)], -1, false⟩ w') := by
  have := rWrite_any 0 b ⟨bl, pe, -1, false⟩ fp (k : Nat) d w h (by simp only; omega)
  rw [DS.write_fine bl pe k d hk hd] at this
  exact this

theorem sync_part (b : Nat) (bl : List (List UInt8)) (pe : List (Nat × List UInt8)) (fp : List Nat) (w : World) (h : PDr b ⟨bl, pe, -1, false⟩ w fp) (hpe : pe.length ≤ 100000) :
    Calls Try.prog 25 #[.pointer (some ⟨b, 0, none⟩)] w fun e w' => e = .returned (.int .i64 0) ∧ After fp w w' (PDr b ⟨settleN bl pe (fun _ => 64) pe.length, [], -1, false⟩ w') := by
  have := sync_any 0 b ⟨bl, pe, -1, false⟩ fp w h (by simp only; omega)
  rw [DS.sync_fine] at this
  exact this
theorem rsync_part (b : Nat) (bl : List (List UInt8)) (pe : List (Nat × List UInt8)) (fp : List Nat) (w : World) (h : RDr b ⟨bl, pe, -1, false⟩ w fp) (hpe : pe.length ≤ 100000) :
    Calls Try.prog 26 #[.pointer (some ⟨b, 0, none⟩)] w fun e w' => e = .returned (.int .i64 0) ∧ After fp w w' (RDr b ⟨settleN bl pe (fun _ => 64) pe.length, [], -1, false⟩ w') := by
  have := rSync_any 0 b ⟨bl, pe, -1, false⟩ fp w h (by simp only; omega)
  rw [DS.sync_fine] at this
  exact this

theorem Recs.allOk {bl ps : List (List UInt8)} {u : Nat} (h : Recs 0 bl ps u) : AllOk ps := fun i p hp => by
  have := h.lead.ok i p hp
  rwa [Nat.zero_add] at this
theorem Recs.used {bl ps : List (List UInt8)} {u : Nat} (h : Recs 0 bl ps u) : u = used ps := h.lead.len

/-- any blocks, opened without a fuse -/
theorem openB_any (b : Nat) {bl ps : List (List UInt8)} {u : Nat} (fp : List Nat) (w : World) (h : PDr b ⟨bl, [], -1, false⟩ w fp) (hr : Recs 0 bl ps u) :
    Calls Try.prog 10 #[.pointer (some ⟨b, 0, none⟩)] w fun e w' => ∃ x : JX, e = .returned (.tuple #[.pointer (some ⟨x.jb, 0, none⟩), x.v, .int .i64 0]) ∧ After fp w w' (Sep (JCl x.jb b ps (bl.length - u)) (TxR x.v ps) w') := by
  have hok := h.ok
  refine (open_any b ⟨bl, [], -1, false⟩ fp w h rfl rfl).mono ?_
  rintro e w' ⟨x, ⟨hx, he⟩, ha⟩
  obtain ⟨qs, v, jb, y⟩ := x
  simp only at hx he
  obtain ⟨e1, e2⟩ := hx.inj hr
  subst e1 e2
  have hc := clear_fine hok.bl hx
  unfold OpP at ha
  simp only at ha
  rw [hc] at he ha
  refine ⟨⟨jb, y⟩, he, ?_⟩
  have : After fp w w' (Sep (PJr jb b (Cl qs (bl.length - v)) qs.length v) (TxR y qs) w') := ha
  unfold JCl
  rw [← hx.used]
  exact this

theorem rOpenB_any (b : Nat) {bl ps : List (List UInt8)} {u : Nat} (fp : List Nat) (w : World) (h : RDr b ⟨bl, [], -1, false⟩ w fp) (hr : Recs 0 bl ps u) :
    Calls Try.prog 11 #[.pointer (some ⟨b, 0, none⟩)] w fun e w' => ∃ x : JX, e = .returned (.tuple #[.pointer (some ⟨x.jb, 0, none⟩), .int .i64 0]) ∧ After fp w w' (RJr x.jb b (Cl ps (bl.length - u)) x.v ps u w') := by
  have hok := h.ok
  refine (rOpen_any b ⟨bl, [], -1, false⟩ fp w h rfl rfl).mono ?_
  rintro e w' ⟨x, ⟨hx, he⟩, ha⟩
  obtain ⟨qs, v, kb, y⟩ := x
  simp only at hx he
  obtain ⟨e1, e2⟩ := hx.inj hr
  subst e1 e2
  have hc := clear_fine hok.bl hx
  unfold OrP at ha
  simp only at ha
  rw [hc] at he ha
  exact ⟨⟨kb, y⟩, he, ha⟩

theorem RJr.box {kb rb u : Nat} {s : DS} {v : Value} {ps : List (List UInt8)} {w : World} {fp : List Nat} (h : RJr kb rb s v ps u w fp) : Blk w kb 39 #[.pointer (some ⟨rb, 0, none⟩), v, .int .i64 u] := by
  obtain ⟨f1, f2, h1, _⟩ := h
  exact h1.1
theorem RJr.disk {kb rb u : Nat} {s : DS} {v : Value} {ps : List (List UInt8)} {w : World} {fp : List Nat} (h : RJr kb rb s v ps u w fp) : ∃ f, RDr rb s w f := by
  obtain ⟨f1, f2, _, ⟨f3, f4, h2, _⟩, _⟩ := h
  exact ⟨f3, h2⟩
theorem RJr.list {kb rb u : Nat} {s : DS} {v : Value} {ps : List (List UInt8)} {w : World} {fp : List Nat} (h : RJr kb rb s v ps u w fp) : ∃ f, TxR v ps w f := by
  obtain ⟨f1, f2, _, ⟨f3, f4, _, h3, _⟩, _⟩ := h
  exact ⟨f4, h3⟩

/-- once more, whatever the fuse: the journal that there is stays -/
theorem refuse_any {W w : World} {jb b : Nat} {L : List (List UInt8)} {z : Nat} {fu : Int} {Q : World → List Nat → Prop} (hQ : Stays Q) (h : After [] W w (Sep (PJr jb b ⟨fitL L z, [], fu, false⟩ L.length (used L)) Q w)) (hk : AllOk L) (hz : used L + z ≤ 65536) :
    Calls Try.prog 10 #[.pointer (some ⟨b, 0, none⟩)] w fun e w' => ∃ x : JX, e = .returned (.tuple #[.pointer (some ⟨x.jb, 0, none⟩), x.v, .int .i64 0]) ∧ After [] W w' (Sep (Sep (PJr jb b ⟨fitL L z, [], fu, false⟩ L.length (used L)) Q) (TxR x.v L) w') := by
  have HO : ∀ (f : List Nat), PDr b ⟨fitL L z, [], fu, false⟩ w f → Calls Try.prog 10 #[.pointer (some ⟨b, 0, none⟩)] w fun e w' => ∃ x : JX, e = .returned (.tuple #[.pointer (some ⟨x.jb, 0, none⟩), x.v, .int .i64 0]) ∧ After f w w' (Sep (PJr x.jb b ⟨fitL L z, [], fu, false⟩ L.length (used L)) (TxR x.v L) w') := fun f hf => by
    refine (open_any b _ f w hf rfl rfl).mono ?_
    rintro e w' ⟨x, ⟨hr, he⟩, ha⟩
    obtain ⟨e1, e2, e3⟩ := open_fuse fu hk hz hr
    obtain ⟨ps, u, jb', v⟩ := x
    simp only at e1 e2 e3 he hr
    subst e1 e2
    unfold OpP at ha
    simp only at ha
    rw [e3] at he ha
    exact ⟨⟨jb', v⟩, he, ha⟩
  refine (h.call fun fp hp => Sep.callL hQ hp fun f hf => Sep.callR (BlkR.stays _ _ _) hf fun f hf => HO f hf).mono ?_
  rintro e w' ⟨x, he, ha⟩
  refine ⟨x, he, ?_⟩
  refine ha.less fun fp hp => ?_
  obtain ⟨f1, f2, ⟨f3, f4, hb, ⟨f5, f6, ⟨f7, f8, _, hd, _, rfl⟩, ht, hd3, rfl⟩, hd2, rfl⟩, hq, hd1, rfl⟩ := hp
  refine ⟨((f3 ++ f8) ++ f2) ++ f6, ⟨(f3 ++ f8) ++ f2, f6, ⟨f3 ++ f8, f2, ⟨f3, f8, hb, hd, fun k hk hk' => hd2 k hk (List.mem_append_left _ (List.mem_append_right _ hk')), rfl⟩, hq, fun k hk hk' => ?_, rfl⟩, ht, fun k hk hk' => ?_, rfl⟩, fun k hk => ?_⟩
  · refine hd1 k ?_ hk'
    rcases List.mem_append.1 hk with h | h
    · exact List.mem_append_left _ h
    · exact List.mem_append_right _ (List.mem_append_left _ (List.mem_append_right _ h))
  · rcases List.mem_append.1 hk with h | h
    · rcases List.mem_append.1 h with h | h
      · exact hd2 k h (List.mem_append_right _ hk')
      · exact hd3 k (List.mem_append_right _ h) hk'
    · exact hd1 k (List.mem_append_right _ (List.mem_append_right _ hk')) h
  · rcases List.mem_append.1 hk with h | h
    · rcases List.mem_append.1 h with h | h
      · rcases List.mem_append.1 h with h | h
        · exact List.mem_append_left _ (List.mem_append_left _ h)
        · exact List.mem_append_left _ (List.mem_append_right _ (List.mem_append_left _ (List.mem_append_right _ h)))
      · exact List.mem_append_right _ h
    · exact List.mem_append_left _ (List.mem_append_right _ (List.mem_append_right _ h))

theorem RDr.box2 {b : Nat} {s : DS} {w : World} {fp : List Nat} (h : RDr b s w fp) : ∃ ba bc vp, Blk w b 44 #[.slice ba s.bl.length bc, vp, .int .i64 s.fu, .bool s.dead] ∧ RowS w ba s.bl ∧ s.bl.length ≤ bc ∧ bc ≤ 9223372036854775807 := by
  obtain ⟨n, vb, vp, hr, rfl⟩ := h
  obtain ⟨ba, bc, rfl⟩ := own_slice2 hr.row
  have e := hr.num
  subst e
  refine ⟨ba, bc, vp, hr.box, RowS.of_own hr.row, ?_⟩
  rcases hr.row.2 with ⟨h1, h2⟩ | ⟨g, cap, cur, hv, _, _, h3, h4, _⟩
  · injection h1 with _ _ h5
    rw [h2, h5]; exact ⟨Nat.le_refl _, by omega⟩
  · injection hv with _ _ h5
    rw [h5]; exact ⟨h3, by unfold maxLen at h4; omega⟩

theorem fail0_part (b : Nat) (s : DS) (fp : List Nat) (w : World) (h : PDr b s w fp) :
    Calls Try.prog 19 #[.pointer (some ⟨b, 0, none⟩), .int .i64 0] w fun e w' => e = .returned (.tuple #[]) ∧ After fp w w' (PDr b { s with fu := 0 } w') := fail_part b s 0 fp w h (by omega)

/-- a text, filled up -/
def pad64 (s : List UInt8) : List UInt8 := (s ++ List.replicate 64 0).take 64
theorem pad64_length (s : List UInt8) : (pad64 s).length = 64 := by simp [pad64]
end Go.Proofs.Ytbpklikmldpeiaa
