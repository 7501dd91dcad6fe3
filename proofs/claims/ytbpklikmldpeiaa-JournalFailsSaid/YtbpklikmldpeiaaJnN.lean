/-
  A disk whose power fails: Fail, Restart, Open, Append, as parts of memory; Clone.
-/
import Derived.Test.YtbpklikmldpeiaaJnL
import Derived.Test.YtbpklikmldpeiaaJnI
import Derived.Test.YtbpklikmldpeiaaDskF
namespace Go.Proofs.Ytbpklikmldpeiaa
open Go.RowKit Go.Lib

/-- append under a guard that says yes -/
theorem wpList_append_want {P : Program} {ops : Array Oper} {Q : Exit → Act → World → Prop} {a : Act} {w : World} {rest : List Oper} {o : Oper} (hw : Region.wanted o (yielded ops a.tmps) = true) (s x : Operand) (t e : TypeId) (ho : o.op = .call { callee := .builtin .append, args := #[s, x], argTypes := #[t, t] })
    (base : Nat) (z : Value) (size bytes : Nat) (ht : P.underlying t = some (.slice e)) (hinfo : (P.info? e).map (fun i => (i.zero, i.size, i.bytes)) = some (some z, size, bytes)) (hzs : z.cells.size = size) (hsz : 0 < size)
    (v : Value) (n : Nat) (xs : List Value) (hs : a.eval s = v) (A c : Nat) (hx : a.eval x = .slice (some ⟨A, 0, none⟩) 1 c) (hown : w.ownsRow base e size v n xs) (cs : Array Value) (hA : Blk w A e cs) (hcs : cs.size = size) (h1 : ∀ u ∈ cs.toList, u.oneCell' = true)
    (h63 : n + 1 ≤ maxLen) (hbytes : ((n + 1) + (n + 1) / 4 + 192) * bytes ≤ 281474976710656) (hbase : base ≤ w.heap.size)
    (h : ∀ v' w', w'.ownsRow base e size v' (n + 1) (xs ++ cs.toList) → w.grownBy w' v.ownBlock → (v'.ownBlock = v.ownBlock ∨ v'.ownBlock = some w.heap.size) → wpList P ops Q rest (a.put o.dst v') w') : wpList P ops Q (o :: rest) a w :=
  BigFrame.wpList_want hw fun _ hK => wp_append_wide _ rfl s x t e ho base z size bytes ht hinfo hzs hsz v n xs hs A c hx hown cs hA hcs h1 h63 hbytes hbase fun v' w' h2 h3 h4 => hK _ _ (h v' w' h2 h3 h4)

/-- a call that changes the first part, whose blocks are all new -/
theorem After.callLf {p : Program} {f : Nat} {args : Array Value} {W w : World} {P Q P' : World → List Nat → Prop} {E : Ending → Prop} (hQ : Stays Q) (h : After [] W w (Sep P Q w))
    (hc : ∀ f', P w f' → (∀ k ∈ f', W.heap.size ≤ k) → Calls p f args w fun e w' => E e ∧ After f' w w' (P' w')) : Calls p f args w fun e w' => E e ∧ After [] W w' (Sep P' Q w') := by
  obtain ⟨fp, ⟨f1, f2, h1, h2, hd, rfl⟩, hs, hn⟩ := h
  have hf : ∀ k ∈ f1, W.heap.size ≤ k := fun k hk => by
    rcases hn k (List.mem_append_left _ hk) with h | h
    · cases h
    · exact h
  refine (hc f1 h1 hf).mono ?_
  rintro e w' ⟨he, ha⟩
  refine ⟨he, After.step hs hn (Sep.goL hQ (P := fun w f => f = f1 ∧ P w f) ⟨f1, f2, ⟨rfl, h1⟩, h2, hd, rfl⟩ (fun f hf => by rw [hf.1]; exact ha))⟩

theorem fail_part (b : Nat) (s : DS) (n : Nat) (fp : List Nat) (w : World) (h : PDr b s w fp) (hn : n ≤ 9223372036854775807) :
    Calls Try.prog 19 #[.pointer (some ⟨b, 0, none⟩), .int .i64 n] w fun e w' => e = .returned (.tuple #[]) ∧ After fp w w' (PDr b { s with fu := n } w') := by
  have e : s.fail n = { s with fu := (n : Int) } := by
    unfold DS.fail
    rw [show max (n : Int) (-1) = (n : Int) by omega]
  have := fail_any 0 b s fp (n : Int) w h (by omega)
  rw [e] at this
  exact this

theorem restart_part {W : World} {b : Nat} {s : DS} {bl : List (List UInt8)} (a : Option Addr) (c : Nat) (keep : List Nat) (f : List Nat) (w : World) (h : PDr b s w f) (hf : ∀ k ∈ f, W.heap.size ≤ k) (hb : Below W.heap.size W w) (hrow : RowN W a keep) (hkl : keep.length ≤ 4611686018427387904) (hpe : s.pe.length ≤ 65536) (he : s.restart keep = ⟨bl, [], -1, false⟩) :
    Calls Try.prog 20 #[.pointer (some ⟨b, 0, none⟩), .slice a keep.length c] w fun e w' => e = .returned (.tuple #[]) ∧ After f w w' (PDr b ⟨bl, [], -1, false⟩ w') := by
  have := restart_any 0 b s f a c keep w h (Nat.le_trans hpe (by decide)) hkl (hrow.below hb hrow.lt) (fun h0 A hA hm => by have h1 := hf _ hm; have h2 := hrow.lt h0 A hA; omega)
  rw [he] at this
  exact this

/-- Open, whatever it tells: the disk is what clearing it makes of it -/
theorem openF_any (b : Nat) (bl : List (List UInt8)) (fu : Int) (fp : List Nat) (w : World) (h : PDr b ⟨bl, [], fu, false⟩ w fp) :
    Calls Try.prog 10 #[.pointer (some ⟨b, 0, none⟩)] w fun e w' => ∃ x : Value × List (List UInt8) × Nat, (e = .returned x.1 ∧ Recs 0 bl x.2.1 x.2.2) ∧ After fp w w' (PDr b ((DS.mk bl [] fu false).clear x.2.2).1 w') := by
  refine (open_any b ⟨bl, [], fu, false⟩ fp w h rfl rfl).mono ?_
  rintro e w' ⟨x, ⟨hr, he⟩, ha⟩
  refine ⟨⟨_, x.ps, x.u⟩, ⟨he, hr⟩, ?_⟩
  unfold OpP at ha
  split at ha
  · exact ha.left.right
  · exact ha

/-- opened, without a fuse -/
theorem openL_any (b : Nat) {bl K : List (List UInt8)} {l : List UInt8} (fp : List Nat) (w : World) (h : PDr b ⟨bl, [], -1, false⟩ w fp) (hk : Left6 bl K l) :
    Calls Try.prog 10 #[.pointer (some ⟨b, 0, none⟩)] w fun e w' => ∃ x : JX × List (List UInt8), (e = .returned (.tuple #[.pointer (some ⟨x.1.jb, 0, none⟩), x.1.v, .int .i64 0]) ∧ AllOk x.2 ∧ used x.2 + (bl.length - used x.2) = bl.length ∧ (x.2 = K ∨ (x.2 = K ++ [l] ∧ l ≠ []))) ∧ After fp w w' (Sep (JCl x.1.jb b x.2 (bl.length - used x.2)) (TxR x.1.v x.2) w') := by
  have hok := h.ok
  refine (open_any b ⟨bl, [], -1, false⟩ fp w h rfl rfl).mono ?_
  rintro e w' ⟨x, ⟨hr, he⟩, ha⟩
  obtain ⟨ps, u, jb, v⟩ := x
  simp only at hr he
  obtain ⟨h1, h2, h3, h4, h5⟩ := open_left hok.bl hk hok.len hr
  unfold OpP at ha
  simp only at ha
  rw [h4] at he ha
  refine ⟨⟨⟨jb, v⟩, ps⟩, ⟨he, h1, h3, h5⟩, ?_⟩
  have : After fp w w' (Sep (PJr jb b (Cl ps (bl.length - used ps)) ps.length u) (TxR v ps) w') := ha
  rw [h2] at this
  exact this

/-- once more: the journal that there is stays -/
theorem reopen_any {W w : World} {jb b : Nat} {L : List (List UInt8)} {z : Nat} {Q : World → List Nat → Prop} (hQ : Stays Q) (h : After [] W w (Sep (JCl jb b L z) Q w)) (hk : AllOk L) (hz : used L + z ≤ 65536) :
    Calls Try.prog 10 #[.pointer (some ⟨b, 0, none⟩)] w fun e w' => ∃ x : JX, e = .returned (.tuple #[.pointer (some ⟨x.jb, 0, none⟩), x.v, .int .i64 0]) ∧ After [] W w' (Sep (Sep (JCl jb b L z) Q) (TxR x.v L) w') := by
  refine (h.call fun fp hp => Sep.callL hQ hp fun f hf => Sep.callR (BlkR.stays _ _ _) hf fun f hf => open_cl_any b L z f w hf hk hz).mono ?_
  rintro e w' ⟨x, he, ha⟩
  refine ⟨x, he, ?_⟩
  refine ha.less fun fp hp => ?_
  obtain ⟨f1, f2, ⟨f3, f4, hb, ⟨f5, f6, ⟨f7, f8, _, hd, _, rfl⟩, ht, hd3, rfl⟩, hd2, rfl⟩, hq, hd1, rfl⟩ := hp
  refine ⟨((f3 ++ f8) ++ f2) ++ f6, ⟨(f3 ++ f8) ++ f2, f6, ⟨f3 ++ f8, f2, ⟨f3, f8, hb, hd, fun k hk hk' => hd2 k hk (List.mem_append_left _ (List.mem_append_right _ hk')), rfl⟩, hq, fun k hk hk' => ?_, rfl⟩, ht, fun k hk hk' => ?_, rfl⟩, fun k hk => ?_⟩
  · refine hd1 k ?_ hk'
    rcases List.mem_append.1 hk with h | h
    · exact List.mem_append_left _ h
    · exact List.mem_append_right _ (List.mem_append_left _ (List.mem_append_right _ h))
  · rcases List.mem_append.1 hk with h | h
    · rcases List.mem_append.1 h with h | h
      · exact hd2 k h (List.mem_append_right _ hk')
      · exact hd3 k (List.mem_append_right _ h) hk'
    · exact hd1 k (List.mem_append_right _ (List.mem_append_right _ hk')) h
  · rcases List.mem_append.1 hk with h | h
    · rcases List.mem_append.1 h with h | h
      · rcases List.mem_append.1 h with h | h
        · exact List.mem_append_left _ (List.mem_append_left _ h)
        · exact List.mem_append_left _ (List.mem_append_right _ (List.mem_append_left _ (List.mem_append_right _ h)))
      · exact List.mem_append_right _ h
    · exact List.mem_append_left _ (List.mem_append_right _ (List.mem_append_right _ h))

/-- slices.Clone of a row of one's own -/
theorem clone_texts (v : Value) (ls : List (List UInt8)) (w : World) (fp : List Nat) (h : TxR v ls w fp) (hb : ls.length ≤ 1000000) :
    Calls Try.prog 21 #[v] w fun e w' => ∃ v', e = .returned v' ∧ Below w.heap.size w w' ∧ TxR v' ls w' v'.ownBlock.toList ∧ ∀ k ∈ v'.ownBlock.toList, w.heap.size ≤ k := by
  obtain ⟨a, c, rfl⟩ := h.form
  have hrow := h.row
  by_cases h0 : ls.length = 0
  · have e : ls = [] := List.eq_nil_of_length_eq_zero h0
    subst e
    cases a with
    | none =>
      refine (Try.slices_Clone_string_nil 0 c w).mono ?_
      rintro e w' ⟨rfl, rfl⟩
      obtain ⟨h1, h2⟩ := TxR.of (w := w') (B := w'.heap.size) (v := .slice none 0 0) (ls := []) (World.ownsRow_nil _ _ _ _)
      exact ⟨_, rfl, Below.refl _ _, h1, h2⟩
    | some A =>
      refine (Try.slices_Clone_string_zero A c w).mono ?_
      rintro e w' ⟨v', rfl, hown, _, hb'⟩
      obtain ⟨h1, h2⟩ := TxR.of (ls := []) hown
      exact ⟨v', rfl, hb', h1, h2⟩
  · obtain ⟨b, off, rfl, hc⟩ := hrow (by omega)
    refine (Try.slices_Clone_string b off ls.length c (ls.map st) w (by simp) (by omega) (fun j hj => ?_)).mono ?_
    · rw [List.length_map] at hj
      rw [List.getD_eq_getElem?_getD, List.getElem?_map, List.getElem?_eq_getElem hj]
      exact hc j _ (List.getElem?_eq_getElem hj)
    · rintro e w' ⟨v', rfl, hown, _, hb'⟩
      have hm : ((ls.map st).take ls.length).map Value.string = sv ls := by
        rw [List.take_of_length_le (by simp)]; simp [sv]
      rw [hm] at hown
      obtain ⟨h1, h2⟩ := TxR.of hown
      exact ⟨v', rfl, hb', h1, h2⟩
end Go.Proofs.Ytbpklikmldpeiaa
