/-
  A journal that nothing happens to: its calls; slices.Equal and Clone of texts.
-/
import Derived.Test.YtbpklikmldpeiaaJnE
import Derived.Test.YtbpklikmldpeiaaJnH
import Derived.Test.YtbpklikmldpeiaaEqS
import Derived.Test.YtbpklikmldpeiaaRep
namespace Go.Proofs.Ytbpklikmldpeiaa
open Go.RowKit Go.Lib

/-- slices.Equal of texts -/
theorem equal_texts (a1 a2 : Option Addr) (c1 c2 n1 n2 : Nat) (xs ys : List (List UInt8)) (w : World) (h1 : RowS w a1 xs) (h2 : RowS w a2 ys) (hn1 : n1 = xs.length) (hn2 : n2 = ys.length) (hb1 : n1 ≤ 1000000) (hb2 : n2 ≤ 1000000) :
    Calls Try.prog 16 #[.slice a1 n1 c1, .slice a2 n2 c2] w fun e w' => e = .returned (.bool (decide (xs = ys))) ∧ ∃ q, w' = w.drewN q := by
  subst hn1 hn2
  by_cases hl : xs.length = ys.length
  · by_cases h0 : xs.length = 0
    · have e1 : xs = [] := List.eq_nil_of_length_eq_zero h0
      have e2 : ys = [] := List.eq_nil_of_length_eq_zero (by omega)
      subst e1 e2
      refine (Try.slices_Equal_string_empty a1 a2 c1 0 c2 w (by omega)).mono ?_
      rintro e w' ⟨rfl, rfl⟩
      exact ⟨rfl, 0, rfl⟩
    · obtain ⟨b1, o1, e1, hc1⟩ := h1 (by omega)
      obtain ⟨b2, o2, e2, hc2⟩ := h2 (by omega)
      subst e1 e2
      have get : ∀ (ls : List (List UInt8)) j, j < (ls.map st).length → ∃ x, ls[j]? = some x ∧ (ls.map st).getD j ByteArray.empty = st x := fun ls j hj => by
        rw [List.length_map] at hj
        refine ⟨ls[j], List.getElem?_eq_getElem hj, ?_⟩
        rw [List.getD_eq_getElem?_getD, List.getElem?_map, List.getElem?_eq_getElem hj]; rfl
      refine (Try.slices_Equal_string b1 o1 xs.length c1 b2 o2 ys.length c2 (xs.map st) (ys.map st) w (by simp) (by simp) (by omega) (by omega) (fun j hj => ?_) (fun j hj => ?_)).mono ?_
      · obtain ⟨x, hx, hg⟩ := get xs j hj
        rw [hg]; exact hc1 j x hx
      · obtain ⟨x, hx, hg⟩ := get ys j hj
        rw [hg]; exact hc2 j x hx
      · rintro e w' ⟨rfl, hq⟩
        refine ⟨?_, hq⟩
        rw [List.take_of_length_le (by simp), List.take_of_length_le (by simp)]
        have e : decide (xs.map st = ys.map st) = decide (xs = ys) := by
          rw [decide_eq_decide]
          refine ⟨fun h => ?_, fun h => by rw [h]⟩
          apply List.ext_getElem?
          intro i
          have h3 := congrArg (·[i]?) h
          simp only [List.getElem?_map] at h3
          cases hx : xs[i]? with
          | none => rw [hx] at h3; cases hy : ys[i]? with
            | none => rfl
            | some y => rw [hy] at h3; cases h3
          | some x =>
            rw [hx] at h3
            cases hy : ys[i]? with
            | none => rw [hy] at h3; cases h3
            | some y =>
              rw [hy] at h3
              injection h3 with h3
              have := congrArg (fun z : ByteArray => z.data.toList) h3
              rw [st_toList, st_toList] at this
              rw [this]
        rw [e]
  · have e : decide (xs = ys) = false := decide_eq_false (fun h => hl (by rw [h]))
    rw [e]
    refine (Try.slices_Equal_string_lens a1 a2 xs.length c1 ys.length c2 w hl).mono ?_
    rintro e w' ⟨rfl, rfl⟩
    exact ⟨rfl, 0, rfl⟩

/-- an Append, and what is there then -/
structure Next (L : List (List UInt8)) (z : Nat) (p : List UInt8) (L' : List (List UInt8)) (z' : Nat) (t : Int) : Prop where
  app : (Cl L z).app L.length (used L) p = (Cl L' z', t)
  ok : AllOk L'
  room : used L' + z' = used L + z
  n : nAfter (Cl L' z', t) L.length = L'.length
  u : uAfter (Cl L' z', t) (used L) (cnt p.length) = used L'
  or : (t = 0 ∧ L' = L ++ [p]) ∨ (t ≠ 0 ∧ L' = L)
theorem next_of {L : List (List UInt8)} (h : AllOk L) (z : Nat) (p : List UInt8) : ∃ L' z' t, Next L z p L' z' t := by
  rcases app_cl L z p with ⟨hr, hc, he⟩ | ⟨t, ht, he⟩
  · refine ⟨L ++ [p], z - cnt p.length, 0, he, h.snoc hr, ?_, ?_, ?_, .inl ⟨rfl, rfl⟩⟩
    · rw [used_snoc]; omega
    · unfold nAfter; rw [if_pos rfl, List.length_append]; rfl
    · unfold uAfter; rw [if_pos rfl, used_snoc]
  · refine ⟨L, z, t, he, h, rfl, ?_, ?_, .inr ⟨ht, rfl⟩⟩
    · unfold nAfter; rw [if_neg ht]
    · unfold uAfter; rw [if_neg ht]

/-- a journal of such records -/
def JCl (jb b : Nat) (L : List (List UInt8)) (z : Nat) : World → List Nat → Prop := PJr jb b (Cl L z) L.length (used L)
theorem JCl.stays (jb b : Nat) (L : List (List UInt8)) (z : Nat) : Stays (JCl jb b L z) := PJr.stays _ _ _ _ _

theorem Cl.len (L : List (List UInt8)) (z : Nat) : (Cl L z).bl.length = used L + z := fitL_length L z

theorem append_cl (jb b : Nat) {L L' : List (List UInt8)} {z z' : Nat} {p : List UInt8} {t : Int} (hx : Next L z p L' z' t) (fp : List Nat) (w : World) (h : JCl jb b L z w fp) (hk : AllOk L) (hz : used L + z ≤ 65536) (hp : p.length ≤ 100000000) :
    Calls Try.prog 12 #[.pointer (some ⟨jb, 0, none⟩), .string (st p)] w fun e w' => e = .returned (.int .i64 t) ∧ After fp w w' (JCl jb b L' z' w') := by
  have := append_any jb b L.length (used L) (Cl L z) p fp w h (by simp [Cl]) (by rw [Cl.len]; omega) (by have := hk.few; omega) hp
  rw [hx.app, hx.n, hx.u] at this
  exact this

/-- what Open gives -/
structure JX where
  jb : Nat
  v : Value

theorem open_cl_any (b : Nat) (L : List (List UInt8)) (z : Nat) (fp : List Nat) (w : World) (h : PDr b (Cl L z) w fp) (hk : AllOk L) (hz : used L + z ≤ 65536) :
    Calls Try.prog 10 #[.pointer (some ⟨b, 0, none⟩)] w fun e w' => ∃ x : JX, e = .returned (.tuple #[.pointer (some ⟨x.jb, 0, none⟩), x.v, .int .i64 0]) ∧ After fp w w' (Sep (JCl x.jb b L z) (TxR x.v L) w') := by
  refine (open_any b (Cl L z) fp w h rfl rfl).mono ?_
  rintro e w' ⟨x, ⟨hr, he⟩, ha⟩
  obtain ⟨e1, e2, e3⟩ := open_cl hk hz hr
  obtain ⟨ps, u, jb, v⟩ := x
  simp only at e1 e2 e3 he hr
  subst e1 e2
  unfold OpP at ha
  simp only at ha
  rw [e3] at he ha
  exact ⟨⟨jb, v⟩, he, ha⟩

theorem new_cl (n : Nat) (w : World) (h : n ≤ 65536) :
    Calls Try.prog 8 #[.int .i64 n] w fun e w' => ∃ b, e = .returned (.pointer (some ⟨b, 0, none⟩)) ∧ ∃ fp, PDr b (Cl [] n) w' fp ∧ Below w.heap.size w w' ∧ ∀ k ∈ fp, w.heap.size ≤ k := by
  refine (new_yes n w h).mono ?_
  rintro e w' ⟨b, fp, rfl, hp, hb⟩
  rw [newDS_cl] at hp
  refine ⟨b, rfl, fp, ?_, hb, fun k hk => (hp.lt k hk).1⟩
  obtain ⟨g, n', v, fz, bs, h, rfl⟩ := hp
  exact ⟨g, n', v, fz, bs, ⟨h.ok, h.map, h.last, h.num, h.box, h.fz, h.row, (OwnR.of h.own).1.1, Nat.zero_le _, Nat.zero_le _⟩, rfl⟩

/-- All, and Records of it -/
theorem all_row (b : Nat) (s : DS) (fp : List Nat) (w : World) (h : PDr b s w fp) :
    Calls Try.prog 17 #[.pointer (some ⟨b, 0, none⟩)] w fun e w' => ∃ g n, n = s.bl.length ∧ e = .returned (.slice (some ⟨g, 0, none⟩) n n) ∧ RowS w' (some ⟨g, 0, none⟩) s.bl ∧ Below w.heap.size w w' := by
  refine (all_any 0 b s fp w h).mono ?_
  rintro e w' ⟨g, n, hn, rfl, hown, hb⟩
  exact ⟨g, n, hn, rfl, RowS.of_own (n := n) (c := n) hown, hb⟩
theorem records_cl (g n : Nat) (L : List (List UInt8)) (z : Nat) (w : World) (hr : RowS w (some ⟨g, 0, none⟩) (Cl L z).bl) (hn : n = (Cl L z).bl.length) (hk : AllOk L) (hz : used L + z ≤ 65536) :
    Calls Try.prog 18 #[.slice (some ⟨g, 0, none⟩) n n] w fun e w' => ∃ v, e = .returned (.tuple #[v, .int .i64 (used L : Nat)]) ∧ Below w.heap.size w w' ∧ TxR v L w' v.ownBlock.toList ∧ ∀ k ∈ v.ownBlock.toList, w.heap.size ≤ k := by
  have hl := Cl.len L z
  have := records_some g 0 n (Cl L z).bl w hr (by omega) (by omega) (by omega)
  rw [← hn] at this
  refine this.mono ?_
  rintro e w' ⟨ps, u, v, hrec, rfl, hb, hown⟩
  obtain ⟨e1, e2, _⟩ := open_cl hk hz hrec
  subst e1 e2
  obtain ⟨h1, h2⟩ := TxR.of hown
  exact ⟨v, rfl, hb, h1, h2⟩
end Go.Proofs.Ytbpklikmldpeiaa
