/-
  What the rows of layer 18 give of the library's variables.
-/
import Derived.Test.YtkflakeocdlinaaGreatDoorCards
import Derived.Test.YtkflakeocdlinaaGreatDoorTie
import Derived.Test.YtkflakeocdlinaaGreatDoorMC07
import Derived.Test.YtkflakeocdlinaaGreatDoorShelfMC
import Derived.Lay
import Derived.ProofKit
import Derived.LaidMore
import Derived.Stop.Joined
import Derived.Stop.LaidErr
import Derived.SevenTiedAt
import Derived.LaidOnce
import Derived.JoinedCond
import Derived.Lib.LaidTab
import Derived.LaidLaws
import Derived.Test.YtkflakeocdlinaaGreatDoorCmCMC
import Derived.Test.YtkflakeocdlinaaGreatDoorProg
import Derived.Deep.Slices
import Derived.Deep.Strs
import Derived.SizedLaws
import Derived.ChangeSame
import Derived.Lib.SmallJoins
namespace Go.Proofs.YtkflakeocdlinaaGreatDoor
open Go.ChangeShapes Go.WideShapes Go.ChangeAt Go.RowKit

theorem own18 : ownKnob Tryz.prog.godebug = none := by kernel_rfl
theorem laidOut18 : laidOutB Tryz.prog = true := by kernel_rfl
theorem gTen18 : Tryz.prog.globalNamed "internal/strconv.uint64pow10" = some 1 := by kernel_rfl
theorem gTenType18 : (Tryz.prog.globals[1]?).map (·.type) = some 161 := by kernel_rfl
theorem cellsTen18 : Tryz.prog.cellsOf 161 = 20 := by kernel_rfl
theorem cellsU64t18 : Tryz.prog.cellsOf 90 = 1 := by kernel_rfl
theorem ten_data18 {H : Type} : (Rows.laid_internal_strconv_uint64pow10 : DataW H) = Lib.tabData .u64 Lib.pow10Tab := by kernel_rfl
theorem gSyn18 : Tryz.prog.globalNamed "strconv.ErrSyntax" = some 4 := by kernel_rfl
theorem gSynType18 : (Tryz.prog.globals[4]?).map (·.type) = some 100 := by kernel_rfl
theorem gRan18 : Tryz.prog.globalNamed "strconv.ErrRange" = some 5 := by kernel_rfl
theorem gRanType18 : (Tryz.prog.globals[5]?).map (·.type) = some 100 := by kernel_rfl
theorem cellsErr18 : Tryz.prog.cellsOf 178 = 1 := by kernel_rfl
theorem cellsStr18 : Tryz.prog.cellsOf 9 = 1 := by kernel_rfl
theorem star18 : "*" ++ "errors.errorString" = "*errors.errorString" := by decide
theorem rowErr18 (u : TypeId) (h : Tryz.prog.typeName? 3 u = some "*errors.errorString") : u = 176 :=
  typeName_ptr_named (nm := "errors.errorString") (by rw [star18]; kernel_rfl) (by kernel_rfl) (by decide) u (by rw [star18]; exact h)

/-- the seven that are listed -/
noncomputable def laid7 : List (String × DataW Unit) := Rows.commandParsesRow.laid

/-- what the rows' list gives -/
theorem vars_of {W : World} (h : laidMetH Tryz.prog Rows.commandParsesRow.laid W) (hsh : W.ShapedOpen Tryz.prog) : Vars W := by
  rw [MakeChecks.laidMetH_plain _ _ _ (by kernel_rfl)] at h
  have h2 := laidMet.tail (laidMet.tail h)
  have h4 := laidMet.tail (laidMet.tail h2)
  have h5 := laidMet.tail h4
  rw [ten_data18] at h2
  obtain ⟨a1, s1, hv1, _⟩ := laid_sentinel h4 gRan18 gRanType18 Tryz.underlying100 rowErr18 Tryz.underlying176 Tryz.underlying178 rfl rfl Tryz.underlying9 cellsErr18 cellsStr18
  obtain ⟨a2, s2, hv2, _⟩ := laid_sentinel h5 gSyn18 gSynType18 Tryz.underlying100 rowErr18 Tryz.underlying176 Tryz.underlying178 rfl rfl Tryz.underlying9 cellsErr18 cellsStr18
  have c1 := World.var?_cell gRan18 hv1 0
  have c2 := World.var?_cell gSyn18 hv2 0
  exact ⟨Lib.tabIs_of_head gTen18 gTenType18 Tryz.underlying161 Tryz.underlying90 cellsU64t18 cellsTen18 h2, Tryz.laysM143.s1_3 W hsh, ⟨_, _, c2⟩, ⟨_, _, c1⟩⟩
end Go.Proofs.YtkflakeocdlinaaGreatDoor
/-
  What comes into CommandCodes, opened: a command by value, with its shares.
-/
namespace Go.Proofs.YtkflakeocdlinaaGreatDoor
open Go.RowKit Go.Deep Go.ChangeShapes Go.WideShapes

theorem cellsShare18 : Tryz.prog.cellsOf 39 = 2 := by kernel_rfl
theorem cellsCmd18 : Tryz.prog.cellsOf 24 = 7 := by kernel_rfl
theorem cellsStr18o : Tryz.prog.cellsOf 9 = 1 := by kernel_rfl
theorem cellsI6418 : Tryz.prog.cellsOf 2 = 1 := by kernel_rfl
theorem cellsSlice18 : Tryz.prog.cellsOf 22 = 1 := by kernel_rfl

theorem choose_lt18 {α : Type} (x0 : α) {n : Nat} {Q : Nat → α → Prop} (h : ∀ i, i < n → ∃ x, Q i x) : ∃ q : Nat → α, ∀ i, i < n → Q i (q i) :=
  ⟨fun i => if hi : i < n then Classical.choose (h i hi) else x0, fun i hi => by
    simp only [dif_pos hi]
    exact Classical.choose_spec (h i hi)⟩

section
variable {H : Type} {enc : TypeId × Value → H} {P : Program} {w : World} {base : Nat} {spare : Nat → Bool} {held : Bool}
theorem trod_struct2o {t : TypeId} {f0 f1 : Field} {fuel : Nat} {cs : List Value} {x : DataW H × List MemPlace} (ht : P.underlying t = some (.struct #[f0, f1])) (h : DataW.trod enc P w base spare held fuel t cs = some x) :
    ∃ y0 y1 n, x.1 = .agg [y0.1, y1.1] ∧ DataW.trod enc P w base spare held n f0.type ((cs.drop f0.offset).take (P.cellsOf f0.type)) = some y0 ∧
      DataW.trod enc P w base spare held n f1.type ((cs.drop f1.offset).take (P.cellsOf f1.type)) = some y1 := by
  obtain ⟨xs, n, _, rfl, hl, hlen, hf⟩ := DataW.trod_struct ht h
  match xs, hlen with
  | [y0, y1], _ => exact ⟨y0, y1, n, rfl, by simpa using hf 0 f0 rfl, by simpa using hf 1 f1 rfl⟩
theorem trod_struct7 {t : TypeId} {f0 f1 f2 f3 f4 f5 f6 : Field} {fuel : Nat} {cs : List Value} {x : DataW H × List MemPlace} (ht : P.underlying t = some (.struct #[f0, f1, f2, f3, f4, f5, f6])) (h : DataW.trod enc P w base spare held fuel t cs = some x) :
    ∃ y0 y1 y2 y3 y4 y5 y6 n, x.1 = .agg [y0.1, y1.1, y2.1, y3.1, y4.1, y5.1, y6.1] ∧ DataW.trod enc P w base spare held n f0.type ((cs.drop f0.offset).take (P.cellsOf f0.type)) = some y0 ∧
      DataW.trod enc P w base spare held n f1.type ((cs.drop f1.offset).take (P.cellsOf f1.type)) = some y1 ∧ DataW.trod enc P w base spare held n f2.type ((cs.drop f2.offset).take (P.cellsOf f2.type)) = some y2 ∧
      DataW.trod enc P w base spare held n f3.type ((cs.drop f3.offset).take (P.cellsOf f3.type)) = some y3 ∧ DataW.trod enc P w base spare held n f4.type ((cs.drop f4.offset).take (P.cellsOf f4.type)) = some y4 ∧
      DataW.trod enc P w base spare held n f5.type ((cs.drop f5.offset).take (P.cellsOf f5.type)) = some y5 ∧ DataW.trod enc P w base spare held n f6.type ((cs.drop f6.offset).take (P.cellsOf f6.type)) = some y6 := by
  obtain ⟨xs, n, _, rfl, hl, hlen, hf⟩ := DataW.trod_struct ht h
  match xs, hlen with
  | [y0, y1, y2, y3, y4, y5, y6], _ => exact ⟨y0, y1, y2, y3, y4, y5, y6, n, rfl, by simpa using hf 0 f0 rfl, by simpa using hf 1 f1 rfl, by simpa using hf 2 f2 rfl, by simpa using hf 3 f3 rfl, by simpa using hf 4 f4 rfl, by simpa using hf 5 f5 rfl, by simpa using hf 6 f6 rfl⟩
end

theorem bytesShare18 : Tryz.prog.bytesOf 39 = 24 := by kernel_rfl
theorem reach62 : reachBytes ≤ 4611686018427387904 := by decide
theorem weightsAll_mem18 {H : Type} {P : Program} {e : TypeId} : ∀ {l : List (DataW H)} {d : DataW H}, d ∈ l → ∀ n ∈ d.weights P e, n ∈ DataW.weightsAll P e l
  | d0 :: r, d, hd, n, hn => by
    simp only [DataW.weightsAll, List.mem_append]
    rcases List.mem_cons.1 hd with rfl | hd
    · exact .inl hn
    · exact .inr (weightsAll_mem18 hd n hn)
theorem list7 (l : List Value) (h : l.toArray.size = 7) : ∃ a0 a1 a2 a3 a4 a5 a6, l = [a0, a1, a2, a3, a4, a5, a6] := by
  match l, h with
  | [a0, a1, a2, a3, a4, a5, a6], _ => exact ⟨a0, a1, a2, a3, a4, a5, a6, rfl⟩

set_option maxRecDepth 100000 in
theorem open_sh18 {H : Type} {enc : TypeId × Value → H} {W : World} {sp : Nat → Bool} {v : Value} {fuel : Nat} {x : DataW H × List MemPlace}
    (hf : DataW.trod enc Tryz.prog W 0 sp true fuel 22 [v] = some x) (hw : ∀ n ∈ x.1.weights Tryz.prog 22, n ≤ reachBytes) :
    ∃ (a0 : Option Addr) (len cap : Nat) (ls : List Sh), v = .slice a0 len cap ∧ ls.length = len ∧ RowG 2 cSh W a0 ls ∧ len ≤ cap ∧ len ≤ 4611686018427387904 ∧ ∀ s ∈ ls, s.1.length ≤ 4611686018427387904 := by
  rcases open_slice Tryz.underlying22 hf with ⟨h0, _⟩ | ⟨a, len, cap, m, n, D, Pl, hv, hb, hl, hm, hmm, hx, hel⟩
  · simp at h0
    subst h0
    exact ⟨none, 0, 0, [], rfl, rfl, RowG.nil _ _, Nat.le_refl _, Nat.zero_le _, by simp⟩
  · simp at hv
    subst hv
    have hlm : len ≤ m := by rw [hmm]; split <;> omega
    have hd : x.1 = .slice ((List.range len).map D) ((List.range (m - len)).map fun j => D (len + j)) := congrArg Prod.fst hx
    have h62 := reach62
    have hlen62 : len ≤ 4611686018427387904 := by
      have h1 := hw (((List.range len).map D).length + ((List.range (m - len)).map fun j => D (len + j)).length |> (· * Tryz.prog.bytesOf 39)) (by rw [hd, DataW.weights, Tryz.underlying22]; exact List.mem_cons_self ..)
      rw [bytesShare18] at h1
      simp at h1
      omega
    have each : ∀ i, i < len → ∃ x : Sh, (∀ j u, (cSh x)[j]? = some u → W.cell? (a.add (i * 2 + j)) = some u) ∧ x.1.length ≤ 4611686018427387904 := by
      intro i hi
      obtain ⟨cs', h1, h2⟩ := hel i (by omega)
      rw [cellsShare18] at h1
      obtain ⟨_, hlen, hcell⟩ := World.cells?_some h1
      obtain ⟨y0, y1, k, hxy, u0, u1⟩ := trod_struct2o Tryz.underlying39 h2
      match cs', hlen with
      | [v0, v1], _ =>
        simp only [cellsStr18o, cellsI6418, List.drop, List.take] at u0 u1
        obtain ⟨s0, e0, d0, hz⟩ := DataW.trod_string Tryz.underlying9 u0
        obtain ⟨n1, e1, d1, hwf⟩ := DataW.trod_int Tryz.underlying2 u1
        simp only [List.cons.injEq, and_true] at e0 e1
        subst e0 e1
        refine ⟨(s0.data.toList, n1), fun j u hu => ?_, ?_⟩
        rotate_left
        · have hDi : D i ∈ (List.range len).map D := List.mem_map.2 ⟨i, List.mem_range.2 hi, rfl⟩
          refine Nat.le_trans (hw _ ?_) h62
          rw [hd, DataW.weights, Tryz.underlying22]
          refine List.mem_cons_of_mem _ (List.mem_append_left _ (weightsAll_mem18 hDi _ ?_))
          rw [show D i = .agg [y0.1, y1.1] from hxy, DataW.weights, Tryz.underlying39]
          refine DataW.weights_mem_each (j := 0) rfl rfl _ ?_
          rw [d0]
          simp [DataW.weights]
        have hj : j < 2 := (List.getElem?_eq_some_iff.1 hu).1
        have hc := hcell j hj
        rw [add_add] at hc
        rw [hc]
        match j, hj with
        | 0, _ =>
          have hu' : Value.string (st s0.data.toList) = u := by simpa [cSh] using hu
          rw [← hu', ← of_data]; rfl
        | 1, _ =>
          have hu' : Value.int .i64 n1 = u := by simpa [cSh] using hu
          rw [← hu']; rfl
    obtain ⟨q, hq⟩ := choose_lt18 (([], 0) : Sh) each
    refine ⟨some a, len, cap, (List.range len).map q, rfl, by simp, fun hp => ?_, hl, hlen62, ?_⟩
    · have hp' : 0 < len := by simpa using hp
      have hc0 := (hq 0 hp').1 0 _ rfl
      have hspot : a.spot = none := by simpa [Addr.add] using World.cell?_spot hc0
      obtain ⟨b, off, spot⟩ := a
      simp only at hspot
      subst hspot
      refine ⟨b, off, rfl, fun i x hi j u hu => ?_⟩
      obtain ⟨hlt, he⟩ := List.getElem?_eq_some_iff.1 hi
      have hlt' : i < len := by simpa using hlt
      have he' : q i = x := by simpa using he
      have c0 := (hq i hlt').1 j u (by rw [he']; exact hu)
      have ea : ∀ k : Nat, (⟨b, off, none⟩ : Addr).add k = ⟨b, off + k, none⟩ := by
        intro k
        unfold Addr.add
        by_cases e0 : k = 0
        · subst e0; rfl
        · simp [e0]
      rw [ea, ← Nat.add_assoc] at c0
      exact c0
    · intro s hs
      obtain ⟨i, hi, rfl⟩ := List.mem_map.1 hs
      exact (hq i (List.mem_range.1 hi)).2

set_option maxRecDepth 100000 in
theorem open_command {H : Type} {enc : TypeId × Value → H} {W : World} {sp : Nat → Bool} {v : Value} {d : DataW H} {p : List MemPlace} {base : Nat}
    (hv : Value.okWide Tryz.prog W .any base 24 v) (h : DataW.Trod enc Tryz.prog W 0 sp true 24 v d p) (hw : ∀ n ∈ d.weights Tryz.prog 24, n ≤ reachBytes) :
    ∃ (c : Cm) (a : Option Addr) (cp : Nat), v = .agg #[.string (st c.kind), .string (st c.id), .string (st c.about), .string (st c.cur), .string (st c.cat), .int .i64 c.amt, .slice a c.sh.length cp] ∧ RowG 2 cSh W a c.sh ∧ c.sh.length ≤ cp ∧
      c.kind.length ≤ maxLen ∧ c.id.length ≤ 4611686018427387904 ∧ c.about.length ≤ 4611686018427387904 ∧ c.cur.length ≤ 4611686018427387904 ∧ c.cat.length ≤ 4611686018427387904 ∧ c.sh.length ≤ 4611686018427387904 ∧ ∀ s ∈ c.sh, s.1.length ≤ 4611686018427387904 := by
  obtain ⟨cs, rfl, hsz⟩ := okWide_struct Tryz.underlying24 hv
  rw [cellsCmd18] at hsz
  obtain ⟨l⟩ := cs
  obtain ⟨v0, v1, v2, v3, v4, v5, v6, rfl⟩ := list7 l hsz
  obtain ⟨fuel, hf⟩ := h
  obtain ⟨y0, y1, y2, y3, y4, y5, y6, k, hxy, u0, u1, u2, u3, u4, u5, u6⟩ := trod_struct7 Tryz.underlying24 hf
  have hwf : ∀ (j : Nat) t (y : DataW H), ([9, 9, 9, 9, 9, 2, 22] : List TypeId)[j]? = some t → [y0.1, y1.1, y2.1, y3.1, y4.1, y5.1, y6.1][j]? = some y → ∀ n ∈ y.weights Tryz.prog t, n ≤ reachBytes := fun j t y ht hy n hn => by
    refine hw n ?_
    rw [show d = .agg [y0.1, y1.1, y2.1, y3.1, y4.1, y5.1, y6.1] from hxy, DataW.weights, Tryz.underlying24]
    exact DataW.weights_mem_each (j := j) ht hy n hn
  have h62 := reach62
  simp only [Value.cells, cellsStr18o, cellsI6418, cellsSlice18, List.drop, List.take] at u0 u1 u2 u3 u4 u5 u6
  obtain ⟨s0, e0, g0, h0⟩ := DataW.trod_string Tryz.underlying9 u0
  obtain ⟨s1, e1, g1, h1⟩ := DataW.trod_string Tryz.underlying9 u1
  obtain ⟨s2, e2, g2, h2⟩ := DataW.trod_string Tryz.underlying9 u2
  obtain ⟨s3, e3, g3, h3⟩ := DataW.trod_string Tryz.underlying9 u3
  obtain ⟨s4, e4, g4, h4⟩ := DataW.trod_string Tryz.underlying9 u4
  obtain ⟨n5, e5, _, _⟩ := DataW.trod_int Tryz.underlying2 u5
  simp only [List.cons.injEq, and_true] at e0 e1 e2 e3 e4 e5
  subst e0; subst e1; subst e2; subst e3; subst e4; subst e5
  obtain ⟨a0, len, cap, ls, rfl, rfl, hrow, hcap, hlm, hs⟩ := open_sh18 u6 (hwf 6 _ _ rfl rfl)
  refine ⟨⟨s0.data.toList, s1.data.toList, s2.data.toList, s3.data.toList, s4.data.toList, n5, ls⟩, a0, cap, ?_, hrow, hcap, h0, Nat.le_trans (hwf 1 _ _ rfl rfl _ (by rw [g1]; simp [DataW.weights])) h62, Nat.le_trans (hwf 2 _ _ rfl rfl _ (by rw [g2]; simp [DataW.weights])) h62, Nat.le_trans (hwf 3 _ _ rfl rfl _ (by rw [g3]; simp [DataW.weights])) h62, Nat.le_trans (hwf 4 _ _ rfl rfl _ (by rw [g4]; simp [DataW.weights])) h62, hlm, hs⟩
  simp only
  rw [← of_data, ← of_data, ← of_data, ← of_data, ← of_data]
end Go.Proofs.YtkflakeocdlinaaGreatDoor
