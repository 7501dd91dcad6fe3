/-
  Contract of command.Parse.
-/
import Derived.Test.YtkflakeocdlinaaGreatDoorCmIMC
namespace Go.Proofs.YtkflakeocdlinaaGreatDoor
open Go.RowKit Go.Deep

/-- what Print answers -/
def prT (c : Cm) : List UInt8 := if rightC c = 0 then textC c else []
theorem print_any18 (c : Cm) (a : Option Addr) (cp : Nat) (w : World) (hk : c.kind.length ≤ maxLen) (ht : Tab w) (hr : RowG 2 cSh w a c.sh) (hc : c.sh.length ≤ cp) (hl : c.sh.length ≤ 4611686018427387904) :
    Calls Tryz.prog 10 #[.agg #[.string (st c.kind), .string (st c.id), .string (st c.about), .string (st c.cur), .string (st c.cat), .int .i64 c.amt, .slice a c.sh.length cp]] w fun e w' => e = .returned (.tuple #[.string (st (prT c)), .int .i64 (rightC c)]) ∧ Below w.heap.size w w' := by
  obtain ⟨k, i, b, u, t, m, xs⟩ := c
  simp only at hk hr hc hl ⊢
  by_cases hE : rightC ⟨k, i, b, u, t, m, xs⟩ = 0
  · cases hf : formC k with
    | none =>
      have : rightC ⟨k, i, b, u, t, m, xs⟩ = 1 := by unfold rightC; simp only; rw [hf]
      rw [this] at hE; cases hE
    | some f =>
      have h := print_good k i b u t m a cp xs f w hk hf ht hr hc hE
      have e : prT ⟨k, i, b, u, t, m, xs⟩ = textF ⟨k, i, b, u, t, m, xs⟩ f := by unfold prT; rw [if_pos hE]; unfold textC; simp only [hf]
      rw [e, hE]
      exact h
  · have h := print_bad k i b u t m a cp xs w hk hr hc hl hE
    have e : prT ⟨k, i, b, u, t, m, xs⟩ = [] := by unfold prT; rw [if_neg hE]
    rw [e]
    exact h

theorem splitK_small : ∀ (k : Nat) (s : List UInt8), 1 ≤ (Go.Lib.splitK [32] 0 k s).length ∧ (Go.Lib.splitK [32] 0 k s).length ≤ k + 1 ∧ ∀ x ∈ Go.Lib.splitK [32] 0 k s, x.length ≤ s.length
  | 0, s => by simp [Go.Lib.splitK]
  | k + 1, s => by
    unfold Go.Lib.splitK
    split
    · simp
    · obtain ⟨h1, h2, h3⟩ := splitK_small k (s.drop ((Go.Lib.index s [32]).toNat + [(32 : UInt8)].length))
      have hdl : ∀ x ∈ Go.Lib.splitK [32] 0 k (s.drop ((Go.Lib.index s [32]).toNat + [(32 : UInt8)].length)), x.length ≤ s.length := fun x hx => by
        have := h3 x hx
        rw [List.length_drop] at this
        omega
      generalize Go.Lib.splitK [32] 0 k (s.drop ((Go.Lib.index s [32]).toNat + [(32 : UInt8)].length)) = L at h1 h2 hdl ⊢
      refine ⟨by simp, by simp only [List.length_cons]; omega, fun x hx => ?_⟩
      rcases List.mem_cons.1 hx with rfl | hx
      · rw [List.length_take]; omega
      · exact hdl x hx
theorem splitW_small (l : List UInt8) : 1 ≤ (splitW l).length ∧ (splitW l).length ≤ min 14 (l.length + 1) ∧ ∀ x ∈ splitW l, x.length ≤ l.length := by
  obtain ⟨h1, h2, h3⟩ := splitK_small (min 14 (l.length + 1) - 1) l
  exact ⟨h1, by unfold splitW; omega, h3⟩
theorem split_any (l : List UInt8) (w : World) (hl : l.length ≤ 100000) (hv : Vars w) :
    Calls Tryz.prog 37 #[.string (st l), .string ⟨#[32]⟩, .int .i64 14] w fun e w' => e = .returned (.slice (some ⟨w.heap.size, 0, none⟩) (splitW l).length (min 14 (l.length + 1))) ∧ RowS w' (some ⟨w.heap.size, 0, none⟩) (splitW l) ∧ Below w.heap.size w w' := by
  obtain ⟨m, hm⟩ := hv.max
  have hsz := st_size l
  refine (Tryz.strings_SplitN (st l) ⟨#[32]⟩ 14 m w (by omega) hm (by decide) (by decide) (by decide)).mono ?_
  rintro e w' ⟨he, rfl⟩
  have hd : (Go.Lib.splitB ⟨#[32]⟩ 0 (min 14 ((st l).size + 1) - 1) (st l)).map (·.data.toList) = splitW l := by
    rw [Go.Lib.splitB_data, hsz]
    have : (st l).data.toList = l := st_toList l
    rw [this]; rfl
  have hlen : (Go.Lib.splitB ⟨#[32]⟩ 0 (min 14 ((st l).size + 1) - 1) (st l)).length = (splitW l).length := by rw [← hd, List.length_map]
  rw [hlen] at he
  rw [hsz] at he
  refine ⟨he, fun h0 => ⟨w.heap.size, 0, rfl, fun i x hx => ?_⟩, (Below.refl _ w).alloc (Nat.le_refl _) _⟩
  rw [Nat.zero_add, (Blk.new w _ _).cell i]
  rw [← hd, List.getElem?_map] at hx
  obtain ⟨y, hy, rfl⟩ := Option.map_eq_some_iff.1 hx
  have hy2 : st y.data.toList = y := (of_data y).symm
  unfold Go.Lib.cellsOf
  rw [List.getElem?_toArray, List.getElem?_append_left (by rw [List.length_map]; exact (List.getElem?_eq_some_iff.1 hy).1), List.getElem?_map, hy, hy2]
  rfl

theorem readF_kind (c : Cm) (f : Nat) (ws : List (List UInt8)) : (readF c f ws).kind = c.kind := by
  unfold readF; split <;> first | rfl | (split <;> rfl)
theorem readF_sh (c : Cm) (f : Nat) (ws : List (List UInt8)) (hw : ws.length ≤ 1000) (hc : c.sh.length ≤ 1000) : (readF c f ws).sh.length ≤ 1000 := by
  unfold readF; split <;> first | exact hc | (split <;> exact hc) | (simp only [List.length_map]; exact hw)
theorem readL_step {f : List Nat} {ws : List (List UInt8)} {j x : Nat} (c : Cm) (hx : f[j]? = some x) (hj : j < ws.length) : readL (f.drop j) (ws.drop j) c = readL (f.drop (j + 1)) (ws.drop (j + 1)) (readF c x (ws.drop j)) := by
  obtain ⟨h1, h2⟩ := List.getElem?_eq_some_iff.1 hx
  rw [List.drop_eq_getElem_cons h1, List.drop_eq_getElem_cons hj, h2]
  rfl
theorem readL_end {f : List Nat} {ws : List (List UInt8)} {j : Nat} (c : Cm) (h : f.length ≤ j ∨ ws.length ≤ j) : readL (f.drop j) (ws.drop j) c = c := by
  rcases h with h | h
  · rw [List.drop_eq_nil_of_le h]; cases ws.drop j <;> rfl
  · rw [List.drop_eq_nil_of_le h]; cases f.drop j <;> rfl
theorem RowS.tail {w : World} {g off : Nat} {x : List UInt8} {ws : List (List UInt8)} (h : RowS w (some ⟨g, off, none⟩) (x :: ws)) : RowS w (some ⟨g, off + 1, none⟩) ws := by
  obtain ⟨b, o, e, hc⟩ := h (by simp)
  simp only [Option.some.injEq, Addr.mk.injEq, and_true] at e
  obtain ⟨rfl, rfl⟩ := e
  intro _
  refine ⟨g, off + 1, rfl, fun i y hy => ?_⟩
  have := hc (i + 1) y (by simpa using hy)
  rwa [show off + (i + 1) = off + 1 + i by omega] at this
theorem RowS.dropN {w : World} {g off : Nat} {ws : List (List UInt8)} (h : RowS w (some ⟨g, off, none⟩) ws) (j : Nat) : RowS w (some ⟨g, off + j, none⟩) (ws.drop j) := by
  intro h0
  rw [List.length_drop] at h0
  obtain ⟨b, o, e, hc⟩ := h (by omega)
  simp only [Option.some.injEq, Addr.mk.injEq, and_true] at e
  obtain ⟨rfl, rfl⟩ := e
  refine ⟨g, off + j, rfl, fun i y hy => ?_⟩
  rw [List.getElem?_drop] at hy
  have := hc (j + i) y hy
  rwa [show off + (j + i) = off + j + i by omega] at this
theorem RowS.stp {fp : List Nat} {w w' : World} {g off : Nat} {ws : List (List UInt8)} (h : RowS w (some ⟨g, off, none⟩) ws) (hs : Stp fp w w') (hn : g ∉ fp) : RowS w' (some ⟨g, off, none⟩) ws := by
  intro h0
  obtain ⟨b, o, e, hc⟩ := h h0
  simp only [Option.some.injEq, Addr.mk.injEq, and_true] at e
  obtain ⟨rfl, rfl⟩ := e
  refine ⟨g, off, rfl, fun i y hy => ?_⟩
  have h1 := hc i y hy
  have hlt := World.block_lt_of_cell? w (⟨g, off + i, none⟩ : Addr) h1
  rw [← h1]
  simp only [World.cell?, hs.block g hlt hn]

theorem off_next {a6 aa : Option Addr} {n b : Nat} (hor : a6 = aa ∨ ∀ p, a6 = some p → n ≤ p.block) (ho : ∀ p, aa = some p → p.block ≠ b) (hb : b < n) : ∀ p, a6 = some p → p.block ≠ b := fun p hp => by
  rcases hor with h | h
  · exact ho p (h ▸ hp)
  · have := h p hp; omega
theorem up_next {a6 aa : Option Addr} {n b : Nat} (hor : a6 = aa ∨ ∀ p, a6 = some p → n ≤ p.block) (ho : ∀ p, aa = some p → b ≤ p.block) (hb : b ≤ n) : ∀ p, a6 = some p → b ≤ p.block := fun p hp => by
  rcases hor with h | h
  · exact ho p (h ▸ hp)
  · have := h p hp; omega
/-- nothing -/
def cZero : Cm := ⟨[], [], [], [], [], 0, []⟩
/-- what Parse answers -/
def PaPost (l : List UInt8) (w : World) (e : Ending) (w' : World) : Prop :=
  ∃ (c : Cm) (a : Option Addr) (cp : Nat) (er : Int), e = .returned (.tuple #[.agg #[.string (st c.kind), .string (st c.id), .string (st c.about), .string (st c.cur), .string (st c.cat), .int .i64 c.amt, .slice a c.sh.length cp], .int .i64 er]) ∧ RowG 2 cSh w' a c.sh ∧ c.sh.length ≤ cp ∧ Below w.heap.size w w' ∧
    ((er = 0 ∧ c = parC l ∧ rightC c = 0 ∧ textC c = l) ∨ (er = 3 ∧ c = cZero ∧ ¬ (rightC (parC l) = 0 ∧ textC (parC l) = l)))

/-- a command in a box, behind writes to it alone -/
structure BoxP (w : World) (b : Nat) (c : Cm) (a : Option Addr) (cp : Nat) : Prop where
  blk : Blk w b 24 #[.string (st c.kind), .string (st c.id), .string (st c.about), .string (st c.cur), .string (st c.cat), .int .i64 c.amt, .slice a c.sh.length cp]
  row : RowG 2 cSh w a c.sh
  off : ∀ p, a = some p → p.block ≠ b
  room : c.sh.length ≤ cp
theorem BoxP.keep {w w' : World} {b : Nat} {c : Cm} {a : Option Addr} {cp : Nat} (h : BoxP w b c a cp) (hb : Below w.heap.size w w') : BoxP w' b c a cp := ⟨h.blk.since hb, h.row.keep hb, h.off, h.room⟩

set_option maxHeartbeats 6400000 in
set_option maxRecDepth 100000 in
theorem parse_anyC (l : List UInt8) (w : World) (hl : l.length ≤ 100000) (hv : Vars w) :
    Calls Tryz.prog 13 #[.string (st l)] w (PaPost l w) := by
  obtain ⟨WS, hWS⟩ : ∃ WS, WS = splitW l := ⟨_, rfl⟩
  have hsm := splitW_small l
  rw [← hWS] at hsm
  obtain ⟨kd, ws, hcons⟩ : ∃ kd ws, WS = kd :: ws := by
    cases WS with
    | nil => simp at hsm
    | cons kd ws => exact ⟨kd, ws, rfl⟩
  have HF0 : Hid (parC l = readL ((formC kd).getD []) ws ⟨kd, [], [], [], [], 0, []⟩) := by show _ = _; unfold parC; rw [← hWS, hcons]; rfl
  obtain ⟨FC, hFC⟩ : ∃ FC, FC = parC l := ⟨_, rfl⟩
  have HFC := Lib.hid hFC
  rw [← hFC] at HF0
  have HWE : Hid (∀ x ∈ kd :: ws, x.length ≤ 100000) := fun x hx => by have := hsm.2.2 x (by rw [hcons]; exact hx); omega
  obtain ⟨nt, hnt⟩ : ∃ nt, nt = ws.length := ⟨_, rfl⟩
  have HNT := Lib.hid hnt
  have hw1 : WS.length = nt + 1 := by rw [hcons, List.length_cons, hnt]
  obtain ⟨ct, hct⟩ : ∃ ct, min 14 (l.length + 1) = ct + 1 := ⟨min 14 (l.length + 1) - 1, by omega⟩
  have hntc : nt ≤ ct := by have := hsm.2.1; omega
  have hct13 : ct ≤ 13 := by omega
  have hb0 : Below w.heap.size w (w.alloc (.cells #[.string ⟨#[]⟩, .string ⟨#[]⟩, .string ⟨#[]⟩, .string ⟨#[]⟩, .string ⟨#[]⟩, .int .i64 0, .slice none 0 0] 24)) := (Below.refl _ w).alloc (Nat.le_refl _) _
  have HSP : Hid (Calls Tryz.prog 37 #[.string (st l), .string ⟨#[32]⟩, .int .i64 14] (w.alloc (.cells #[.string ⟨#[]⟩, .string ⟨#[]⟩, .string ⟨#[]⟩, .string ⟨#[]⟩, .string ⟨#[]⟩, .int .i64 0, .slice none 0 0] 24)) fun e w' => e = .returned (.slice (some ⟨(w.alloc (.cells #[.string ⟨#[]⟩, .string ⟨#[]⟩, .string ⟨#[]⟩, .string ⟨#[]⟩, .string ⟨#[]⟩, .int .i64 0, .slice none 0 0] 24)).heap.size, 0, none⟩) (nt + 1) (ct + 1)) ∧ RowS w' (some ⟨(w.alloc (.cells #[.string ⟨#[]⟩, .string ⟨#[]⟩, .string ⟨#[]⟩, .string ⟨#[]⟩, .string ⟨#[]⟩, .int .i64 0, .slice none 0 0] 24)).heap.size, 0, none⟩) (kd :: ws) ∧ Below (w.alloc (.cells #[.string ⟨#[]⟩, .string ⟨#[]⟩, .string ⟨#[]⟩, .string ⟨#[]⟩, .string ⟨#[]⟩, .int .i64 0, .slice none 0 0] 24)).heap.size (w.alloc (.cells #[.string ⟨#[]⟩, .string ⟨#[]⟩, .string ⟨#[]⟩, .string ⟨#[]⟩, .string ⟨#[]⟩, .int .i64 0, .slice none 0 0] 24)) w') := by
    have h := split_any l (w.alloc (.cells #[.string ⟨#[]⟩, .string ⟨#[]⟩, .string ⟨#[]⟩, .string ⟨#[]⟩, .string ⟨#[]⟩, .int .i64 0, .slice none 0 0] 24)) hl (hv.keep hb0)
    rw [← hWS, hw1, hct, hcons] at h
    exact h
  have HRS : Hid (Blk (w.alloc (.cells #[.string ⟨#[]⟩, .string ⟨#[]⟩, .string ⟨#[]⟩, .string ⟨#[]⟩, .string ⟨#[]⟩, .int .i64 0, .slice none 0 0] 24)) w.heap.size 24 #[.string ⟨#[]⟩, .string ⟨#[]⟩, .string ⟨#[]⟩, .string ⟨#[]⟩, .string ⟨#[]⟩, .int .i64 0, .slice none 0 0]) := Blk.new w _ _
  have HB0 := Lib.hid hb0
  have HV := Lib.hid (hv.keep hb0)
  have HLL : Hid (l.length ≤ 100000) := hl
  have hkdl : kd.length ≤ 100000 := HWE.out kd (by simp)
  have HKD : Hid (kd.length ≤ 100000) := hkdl
  clear hv hsm hcons hWS hw1 hct hb0 hFC hl hnt hkdl
  unfold PaPost
  rw [← HFC.out]
  go_enter Tryz.func13, Tryz.ntmps13
  go_upto_region 1 with fail
  obtain ⟨rs, hrs⟩ : ∃ rs, rs = w.heap.size := ⟨_, rfl⟩
  have HE := Lib.hid hrs
  rw [← hrs] at HRS HB0 ⊢
  generalize w.alloc (.cells #[.string ⟨#[]⟩, .string ⟨#[]⟩, .string ⟨#[]⟩, .string ⟨#[]⟩, .string ⟨#[]⟩, .int .i64 0, .slice none 0 0] 24) = w0 at HRS HB0 HV HSP ⊢
  clear hrs
  have hrs0 : rs < w0.heap.size := HRS.out.lt
  go_wp2_with fail
  refine HSP.out.mono ?_
  rintro e w1 ⟨rfl, hrow, hb⟩
  obtain ⟨gw, hgw⟩ : ∃ gw, gw = w0.heap.size := ⟨_, rfl⟩
  rw [← hgw] at hrow ⊢
  have HRW1 := Lib.hid hrow
  have HB1 : Hid (Below w0.heap.size w0 w1) := hb
  have HGW : Hid (w0.heap.size ≤ gw) := Nat.le_of_eq hgw.symm
  have k0 : w1.cell? ⟨gw, 0, none⟩ = some (.string (st kd)) := by
    obtain ⟨b, o, e, hc⟩ := hrow (by simp)
    simp only [Option.some.injEq, Addr.mk.injEq, and_true] at e
    obtain ⟨rfl, rfl⟩ := e
    simpa using hc 0 kd rfl
  have hgl : gw < w1.heap.size := World.block_lt_of_cell? _ _ k0
  have HCL : ∀ W', Hid (Calls Tryz.prog 38 #[.string (st kd)] W' fun e w' => e = .returned (.string (st kd)) ∧ Below W'.heap.size W' w') := fun W' => sclone_any (st kd) W' (by rw [st_size]; have := HKD.out; omega)
  clear hb hrow HSP hgw
  have i0 : (0 : Int) < (nt : Int) + 1 := by omega
  go_wp2_with fail
  refine (HCL _).out.mono ?_
  rintro e w2 ⟨rfl, hb⟩
  have HRW2 := Lib.hid (HRW1.out.keep hb)
  have HB2 := Lib.hid (bel_onG HB1.out HB1.out.size hb)
  have hgl2 : gw < w2.heap.size := Nat.lt_of_lt_of_le hgl hb.size
  clear hb k0 HRW1 HB1 HCL hgl
  go_upto_region 3 with fail
  have hb3 : Below w2.heap.size w2 (w2.alloc (.cells #[.string (st kd), .string ⟨#[]⟩, .string ⟨#[]⟩, .string ⟨#[]⟩, .string ⟨#[]⟩, .int .i64 0, .slice none 0 0] 24)) := (Below.refl _ w2).alloc (Nat.le_refl _) _
  obtain ⟨b5, hb5⟩ : ∃ b5, b5 = w2.heap.size := ⟨_, rfl⟩
  have HBX : Hid (BoxP (w2.alloc (.cells #[.string (st kd), .string ⟨#[]⟩, .string ⟨#[]⟩, .string ⟨#[]⟩, .string ⟨#[]⟩, .int .i64 0, .slice none 0 0] 24)) b5 ⟨kd, [], [], [], [], 0, []⟩ none 0) := ⟨by rw [hb5]; exact Blk.new w2 _ _, RowG.nil _ _, (fun p hp => by cases hp), by simp⟩
  have HRW3 := Lib.hid (HRW2.out.keep hb3)
  have HB3 := Lib.hid (bel_onG HB2.out HB2.out.size hb3)
  have HG5 : Hid (gw ≠ b5) := by show _ ≠ _; omega
  have HL5 : Hid (w0.heap.size ≤ b5) := by rw [hb5]; exact HB2.out.size
  have HR5 : Hid (rs ≠ b5) := by have := HL5.out; show _ ≠ _; omega
  rw [← hb5]
  generalize w2.alloc (.cells #[.string (st kd), .string ⟨#[]⟩, .string ⟨#[]⟩, .string ⟨#[]⟩, .string ⟨#[]⟩, .int .i64 0, .slice none 0 0] 24) = w3 at HBX HRW3 HB3 ⊢
  clear hb3 hb5 HRW2 HB2 hgl2
  obtain ⟨f, hf⟩ : ∃ f, f = (formC kd).getD [] := ⟨_, rfl⟩
  have HFF := Lib.hid hf
  rw [← hf] at HF0
  obtain ⟨fl, hfl⟩ : ∃ fl, fl = f.length := ⟨_, rfl⟩
  have HFN := Lib.hid hfl
  have HF : ∀ W, Hid (Below w3.heap.size w3 W → Calls Tryz.prog 18 #[] W fun e w' => ∃ mm ag, e = .returned (.map (some mm)) ∧ (Instr.lookup 42 (.map (some mm)) (.string (st kd)) false).run Tryz.prog w' = .ok (.slice ag fl fl) w' ∧ ((ag = none ∧ fl = 0) ∨ ∃ g, ag = some ⟨g, 0, none⟩ ∧ RowF w' g f) ∧ Below w3.heap.size w3 w') := fun W hW => by
    have hkm : kd.length ≤ maxLen := by have := HKD.out; unfold maxLen; omega
    cases hfm : formC kd with
    | none =>
      have hfe : f = [] := by rw [hf, hfm]; rfl
      have hfl0 : fl = 0 := by rw [hfl, hfe]; rfl
      refine (cforms_none hfm hkm false W).mono ?_
      rintro e w' ⟨mm, rfl, hl, hb⟩
      refine ⟨mm, none, rfl, ?_, .inl ⟨rfl, hfl0⟩, bel_onG hW hW.size hb⟩
      rw [hfl0]; exact hl
    | some f' =>
      have hfe : f' = f := by rw [hf, hfm]; rfl
      subst hfe
      refine (cforms_some hfm hkm false W).mono ?_
      rintro e w' ⟨mm, g, rfl, hl, hrw, hb⟩
      rw [← hfl] at hl
      exact ⟨mm, _, rfl, hl, .inr ⟨g, rfl, hrw⟩, bel_onG hW hW.size hb⟩
  have hf5 : fl ≤ 5 := by
    rw [hfl, hf]
    cases hfm : formC kd with
    | none => simp
    | some f' => exact (formC_le hfm).1
  have HF8 : Hid (∀ x ∈ f, x ≤ 8) := by
    show ∀ x ∈ f, x ≤ 8
    rw [hf]
    cases hfm : formC kd with
    | none => simp
    | some f' => exact (formC_le hfm).2
  obtain ⟨d0, d1, d2, d3, d4, d5, d6⟩ := cell_seven HBX.out.blk
  clear hf hfl
  go_cut [6] from 18 to 21 (fun v6 wx => ∃ ag, v6 = .slice ag fl fl ∧ Hid ((ag = none ∧ fl = 0) ∨ ∃ g, ag = some ⟨g, 0, none⟩ ∧ RowF wx g f) ∧ Hid (Below w3.heap.size w3 wx))
  case first =>
    go_region_with (first | (go_at_call 18; refine ((HF _).out (by exact (Below.refl _ w3).drew)).mono ?_; rintro e w4 ⟨mm, ag, rfl, hrun, hag, hb⟩; have HAG := Lib.hid hag; have HB4 := Lib.hid hb; have k0 := (cell_seven (HBX.out.blk.since hb)).1; clear hb hag) | fail)
    all_goals (go_wp2; go_meet; exact ⟨ag, rfl, HAG.out, HB4.out⟩)
  case rest =>
    obtain ⟨ag, rfl, HAG, HB4⟩ := hcut
    clear HF d0 d1 d2 d3 d4 d5 d6
    have HBX4 := Lib.hid (HBX.out.keep HB4.out)
    have HRW4 := Lib.hid (HRW3.out.keep HB4.out)
    have HB44 := Lib.hid (bel_onG HB3.out HB3.out.size HB4.out)
    clear HBX HRW3 HB3 HB4
    obtain ⟨w4, hw4⟩ : ∃ w4, w4 = wc := ⟨_, rfl⟩
    subst hw4
    obtain ⟨mn, hmn⟩ : ∃ mn, mn = min fl nt := ⟨_, rfl⟩
    have HMN := Lib.hid hmn
    have hmin : min (fl : Int) (nt : Int) = (mn : Int) := by rw [hmn]; omega
    have i1 : (1 : Int) ≤ (nt : Int) + 1 := by omega
    have i2 : (0 : Int) ≤ (mn : Int) := by omega
    have i3 : (mn : Int) ≤ (fl : Int) := by omega
    have hmf : mn ≤ fl := by omega
    clear hmn
    go_upto_region 4 with fail
    go_cut [4] from 22 to 23 (fun v4 wx => ∃ pw ct2, v4 = .slice pw nt ct2 ∧ Hid (0 < nt → pw = some ⟨gw, 1, none⟩) ∧ nt ≤ ct2 ∧ w4 = wx)
    case first =>
      by_cases h0 : ct = 0
      · have hn0 : nt = 0 := by omega
        clear HMN hmin i3 hmf
        subst h0 hn0
        go_wp2
        go_meet
        exact ⟨_, _, rfl, (fun h => absurd h (by omega)), by omega, rfl⟩
      · have h1 : ¬ 0 = ct := fun e => h0 e.symm
        go_wp2
        go_meet
        exact ⟨_, _, rfl, (fun _ => rfl), by omega, rfl⟩
    case rest =>
      obtain ⟨pw, ct2, rfl, HPW, hct2, rfl⟩ := hcut
      go_upto_region 5 with fail
      go_cut [30, 31, 32] from 24 to 32 (fun v30 v31 v32 wx => ∃ ag2 cf, v30 = .slice ag2 mn cf ∧ v31 = .int .i64 (mn : Int) ∧ v32 = .int .i64 0 ∧ mn ≤ cf ∧ Hid (0 < mn → ∃ g, ag2 = some ⟨g, 0, none⟩ ∧ RowF wx g f) ∧ w4 = wx)
      case first =>
        rcases HAG.out with ⟨rfl, hfl0⟩ | ⟨g, rfl, hrf⟩
        · have hmn0 : mn = 0 := by omega
          clear HMN HFN
          subst hfl0
          subst hmn0
          go_wp2
          go_meet
          exact ⟨_, _, rfl, rfl, rfl, by omega, (fun h => absurd h (by omega)), rfl⟩
        · have HRF := Lib.hid hrf
          clear hrf
          go_wp2
          go_meet
          exact ⟨_, _, rfl, rfl, rfl, by omega, (fun _ => ⟨g, rfl, HRF.out⟩), rfl⟩
      case rest =>
        obtain ⟨ag2, cf, rfl, rfl, rfl, hcf, HRF, rfl⟩ := hcut
        have HRT : Hid (0 < nt → RowS w4 (some ⟨gw, 1, none⟩) ws) := fun _ => by
          have h := HRW4.out.tail
          exact h
        have hfn := HFN.out
        have hm1 : mn ≤ nt := by have := HMN.out; omega
        have hkn13 : nt ≤ 13 := by omega
        have HBW : Hid (∀ W, Stp [b5] w4 W → Below w0.heap.size w0 W) := fun W hs => HB44.out.trans (hs.below (fun kk hk => by rw [List.mem_singleton] at hk; rw [hk]; exact HL5.out) HB44.out.size)
        have HB5T : Hid (∃ cs, Blk w4 b5 24 cs) := ⟨_, HBX4.out.blk⟩
        clear HAG i1 i3 hfn
        go_wp2
        go_loopg [7, 8, 32] mn (fun gk _ _ ix wr => ∃ (j : Nat) (c : Cm) (aa : Option Addr) (cc : Nat), j ≤ mn ∧ ix = .int .i64 j ∧ mn - j ≤ gk ∧ Hid (readL (f.drop j) (ws.drop j) c = FC) ∧ Hid (c.kind = kd) ∧ Hid (c.sh.length ≤ 1000) ∧ Hid (BoxP wr b5 c aa cc) ∧ Hid (∀ p, aa = some p → w0.heap.size ≤ p.block) ∧ Hid (Stp [b5] w4 wr))
        case atStart => exact ⟨0, _, none, 0, Nat.zero_le _, rfl, by omega, HF0.out.symm, rfl, by show ([] : List Sh).length ≤ 1000; simp, HBX4.out, (fun p hp => by cases hp), Stp.refl _ _⟩
        case round =>
          obtain ⟨j, c, aa, cc, hj, rfl, hgk, HRL, HCK, HCS, HBP, HUA, HS⟩ := hrel
          by_cases hlt : j < mn
          · obtain ⟨x, hx⟩ : ∃ x, f[j]? = some x := ⟨_, List.getElem?_eq_getElem (by have := HFN.out; omega)⟩
            have hx8 : x ≤ 8 := HF8.out x (List.mem_of_getElem? hx)
            obtain ⟨g, hg, hrf⟩ := HRF.out (by omega)
            subst hg
            have hpw := HPW.out (by omega)
            subst hpw
            have hgb : g ≠ b5 := by
              obtain ⟨cs, h1, _⟩ := hrf
              obtain ⟨cs2, h2⟩ := HB5T.out
              exact Blk.ne h1 h2 (by decide)
            have c0 : wr.cell? ⟨g, j, none⟩ = some (.int .i64 (x : Int)) := (hrf.stpF HS.out hgb).get hx
            have hrt : RowS wr (some ⟨gw, 1 + j, none⟩) (ws.drop j) := ((HRT.out (by omega)).stp HS.out (by simpa using HG5.out)).dropN j
            have hdl : (ws.drop j).length = nt - j := by rw [List.length_drop, ← HNT.out]
            have hdw : ∀ y ∈ ws.drop j, y.length ≤ 100000 := fun y hy => HWE.out y (List.mem_cons_of_mem _ (List.mem_of_mem_drop hy))
            have HVr := Lib.hid (HV.out.keep (HBW.out wr HS.out))
            obtain ⟨C2, hC2⟩ : ∃ C2, C2 = readF c x (ws.drop j) := ⟨_, rfl⟩
            have HRD : Hid (∀ W cw, Below wr.heap.size wr W → Calls Tryz.prog 39 #[.agg #[.string (st c.kind), .string (st c.id), .string (st c.about), .string (st c.cur), .string (st c.cat), .int .i64 c.amt, .slice aa c.sh.length cc], .int .i64 (x : Int), .slice (some ⟨gw, 1 + j, none⟩) (nt - j) cw] W (RdPost C2 aa W)) := fun W cw hW => by
              have h := read_any18 c x aa cc (ws.drop j) (some ⟨gw, 1 + j, none⟩) cw W hx8 (by omega) (hrt.keep hW) (by omega) hdw (HVr.out.keep hW) (HBP.out.row.keep hW) HBP.out.room
              rw [hdl, ← hC2] at h
              exact h
            have HRL2 : Hid (readL (f.drop (j + 1)) (ws.drop (j + 1)) C2 = FC) := by show _ = _; rw [hC2, ← readL_step c hx (by rw [← HNT.out]; omega)]; exact HRL.out
            have HCK2 : Hid (C2.kind = kd) := by show _ = _; rw [hC2, readF_kind]; exact HCK.out
            have HCS2 : Hid (C2.sh.length ≤ 1000) := by rw [hC2]; exact readF_sh c x _ (by omega) HCS.out
            have hkz : (0 : Int) ≤ (j : Int) := by omega
            have hkn : (j : Int) < (mn : Int) := by omega
            have hjt : (j : Int) ≤ (nt : Int) := by omega
            have HTT : Hid (Stp [b5] w4 wr) := HS.out
            clear hx hx8 hrf hgb hrt hdl hdw hC2 HRL HCK HCS HRF HPW
            obtain ⟨d0, d1, d2, d3, d4, d5, d6⟩ := cell_seven HBP.out.blk
            have hcj : ¬ ct2 = j := by omega
            have HD := HBP
            have hbl := HBP.out.blk.lt
            go_upto_region 8 with fail
            go_region_with (first | (go_at_call 39; (with_reducible refine (HRD.out _ _ (by exact (Below.refl _ wr).drew)).mono ?_); rintro e w6 ⟨a6, cp6, rfl, hrow6, hc6, hb6, hor6⟩; have HB7 : Hid (Below wr.heap.size wr w6) := ⟨hb6.os, hb6.tape, hb6.output, hb6.size, hb6.block⟩; have HK6 := Lib.hid (HD.out.blk.since HB7.out); have HOFF := Lib.hid (off_next hor6 HD.out.off hbl); have HUP : Hid (∀ p, a6 = some p → w0.heap.size ≤ p.block) := up_next hor6 HUA.out (HBW.out wr HTT.out).size; have HROW6 := Lib.hid hrow6; have HC6 := Lib.hid hc6; have f0 := HK6.out.frozen 0; have f1 := HK6.out.frozen 1; have f2 := HK6.out.frozen 2; have f3 := HK6.out.frozen 3; have f4 := HK6.out.frozen 4; have f5 := HK6.out.frozen 5; have f6 := HK6.out.frozen 6; obtain ⟨e0, e1, e2, e3, e4, e5, e6⟩ := cell_seven HK6.out; clear hb6 hor6 hrow6 hc6) | fail)
            all_goals
              have HPUT := Lib.hid (Blk.put7 HK6.out (.string (st C2.kind)) (.string (st C2.id)) (.string (st C2.about)) (.string (st C2.cur)) (.string (st C2.cat)) (.int .i64 C2.amt) (.slice a6 C2.sh.length cp6))
              have HSTP := Lib.hid (put7_stp w6 b5 (.string (st C2.kind)) (.string (st C2.id)) (.string (st C2.about)) (.string (st C2.cur)) (.string (st C2.cat)) (.int .i64 C2.amt) (.slice a6 C2.sh.length cp6))
              have HS6 : Hid (Stp [b5] w4 w6) := HTT.out.trans (Stp.of_below (fp := []) HB7.out) (fun _ hk => by cases hk)
              clear e0 e1 e2 e3 e4 e5 e6 f0 f1 f2 f3 f4 f5 f6 d0 d1 d2 d3 d4 d5 d6
              go_wp2
              go_roundg (mn - (j + 1))
              case measure => omega
              case rel => exact ⟨j + 1, C2, a6, cp6, by omega, by go_num, by omega, HRL2.out, HCK2.out, HCS2.out, ⟨HPUT.out, HROW6.out.stp0 HSTP.out (fun _ p hp => by simpa using HOFF.out p hp), HOFF.out, HC6.out⟩, HUP.out, HS6.out.trans HSTP.out (fun _ hk => .inl hk)⟩
          · have hkn : ¬ ((j : Int) < (mn : Int)) := by omega
            have HCF : Hid (c = FC) := by
              show _ = _
              rw [← HRL.out, readL_end c]
              have h1 := HFN.out
              have h2 := HNT.out
              have h3 := HMN.out
              omega
            have HBr := Lib.hid (HBW.out wr HS.out)
            have HPR : Hid (Calls Tryz.prog 10 #[.agg #[.string (st c.kind), .string (st c.id), .string (st c.about), .string (st c.cur), .string (st c.cat), .int .i64 c.amt, .slice aa c.sh.length cc]] wr fun e w' => e = .returned (.tuple #[.string (st (prT c)), .int .i64 (rightC c)]) ∧ Below wr.heap.size wr w') :=
              print_any18 c aa cc wr (by rw [HCK.out]; have := HKD.out; unfold maxLen; omega) ((HV.out.keep HBr.out).tab) HBP.out.row HBP.out.room (by have := HCS.out; omega)
            obtain ⟨R, hR⟩ : ∃ R, R = rightC c := ⟨_, rfl⟩
            have HRE := Lib.hid hR
            rw [← hR] at HPR
            have HRSr : Hid (Blk wr rs 24 #[.string ⟨#[]⟩, .string ⟨#[]⟩, .string ⟨#[]⟩, .string ⟨#[]⟩, .string ⟨#[]⟩, .int .i64 0, .slice none 0 0]) := HRS.out.below HBr.out hrs0
            have HRW : Hid (w.heap.size ≤ rs) := Nat.le_of_eq HE.out.symm
            have HBw : Hid (Below w.heap.size w wr) := (show Below w.heap.size w w0 by rw [← HE.out]; exact HB0.out).trans (bel_lessG HBr.out (by have := HE.out; omega))
            obtain ⟨d0, d1, d2, d3, d4, d5, d6⟩ := cell_seven HBP.out.blk
            clear hR HRL HCK HBr
            by_cases hg : R = 0 ∧ prT c = l
            · obtain ⟨h1, h2⟩ := hg
              have HV1 : Hid (rightC c = 0) := by show _ = _; rw [← HRE.out]; exact h1
              have HV2 : Hid (textC c = l) := by show _ = _; rw [← h2]; unfold prT; rw [if_pos HV1.out]
              rw [h1, h2] at HPR
              clear h1 h2 HRE
              go_wp2_with fail
              refine HPR.out.mono ?_
              rintro e w7 ⟨rfl, hb⟩
              have HBP7 := Lib.hid (HBP.out.keep hb)
              have HRS7 := Lib.hid (HRSr.out.since hb)
              have HB7 := Lib.hid (bel_onG HBw.out HBw.out.size hb)
              clear hb d0 d1 d2 d3 d4 d5 d6 HPR HBP HRSr
              obtain ⟨d0, d1, d2, d3, d4, d5, d6⟩ := cell_seven HBP7.out.blk
              obtain ⟨r0, r1, r2, r3, r4, r5, r6⟩ := cell_seven HRS7.out
              have f0 := HRS7.out.frozen 0
              have f1 := HRS7.out.frozen 1
              have f2 := HRS7.out.frozen 2
              have f3 := HRS7.out.frozen 3
              have f4 := HRS7.out.frozen 4
              have f5 := HRS7.out.frozen 5
              have f6 := HRS7.out.frozen 6
              go_wp2
              have hs := put7_stp w7 rs (.string (st c.kind)) (.string (st c.id)) (.string (st c.about)) (.string (st c.cur)) (.string (st c.cat)) (.int .i64 c.amt) (.slice aa c.sh.length cc)
              exact bodyPost_ret (cmd_ret2 rfl rs rfl (HRS7.out.put7 _ _ _ _ _ _ _) rfl) rfl ⟨c, aa, cc, 0, rfl, HBP7.out.row.stp0 hs (fun _ p hp => by have h1 := HUA.out p hp; simp; omega), HBP7.out.room, HB7.out.trans (hs.below (fun kk hk => by rw [List.mem_singleton] at hk; rw [hk]; exact HRW.out) HB7.out.size), .inl ⟨rfl, HCF.out, HV1.out, HV2.out⟩⟩
            · have HV1 : Hid (¬ (rightC c = 0 ∧ textC c = l)) := fun h => hg ⟨by rw [HRE.out]; exact h.1, by unfold prT; rw [if_pos h.1]; exact h.2⟩
              obtain ⟨X, hX⟩ : ∃ X, X = prT c := ⟨_, rfl⟩
              rw [← hX] at HPR hg
              have HRX : Hid ((R != 0) = true ∨ ((R != 0) = false ∧ ((st X).toList == (st l).toList) = false)) := by
                by_cases h1 : R = 0
                · exact .inr ⟨by rw [h1]; rfl, st_neb (fun h => hg ⟨h1, h⟩)⟩
                · exact .inl (by rw [bne_iff_ne]; exact h1)
              clear hX hg HRE
              go_wp2_with fail
              refine HPR.out.mono ?_
              rintro e w7 ⟨rfl, hb⟩
              have HRS7 := Lib.hid (HRSr.out.since hb)
              have HB7 := Lib.hid (bel_onG HBw.out HBw.out.size hb)
              clear hb d0 d1 d2 d3 d4 d5 d6 HPR HBP HRSr
              obtain ⟨r0, r1, r2, r3, r4, r5, r6⟩ := cell_seven HRS7.out
              have f0 := HRS7.out.frozen 0
              have f1 := HRS7.out.frozen 1
              have f2 := HRS7.out.frozen 2
              have f3 := HRS7.out.frozen 3
              have f4 := HRS7.out.frozen 4
              have f5 := HRS7.out.frozen 5
              have f6 := HRS7.out.frozen 6
              have HFIN : Hid (Blk (((((((w7.setCell ⟨rs, 0, none⟩ (.string ⟨#[]⟩)).setCell ⟨rs, 1, none⟩ (.string ⟨#[]⟩)).setCell ⟨rs, 2, none⟩ (.string ⟨#[]⟩)).setCell ⟨rs, 3, none⟩ (.string ⟨#[]⟩)).setCell ⟨rs, 4, none⟩ (.string ⟨#[]⟩)).setCell ⟨rs, 5, none⟩ (.int .i64 0)).setCell ⟨rs, 6, none⟩ (.slice none 0 0)) rs 24 #[.string ⟨#[]⟩, .string ⟨#[]⟩, .string ⟨#[]⟩, .string ⟨#[]⟩, .string ⟨#[]⟩, .int .i64 0, .slice none 0 0]) := HRS7.out.put7 _ _ _ _ _ _ _
              have hs := put7_stp w7 rs (.string ⟨#[]⟩) (.string ⟨#[]⟩) (.string ⟨#[]⟩) (.string ⟨#[]⟩) (.string ⟨#[]⟩) (.int .i64 0) (.slice none 0 0)
              have HBF := Lib.hid (HB7.out.trans (hs.below (fun kk hk => by rw [List.mem_singleton] at hk; rw [hk]; exact HRW.out) HB7.out.size))
              clear hs
              rcases HRX.out with h1 | ⟨h1, h2⟩
              · go_wp2
                exact bodyPost_ret (cmd_ret2 rfl rs rfl HFIN.out rfl) rfl ⟨cZero, none, 0, 3, rfl, RowG.nil _ _, Nat.le_refl _, HBF.out, .inr ⟨rfl, rfl, by rw [← HCF.out]; exact HV1.out⟩⟩
              · go_wp2
                exact bodyPost_ret (cmd_ret2 rfl rs rfl HFIN.out rfl) rfl ⟨cZero, none, 0, 3, rfl, RowG.nil _ _, Nat.le_refl _, HBF.out, .inr ⟨rfl, rfl, by rw [← HCF.out]; exact HV1.out⟩⟩
end Go.Proofs.YtkflakeocdlinaaGreatDoor
