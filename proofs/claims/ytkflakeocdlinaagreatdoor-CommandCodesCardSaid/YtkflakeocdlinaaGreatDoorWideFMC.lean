/-
  Contract of soukref01's Div.
-/
import Derived.Test.YtkflakeocdlinaaGreatDoorMC14
namespace Go.Proofs.YtkflakeocdlinaaGreatDoor
open Go.RowKit

/-- quotient and rest so far: of the bits from k on -/
structure DivAt (w wr : World) (xs ys : List Bool) (vq vr : Value) (k : Nat) (qs rs : List Bool) : Prop where
  wq : WB wr vq qs
  wr_ : WB wr vr rs
  below : Below w.heap.size w wr
  lenq : qs.length = xs.length - k
  lenr : rs.length ≤ ys.length
  q : val qs = val (xs.drop k) / val ys
  r : val rs = val (xs.drop k) % val ys
  first : k = xs.length → vr = .slice none 0 0
  later : k < xs.length → ∃ ad n c, vr = .slice (some ad) n c
  fresh : ∀ ad n c, vr = .slice (some ad) n c → w.heap.size ≤ ad.block

/-- what Div answers -/
def DivPost (w : World) (xs ys : List Bool) (e : Ending) (w' : World) : Prop :=
  ∃ vq vr qs rs, e = .returned (.tuple #[vq, vr]) ∧ WB w' vq qs ∧ WB w' vr rs ∧ val qs = val xs / val ys ∧ val rs = val xs % val ys ∧ Canon qs ∧ qs.length ≤ xs.length ∧ rs.length ≤ ys.length ∧
    (xs.length = 0 → vr = .slice none 0 0) ∧ (0 < xs.length → ∃ ad n c, vr = .slice (some ad) n c) ∧ Below w.heap.size w w' ∧ ∀ ad n c, vr = .slice (some ad) n c → w.heap.size ≤ ad.block

theorem div_bit (N x B : Nat) (hB : 0 < B) (hx : x ≤ 1) :
    (x + 2 * (N % B) < B → (x + 2 * N) / B = 0 + 2 * (N / B) ∧ (x + 2 * N) % B = x + 2 * (N % B)) ∧
    (¬ x + 2 * (N % B) < B → (x + 2 * N) / B = 1 + 2 * (N / B) ∧ (x + 2 * N) % B = x + 2 * (N % B) - B) := by
  have h := Nat.div_add_mod N B
  have hr := Nat.mod_lt N hB
  obtain ⟨q, hq⟩ : ∃ q, q = N / B := ⟨_, rfl⟩
  obtain ⟨r, hr'⟩ : ∃ r, r = N % B := ⟨_, rfl⟩
  rw [← hq, ← hr'] at h ⊢
  rw [← hr'] at hr
  have e : x + 2 * N = (x + 2 * r) + B * (2 * q) := by rw [← h, Nat.mul_add, Nat.mul_left_comm]; omega
  rw [e]
  constructor
  · intro hl
    rw [Nat.add_mul_div_left _ _ hB, Nat.add_mul_mod_self_left, Nat.div_eq_of_lt hl, Nat.mod_eq_of_lt hl]
    exact ⟨rfl, rfl⟩
  · intro hl
    have e2 : x + 2 * r + B * (2 * q) = (x + 2 * r - B) + B * (1 + 2 * q) := by rw [Nat.mul_add, Nat.mul_one]; omega
    rw [e2, Nat.add_mul_div_left _ _ hB, Nat.add_mul_mod_self_left, Nat.div_eq_of_lt (by omega), Nat.mod_eq_of_lt (by omega)]
    exact ⟨by omega, rfl⟩

/-- trim, the world as it was -/
def TPost (w : World) (bs : List Bool) (ad : Option Addr) (e : Ending) (w' : World) : Prop :=
  ∃ c bs', e = .returned (.slice ad (List.length bs') c) ∧ WB w (.slice ad (List.length bs') c) bs' ∧ val bs' = val bs ∧ Canon bs' ∧ bs'.length ≤ bs.length ∧ w = w'

theorem trim_same {w : World} {A : Option Addr} {c : Nat} {bs : List Bool} (h : WB w (.slice A bs.length c) bs) (hn : bs.length ≤ 1000000) : Calls Tryz.prog 83 #[.slice A bs.length c] w (TPost w bs A) := by
  obtain ⟨A', c', e, h1, h2, h3, hcells⟩ := h
  injection e with e1 _ e3
  subst e1 e3
  refine (trim_any A c bs w h1 h2 h3 hcells hn).mono ?_
  rintro e w' ⟨k, hk, rfl, hv, hc, rfl⟩
  have hl : (bs.take k).length = k := by rw [List.length_take]; omega
  exact ⟨c, bs.take k, by rw [hl], ⟨A, c, rfl, by rw [hl]; omega, h2, fun ha => by have := h3 ha; rw [hl]; omega, hcells.take k⟩, hv, hc, by rw [hl]; exact hk, rfl⟩

theorem WB.form {w : World} {v : Value} {bs : List Bool} (h : WB w v bs) : ∃ A c, v = .slice A bs.length c := by
  obtain ⟨A, c, e, _⟩ := h
  exact ⟨A, c, e⟩

theorem WB.some_ {w : World} {v : Value} {bs : List Bool} (h : WB w v bs) (hp : 0 < bs.length) : ∃ ad c, v = .slice (some ad) bs.length c := by
  obtain ⟨A, c, e, _, _, h3, _⟩ := h
  cases A with
  | none => have := (h3 rfl).1; omega
  | some ad => exact ⟨ad, c, e⟩

theorem rest_len {rs ys : List Bool} (hc : Canon rs) (h : val rs < val ys) : rs.length ≤ ys.length := canon_len hc (Nat.lt_trans h (val_lt ys))

set_option maxHeartbeats 3200000 in
theorem rdiv_any (v v' : Value) (xs ys : List Bool) (w : World) (h : WB w v xs) (h' : WB w v' ys) (hn : xs.length ≤ 1000) (hn' : ys.length ≤ 1000) (hpos : 0 < val ys) :
    Calls Tryz.prog 77 #[v, v'] w (DivPost w xs ys) := by
  have HY := Lib.hid h'
  have HPOS := Lib.hid hpos
  clear h' hpos
  obtain ⟨A, ca, rfl, hq1, hq2, hq3, hq4⟩ := h
  by_cases h0 : xs = []
  · subst h0
    have HTR := Lib.hid (trim_wb (nn := False) (WB.nil w) (Below.refl _ w) (by simp) (fun h => h.elim))
    simp only [List.length_nil]
    clear hq1 hq2 hq3 hq4
    have t1 : decide ((0 : Int) ≤ ((0 : Nat) : Int) - 1) = false := by decide
    go_enter Tryz.func77, Tryz.ntmps77
    go_wp2
    refine wp_loop_rounds 1 ?_
    rw [rounds_succ]
    go_wp2_with fail
    refine HTR.out.mono ?_
    rintro e w' ⟨A2, c2, bs2, rfl, h1, h2, h3, h4, h5, h6⟩
    have H1 := Lib.hid h1
    have H2 := Lib.hid h2
    have H3 := Lib.hid h3
    have H4 := Lib.hid h4
    have H6 := Lib.hid h6
    clear h1 h2 h3 h4 h5 h6 HTR
    go_wp2
    go_ret2
    exact ⟨_, _, bs2, [], rfl, H1.out, WB.nil w', by rw [H2.out]; simp [val], by simp [val], H3.out, H4.out, by simp, fun _ => rfl, fun h => by simp at h, H6.out, fun ad n c h => by injection h with h; cases h⟩
  have hp : 0 < xs.length := List.length_pos_iff.mpr h0
  obtain ⟨b, off, rfl, hc⟩ := hq4.bool hp
  have HC := Lib.hid hc
  obtain ⟨m, hn2⟩ : ∃ n, n = xs.length := ⟨_, rfl⟩
  have HM := Lib.hid hn2
  rw [show Value.slice (some ⟨b, off, none⟩) xs.length ca = Value.slice (some ⟨b, off, none⟩) m ca by rw [hn2]]
  rw [← hn2] at hn hp
  clear hn2 hq1 hq2 hq3 hq4 hc h0
  go_enter Tryz.func77, Tryz.ntmps77
  go_wp2
  go_loopg [6, 7, 8, 9] m (fun gk vq vr i _ wr => ∃ (k : Nat) (qs rs : List Bool), i = .int .i64 ((k : Int) - 1) ∧ k ≤ m ∧ k ≤ gk ∧ Hid (DivAt w wr xs ys vq vr k qs rs))
  case atStart =>
    refine ⟨m, [], [], rfl, Nat.le_refl _, Nat.le_refl _, ⟨WB.nil w, WB.nil w, Below.refl _ _, by rw [HM.out]; simp, by simp, ?_, ?_, fun _ => rfl, fun h => by have := HM.out; omega, fun ad n c h => by injection h with h; cases h⟩⟩
    · rw [HM.out, List.drop_length]; simp [val]
    · rw [HM.out, List.drop_length]; simp [val]
  case round =>
    obtain ⟨k, qs, rs, rfl, hk, hgk, HD⟩ := hrel
    by_cases hk0 : k = 0
    · subst hk0
      have t1 : decide ((0 : Int) ≤ ((0 : Nat) : Int) - 1) = false := by decide
      have hlb : qs.length ≤ 1000000 := by have := HD.out.lenq; have := HM.out; omega
      obtain ⟨Aq, cq, hvq⟩ := HD.out.wq.form
      subst hvq
      have HTR := Lib.hid (trim_same HD.out.wq hlb)
      go_wp2_with fail
      refine HTR.out.mono ?_
      rintro e w' ⟨c2, bs2, rfl, h1, h2, h3, h4, rfl⟩
      have H1 := Lib.hid h1
      have H2 := Lib.hid h2
      have H3 := Lib.hid h3
      have H4 := Lib.hid h4
      clear h1 h2 h3 h4 HTR
      go_wp2
      go_ret2
      refine ⟨_, _, bs2, rs, rfl, H1.out, HD.out.wr_, by rw [H2.out, HD.out.q, List.drop_zero], by rw [HD.out.r, List.drop_zero], H3.out, ?_, HD.out.lenr, fun h => by have := HM.out; omega, fun h => HD.out.later h, HD.out.below, HD.out.fresh⟩
      have h4 := H4.out
      have h5 := HD.out.lenq
      omega
    · obtain ⟨p, rfl⟩ : ∃ p, k = p + 1 := ⟨k - 1, by omega⟩
      have e1 : ((p + 1 : Nat) : Int) - 1 = (p : Int) := by omega
      rw [e1]
      clear e1 hk0
      have t1 : decide ((0 : Int) ≤ (p : Int)) = true := decide_eq_true (by omega)
      have hcell : w.cell? ⟨b, off + p, none⟩ = some (.bool (xs.getD p false)) := HC.out p (by have := HM.out; omega)
      have HDR : Hid (val (xs.drop p) = (xs.getD p false).toNat + 2 * val (xs.drop (p + 1))) := val_drop_step xs p (by have := HM.out; omega)
      obtain ⟨x, hx⟩ : ∃ x, x = xs.getD p false := ⟨_, rfl⟩
      rw [← hx] at hcell HDR
      clear hx
      have hcl : wr.cell? ⟨b, off + p, none⟩ = some (.bool x) := by
        rw [HD.out.below.cell (p := ⟨b, off + p, none⟩) (World.block_lt_of_cell? w _ hcell)]; exact hcell
      obtain ⟨Ar, cr, hvr, hra, hrc⟩ := HD.out.wr_.parts
      have hvr' := hvr
      subst hvr'
      obtain ⟨Aq, cq, hvq, hqa, hqc⟩ := HD.out.wq.parts
      have hvq' := hvq
      subst hvq'
      have hlr : rs.length ≤ 1000 := by have := HD.out.lenr; omega
      have hlq : qs.length ≤ 1000 := by have := HD.out.lenq; have := HM.out; omega
      have HRA := Lib.hid hra
      have HRC := Lib.hid hrc
      have HQA := Lib.hid hqa
      have HDB := Lib.hid (div_bit (val (xs.drop (p + 1))) x.toNat (val ys) HPOS.out (Bool.toNat_le x))
      rw [← HD.out.r, ← HD.out.q, ← HDR.out] at HDB
      clear hra hrc hqa hqc hvr hvq hcell
      go_wp2_with (at_builtin; refine wpList_append_behind rfl (.tmp 21) (.tmp 22) 123 rfl wr.heap.size 4 (.bool false) 1 Tryz.underlying123 infoBool rfl _ (.bool x) Ar cr rs.length (rs.map Value.bool) (by simp) rfl rfl HRA.out HRC.out (bools_one rs) (Nat.le_refl _) (by unfold maxLen; omega) (by omega) ?_; intro v1 w1 hown1 hbel1; have HO := Lib.hid hown1; have HB := Lib.hid hbel1; clear hown1 hbel1)
      have hw1 : WB w1 v1 (x :: rs) := WB.cons HO.out
      obtain ⟨ad, c1, hv1⟩ := hw1.some_ (by simp)
      subst hv1
      have HAD : Hid (w.heap.size ≤ ad.block) := Nat.le_trans HD.out.below.size (own_block HO.out)
      have HT1 := Lib.hid (trim_same hw1 (by rw [List.length_cons]; omega))
      clear hw1
      refine HT1.out.mono ?_
      rintro e w' ⟨c2, bs1, rfl, g1, g2, g3, g4, rfl⟩
      have HB1 : Hid (Below w.heap.size w w1) := HD.out.below.trans (HB.out.mono HD.out.below.size)
      have HQC : Hid (Cells w1 Aq (qs.map Value.bool)) := by obtain ⟨A5, c5, e5, _, h5⟩ := HD.out.wq.parts; injection e5 with e5; subst e5; exact h5.keep HB.out
      have HY1 := Lib.hid (HY.out.keep HB1.out)
      have HLS := Lib.hid (less_any (.slice (some ad) bs1.length c2) v' bs1 ys w1 g1 HY1.out (by rw [List.length_cons] at g4; omega) (by omega))
      have G1 := Lib.hid g1
      have G3 := Lib.hid g3
      have G4 := Lib.hid g4
      have G2 : Hid (val bs1 = x.toNat + 2 * val rs) := g2
      clear g1 g2 g3 g4 HT1
      by_cases hlt : val bs1 < val ys
      · have hdb := HDB.out.1 (by rw [← G2.out]; exact hlt)
        have HE := Lib.hid hdb
        clear hdb
        have t2 : decide (val bs1 < val ys) = true := decide_eq_true hlt
        rw [t2] at HLS
        clear t2
        go_wp2_with fail
        refine HLS.out.mono ?_
        rintro e w' ⟨rfl, rfl⟩
        clear HLS
        go_wp2_with (at_builtin; refine wpList_append_behind rfl (.tmp 30) (.tmp 31) 123 rfl w1.heap.size 4 (.bool false) 1 Tryz.underlying123 infoBool rfl _ (.bool false) Aq cq qs.length (qs.map Value.bool) (by simp) rfl rfl HQA.out HQC.out (bools_one qs) (Nat.le_refl _) (by unfold maxLen; omega) (by omega) ?_; intro v3 w3 hown3 hbel3; have HO3 := Lib.hid hown3; have HB3 := Lib.hid hbel3; clear hown3 hbel3)
        have HDA : Hid (DivAt w w3 xs ys v3 (.slice (some ad) bs1.length c2) p (false :: qs) bs1) :=
          ⟨WB.cons HO3.out, G1.out.keep HB3.out, HB1.out.trans (HB3.out.mono HB1.out.size), by have := HD.out.lenq; have := HM.out; rw [List.length_cons]; omega, rest_len G3.out hlt,
            by rw [HE.out.1]; rfl, by rw [HE.out.2, G2.out], fun h => by have := HM.out; omega, fun _ => ⟨_, _, _, rfl⟩, fun ad' n c h => by injection h with h; injection h with h; rw [← h]; exact HAD.out⟩
        go_wp2
        go_roundg p
        case measure => omega
        case rel => exact ⟨p, false :: qs, bs1, by go_num, by omega, Nat.le_refl _, HDA⟩
      · have hdb := HDB.out.2 (by rw [← G2.out]; exact hlt)
        have HE := Lib.hid hdb
        clear hdb
        have t2 : decide (val bs1 < val ys) = false := decide_eq_false hlt
        rw [t2] at HLS
        clear t2
        go_wp2_with fail
        refine HLS.out.mono ?_
        rintro e w' ⟨rfl, rfl⟩
        clear HLS
        go_wp2_with (at_builtin; refine wpList_append_behind rfl (.tmp 30) (.tmp 31) 123 rfl w1.heap.size 4 (.bool false) 1 Tryz.underlying123 infoBool rfl _ (.bool true) Aq cq qs.length (qs.map Value.bool) (by simp) rfl rfl HQA.out HQC.out (bools_one qs) (Nat.le_refl _) (by unfold maxLen; omega) (by omega) ?_; intro v3 w3 hown3 hbel3; have HO3 := Lib.hid hown3; have HB3 := Lib.hid hbel3; clear hown3 hbel3)
        have HB13 : Hid (Below w.heap.size w w3) := HB1.out.trans (HB3.out.mono HB1.out.size)
        have HMI := Lib.hid (minus_any (.slice (some ad) bs1.length c2) v' bs1 ys w3 (G1.out.keep HB3.out) (HY.out.keep HB13.out) (by have := G4.out; rw [List.length_cons] at this; omega) (by omega) (by omega))
        have hbp : 0 < bs1.length := by
          rcases Nat.eq_zero_or_pos bs1.length with h0 | h0
          · have h1 := (canon_zero G3.out).1 h0
            have := HPOS.out
            omega
          · exact h0
        have HBP := Lib.hid hbp
        clear hbp
        go_wp2_with fail
        refine HMI.out.mono ?_
        rintro e w4 ⟨A4, c4, bs4, rfl, m1, m2, m3, m4, m5, m6, m7⟩
        have hA4 := m5 HBP.out
        obtain ⟨ad4, rfl⟩ : ∃ ad4, A4 = some ad4 := by
          cases A4 with
          | none => exact absurd rfl hA4
          | some a => exact ⟨a, rfl⟩
        have hrl : val bs4 < val ys := by
          rw [m2, G2.out, ← HE.out.2]; exact Nat.mod_lt _ HPOS.out
        have HDA : Hid (DivAt w w4 xs ys v3 (.slice (some ad4) bs4.length c4) p (true :: qs) bs4) :=
          ⟨(WB.cons HO3.out).keep m6, m1, HB13.out.trans (m6.mono HB13.out.size), by have := HD.out.lenq; have := HM.out; rw [List.length_cons]; omega, rest_len m3 hrl,
            by rw [HE.out.1]; rfl, by rw [HE.out.2, m2, G2.out], fun h => by have := HM.out; omega, fun _ => ⟨_, _, _, rfl⟩, fun ad' n c h => by injection h with h; rw [← (Option.some.inj h)]; exact Nat.le_trans HB13.out.size (m7 _ rfl)⟩
        clear m1 m2 m3 m4 m5 m6 m7 hA4 hrl HMI
        go_wp2
        go_roundg p
        case measure => omega
        case rel => exact ⟨p, true :: qs, bs4, by go_num, by omega, Nat.le_refl _, HDA⟩
end Go.Proofs.YtkflakeocdlinaaGreatDoor
