/-
  Contract of command.written: shares, and any field.
-/
import Derived.Test.YtkflakeocdlinaaGreatDoorCmDMP
namespace Go.Proofs.YtkflakeocdlinaaGreatDoor
open Go.RowKit Go.Deep

theorem run_makeStr (n : Nat) (h : n ≤ 1000000) (w : World) :
    (Instr.makeSlice 56 (.int .i64 (n : Int)) (.int .i64 (n : Int))).run Tryz.prog w = .ok (.slice (some ⟨w.heap.size, 0, none⟩) n n) (w.alloc (.cells (madeCells #[.string ⟨#[]⟩] n) 9)) := by
  obtain ⟨i, hi, hzz⟩ := Option.map_eq_some_iff.1 infoStr
  simp only [Prod.mk.injEq] at hzz
  obtain ⟨hz, hs, hb⟩ := hzz
  have hr := run_make (P := Tryz.prog) w 56 9 i _ Tryz.underlying56 hi hz .i64 .i64 n n (by omega) (Int.le_refl _) (by rw [hb]; omega) (by omega)
  simp only [Int.toNat_natCast, hs, Nat.mul_one] at hr
  exact hr
theorem cell_one {w : World} {b o g i : Nat} {va v : Value} (h : b ≠ g) (hc : w.cell? ⟨b, o, none⟩ = some v) : (w.setCell ⟨g, i, none⟩ va).cell? ⟨b, o, none⟩ = some v := by
  have h1 : (w.setCell ⟨g, i, none⟩ va).heap[b]? = w.heap[b]? := Below.heap_setCell _ _ _ _ h
  have h2 : ∀ w' : World, w'.heap[b]? = w.heap[b]? → w'.cell? ⟨b, o, none⟩ = w.cell? ⟨b, o, none⟩ := fun w' e => by
    simp only [World.cell?, e]
  rw [h2 _ h1]
  exact hc

set_option maxHeartbeats 6400000 in
set_option maxRecDepth 100000 in
theorem wr_8 (k i b u t : List UInt8) (m : Int) (a : Option Addr) (cp : Nat) (xs : List Sh) (w : World) (ht : Tab w) (hr : RowG 2 cSh w a xs) (hl : xs.length ≤ 8) (hb : ∀ s ∈ xs, badS s = false) :
    Calls Tryz.prog 27 #[.agg #[.string (st k), .string (st i), .string (st b), .string (st u), .string (st t), .int .i64 m, .slice a xs.length cp], .int .i64 8] w (WrPost (xs.map fun s => s.1 ++ [58] ++ digL s.2.toNat) w) := by
  have HBX : Hid (Blk (w.alloc (.cells #[.string (st k), .string (st i), .string (st b), .string (st u), .string (st t), .int .i64 m, .slice a xs.length cp] 24)) w.heap.size 24 #[.string (st k), .string (st i), .string (st b), .string (st u), .string (st t), .int .i64 m, .slice a xs.length cp]) := Blk.new w _ _
  have hb0 : Below w.heap.size w (w.alloc (.cells #[.string (st k), .string (st i), .string (st b), .string (st u), .string (st t), .int .i64 m, .slice a xs.length cp] 24)) := (Below.refl _ w).alloc (Nat.le_refl _) _
  have HB0 := Lib.hid hb0
  have HR := Lib.hid (hr.keep hb0)
  have HT := Lib.hid (ht.keep hb0)
  have HBS := Lib.hid hb
  obtain ⟨L, hL⟩ : ∃ L, L = xs.map fun s => s.1 ++ [58] ++ digL s.2.toNat := ⟨_, rfl⟩
  have HL := Lib.hid hL
  obtain ⟨n, hn⟩ : ∃ n, n = xs.length := ⟨_, rfl⟩
  have HN := Lib.hid hn
  have HLN : Hid (L.length = n) := by show _ = _; rw [hL, List.length_map, hn]
  rw [← hL]
  rw [← hn] at HBX HB0 HR HT hl ⊢
  unfold WrPost
  rw [HLN.out]
  clear hL hn hr ht hb hb0
  go_enter Tryz.func27, Tryz.ntmps27
  go_upto_region 15 with fail
  obtain ⟨bx, hbx⟩ : ∃ bx, bx = w.heap.size := ⟨_, rfl⟩
  have HE := Lib.hid hbx
  rw [← hbx] at HBX HB0 ⊢
  generalize w.alloc (.cells #[.string (st k), .string (st i), .string (st b), .string (st u), .string (st t), .int .i64 m, .slice a n cp] 24) = w0 at HBX HB0 HR HT ⊢
  clear hbx
  have hmk := run_makeStr n (by omega)
  have HP := Lib.hid (MadeAt.start (z := 1) (c := cTx) (ty := 9) L n w0 #[.string ⟨#[]⟩] n (by omega))
  have e6 : (w0.alloc (.cells (madeCells #[.string ⟨#[]⟩] n) 9)).cell? ⟨bx, 6, none⟩ = some (.slice a n cp) := (HBX.out.alloc _).cell 6
  obtain ⟨d0, d1, d2, d3, d4, d5, d6⟩ := cell_seven HBX.out
  go_wp2
  clear hmk d0 d1 d2 d3 d4 d5 d6
  obtain ⟨g, hg⟩ : ∃ g, g = w0.heap.size := ⟨_, rfl⟩
  have HGE := Lib.hid hg
  rw [← hg] at HP ⊢
  generalize w0.alloc (.cells (madeCells #[.string ⟨#[]⟩] n) 9) = w6 at HP e6 ⊢
  clear hg e6
  go_loopg [6, 7, 47] n (fun gk _ _ ix wr => ∃ j : Nat, j ≤ n ∧ ix = .int .i64 j ∧ n - j ≤ gk ∧ Hid (MadeAt 1 cTx 9 L n g w0 wr j))
  case atStart => exact ⟨0, Nat.zero_le _, rfl, by omega, HP.out⟩
  case round =>
    clear HP
    obtain ⟨j, hj, rfl, hgk, HP⟩ := hrel
    by_cases hlt : j < n
    · obtain ⟨x, hx⟩ : ∃ x, xs[j]? = some x := ⟨_, List.getElem?_eq_getElem (by rw [← HN.out]; exact hlt)⟩
      have hbad := badS_not (HBS.out x (List.mem_of_getElem? hx))
      obtain ⟨p, q⟩ := x
      simp only at hbad
      obtain ⟨b1, off, rfl⟩ := HR.out.form (by rw [← HN.out]; omega)
      have hat := (HR.out.keep HP.out.below).at hx
      have c0 : wr.cell? ⟨b1, off + j * 2, none⟩ = some (.string (st p)) := by simpa using hat 0 _ rfl
      have c1 : wr.cell? ⟨b1, off + j * 2 + 1, none⟩ = some (.int .i64 q) := hat 1 _ rfl
      have hLj : L[j]? = some (p ++ [58] ++ digL q.toNat) := by rw [HL.out, List.getElem?_map, hx]; rfl
      obtain ⟨F, hF⟩ : ∃ F, F = digL q.toNat := ⟨_, rfl⟩
      have hFl : F.length ≤ 21 := by rw [hF]; exact digL_len (by omega)
      have HCF : Hid (∀ W, Tab W → Calls Tryz.prog 55 #[.int .i64 q] W fun e w' => e = .returned (.string (st F)) ∧ Below W.heap.size W w') := fun W hW => by
        have h := cfigures_any q.toNat W (by omega) hW
        rw [show ((q.toNat : Nat) : Int) = q by omega, ← hF] at h
        exact h
      rw [← hF] at hLj
      have hST : ∀ W, MadeAt 1 cTx 9 L n g w0 W j → MadeAt 1 cTx 9 L n g w0 (W.setCell ⟨g, j, none⟩ (.string (st (p ++ [58] ++ F)))) (j + 1) := fun W hW => MadeAt.step1 hW hlt hLj
      obtain ⟨T0, hT0⟩ : ∃ T, T = st p := ⟨_, rfl⟩
      obtain ⟨T1, hT1⟩ : ∃ T, T = st (p ++ [58]) := ⟨_, rfl⟩
      obtain ⟨T2, hT2⟩ : ∃ T, T = st (p ++ [58] ++ F) := ⟨_, rfl⟩
      obtain ⟨TF, hTF⟩ : ∃ T, T = st F := ⟨_, rfl⟩
      have q1 : T0 ++ ⟨#[58]⟩ = T1 := by rw [hT0, hT1]; exact st_append p [58]
      have q2 : T1 ++ TF = T2 := by rw [hT1, hT2, hTF]; exact st_append _ _
      have z0 : T0.size ≤ 20 := by rw [hT0, st_size]; omega
      have z1 : T1.size ≤ 21 := by rw [hT1, st_size]; simp; omega
      have zF : TF.size ≤ 21 := by rw [hTF, st_size]; exact hFl
      have b1x : ¬ 9223372036854775807 < T0.size + 1 := by omega
      have b2x : ¬ 9223372036854775807 < T1.size + TF.size := by omega
      rw [← hT2] at hST
      rw [← hT0] at c0
      rw [← hTF] at HCF
      have HST := Lib.hid hST
      have hkz : (0 : Int) ≤ (j : Int) := by omega
      have hkn : (j : Int) < (n : Int) := by omega
      have HGY : Hid (wr.heap.size ≠ g) := by have := HP.out.lt; show _ ≠ _; omega
      clear hx hat hLj hF hFl hST hbad hT0 hT1 hT2 hTF z0 z1 zF
      go_upto_region 19 with fail
      have hbx := Blk.new wr 39 #[.string T0, .int .i64 q]
      have hbd : Below wr.heap.size wr (wr.alloc (.cells #[.string T0, .int .i64 q] 39)) := (Below.refl _ wr).alloc (Nat.le_refl _) _
      have HPa := Lib.hid (HP.out.keep hbd)
      obtain ⟨Y, hY⟩ : ∃ Y, Y = wr.heap.size := ⟨_, rfl⟩
      rw [← hY] at hbx HGY ⊢
      generalize wr.alloc (.cells #[.string T0, .int .i64 q] 39) = wc at hbx hbd HPa ⊢
      have k0 : wc.drew.cell? ⟨Y, 0, none⟩ = some (.string T0) := hbx.cell 0
      have k1 : wc.drew.cell? ⟨Y, 1, none⟩ = some (.int .i64 q) := hbx.cell 1
      have HPd : Hid (MadeAt 1 cTx 9 L n g w0 wc.drew j) := HPa.out.keep (Below.refl _ wc).drew
      have HCD : Hid (Calls Tryz.prog 55 #[.int .i64 q] wc.drew fun e w' => e = .returned (.string TF) ∧ Below wc.drew.heap.size wc.drew w') := HCF.out wc.drew (HT.out.keep HPd.out.below)
      clear c0 c1 hbx hbd hY HPa HCF
      go_region_held3 (fun w' => w'.cell? ⟨Y, 0, none⟩ = some (.string T0) ∧ w'.cell? ⟨Y, 1, none⟩ = some (.int .i64 q))
        (first | with_reducible exact ⟨k0, k1⟩ | with_reducible exact ⟨j0, j1⟩ | with_reducible exact ⟨cell_one HGY.out j0, cell_one HGY.out j1⟩ | go_keep)
        (first
          | (go_at_call 55; ((with_reducible refine HCD.out.mono ?_); rintro e w7 ⟨rfl, hb7⟩; have j0 : w7.cell? ⟨Y, 0, none⟩ = some (.string T0) := (hb7.cell (p := ⟨Y, 0, none⟩) (World.block_lt_of_cell? _ _ k0)).trans k0; have j1 : w7.cell? ⟨Y, 1, none⟩ = some (.int .i64 q) := (hb7.cell (p := ⟨Y, 1, none⟩) (World.block_lt_of_cell? _ _ k1)).trans k1; obtain ⟨v0, r0, z0⟩ := (HPd.out.keep hb7).room1 hlt)))
      have HNX := Lib.hid (HST.out w7 (HPd.out.keep hb7))
      clear k0 k1 j0 j1 r0 z0 hb7 HST HPd HCD
      go_wp2
      go_roundg (n - (j + 1))
      case measure => omega
      case rel => exact ⟨j + 1, by omega, by go_num, by omega, HNX.out⟩
    · have hkn : ¬ ((j : Int) < (n : Int)) := by omega
      have e : j = n := by omega
      have HROW : Hid (RowG 1 cTx wr (some ⟨g, 0, none⟩) L) := by subst e; exact HP.out.row HLN.out
      have HBF : Hid (Below bx w wr) := HB0.out.trans (bel_lessG HP.out.below HB0.out.size |> fun h => ⟨h.os, h.tape, h.output, h.size, fun kk hk => h.block kk (by have := HE.out; omega)⟩)
      have HGB : Hid (w.heap.size ≤ g) := by have h1 := HGE.out; have h2 := HB0.out.size; show _ ≤ _; omega
      clear e
      go_wp2
      go_ret
      exact ⟨g, rfl, HROW.out, HGB.out, by rw [← HE.out]; exact HBF.out⟩

/-- ████ THE CONTRACT OF command.written ████ -/
theorem written_any (c : Cm) (x : Nat) (a : Option Addr) (cp : Nat) (w : World) (hx : x ≤ 8) (ht : Tab w) (hr : RowG 2 cSh w a c.sh) (hl : c.sh.length ≤ 8) (hb : ∀ s ∈ c.sh, badS s = false) (hm : 0 ≤ c.amt ∧ c.amt ≤ 1125899906842624) :
    Calls Tryz.prog 27 #[.agg #[.string (st c.kind), .string (st c.id), .string (st c.about), .string (st c.cur), .string (st c.cat), .int .i64 c.amt, .slice a c.sh.length cp], .int .i64 (x : Int)] w (WrPost (wordsF c x) w) := by
  match x, hx with
  | 0, _ => exact wr_0 _ _ _ _ _ _ _ _ _ _
  | 1, _ => exact wr_1 _ _ _ _ _ _ _ _ _ _
  | 2, _ => exact wr_2 _ _ _ _ _ _ _ _ _ _
  | 3, _ => exact wr_3 _ _ _ _ _ _ _ _ _ _
  | 4, _ => exact wr_4 _ _ _ _ _ _ _ _ _ _
  | 5, _ => exact wr_5 _ _ _ _ _ _ _ _ _ _
  | 6, _ => exact wr_6 _ _ _ _ _ _ _ _ _ _ ht hm
  | 7, _ => exact wr_7 _ _ _ _ _ _ _ _ _ _ ht hm
  | 8, _ => exact wr_8 _ _ _ _ _ _ _ _ _ _ ht hr hl hb
end Go.Proofs.YtkflakeocdlinaaGreatDoor
