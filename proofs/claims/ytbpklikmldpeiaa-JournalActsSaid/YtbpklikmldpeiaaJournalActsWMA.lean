/-
  The walk of souklaw06.JournalActs.
-/
import Derived.Test.YtbpklikmldpeiaaJnMMA
import Derived.Test.YtbpklikmldpeiaaJnWMA
import Derived.Test.YtbpklikmldpeiaaOrdGMA
import Derived.IntWalk
namespace Go.Proofs.Ytbpklikmldpeiaa
open Go.RowKit Go.Lib

set_option maxHeartbeats 16000000 in
set_option maxRecDepth 100000 in
theorem acts6_walk (nb : Nat) (a : Option Addr) (c : Nat) (l : List (List UInt8)) (w : World) (hnb : nb ≤ 255) (hr : RowS w a l) (hs : ∀ x ∈ l, x.length ≤ 281474976710656) (hl : l.length ≤ 9223372036854775807) :
    Calls Try.prog 3 #[.int .u8 nb, .slice a l.length c] w fun e w' => e = .returned (.bool true) ∧ Below w.heap.size w w' := by
  obtain ⟨sb, hsb, HSM⟩ := small6_any a c l w hr hs hl
  obtain ⟨n, hn⟩ : ∃ n, n = l.length := ⟨_, rfl⟩
  rw [← hn] at hl HSM ⊢
  have HN := Lib.hid hn
  have HR := Lib.hid hr
  have HF := Lib.hid hsb
  have HS := fun W hb => Lib.hid (HSM W hb)
  have HLV := fun W => Lib.hid (lives6_any W)
  clear hn hr hs hsb HSM
  go_enter Try.func3, Try.ntmps3
  go_wp2_with fail
  with_reducible refine (HLV w).out.mono ?_
  rintro e w2 ⟨rfl, hb⟩
  have HB2 := Lib.hid hb
  clear hb
  go_wp2_with fail
  with_reducible refine (HS w2 HB2.out).out.mono ?_
  rintro e w3 ⟨rfl, rfl⟩
  cases sb with
  | false =>
    go_wp2_with fail
    with_reducible refine (HLV w2).out.mono ?_
    rintro e w3 ⟨rfl, hb⟩
    have HB3 := Lib.hid (HB2.out.trans (hb.mono HB2.out.size))
    clear hb
    go_wp2
    go_ret
    exact ⟨rfl, HB3.out⟩
  | true =>
  have HFW : Hid (Few l) := HF.out rfl
  have H1 := Lib.hid (new_cl nb w2 (by omega))
  clear HLV HS HF
  go_wp2_with fail
  with_reducible refine H1.out.mono ?_
  rintro e w3 ⟨pb, rfl, fp, hp, hb3, hf⟩
  have HA3 : Hid (After [] w w3 (PDr pb (Cl [] nb) w3)) := ⟨fp, hp, (Stp.of_below HB2.out).trans (fp' := []) (Stp.of_below hb3) (fun k hk => by cases hk), fun k hk => .inr (Nat.le_trans HB2.out.size (hf k hk))⟩
  have H2 := Lib.hid (rnew_cl nb w3 (by omega))
  clear hp hb3 hf H1 HB2
  go_wp2_with fail
  with_reducible refine H2.out.mono ?_
  rintro e w4 ⟨rb, rfl, fp, hp, hb4, hf⟩
  have HA4 : Hid (After [] w w4 (Sep (PDr pb (Cl [] nb)) (RDr rb (Cl [] nb)) w4)) := HA3.out.fresh (PDr.stays _ _) hb4 hp hf
  have HU0 : Hid (used [] + nb ≤ 65536) := by show _ ≤ _; simp [used, layd]; omega
  have H3 := Lib.hid (HA4.out.call (f := 10) (args := #[.pointer (some ⟨pb, 0, none⟩)]) (p := Try.prog) fun fp hp => Sep.callL (RDr.stays _ _) hp fun f hf => open_cl_any pb [] nb f w4 hf AllOk.nil HU0.out)
  clear hp hb4 hf H2 HA3
  go_wp2_with fail
  with_reducible refine H3.out.mono ?_
  rintro e w5 ⟨⟨jb, v1⟩, rfl, ha⟩
  try simp only at ha
  obtain ⟨va, vc, hv⟩ := ha.left.right.know fun _ hp => hp.form
  simp only [List.length_nil] at hv
  subst hv
  have HA5 : Hid (After [] w w5 (Sep (JCl jb pb [] nb) (RDr rb (Cl [] nb)) w5)) := ha.go fun fp hp => Sep.goL (RDr.stays _ _) hp fun f hf => (After.start f hf).left
  have H4 := Lib.hid (HA5.out.call (f := 11) (args := #[.pointer (some ⟨rb, 0, none⟩)]) (p := Try.prog) fun fp hp => Sep.callR (JCl.stays _ _ _ _) hp fun f hf => ropen_cl rb [] nb f w5 hf AllOk.nil HU0.out)
  clear ha H3 HA4
  go_wp2_with fail
  with_reducible refine H4.out.mono ?_
  rintro e w6 ⟨⟨kb, v2⟩, rfl, ha⟩
  try simp only at ha
  have HA6 := Lib.hid ha
  have HUZ0 : Hid (used [] + nb = nb) := by show _ = _; simp [used, layd]
  clear ha H4 HA5 HU0
  go_wp2
  go_loopg [13, 61] n (fun gk _ i wr => ∃ (j : Nat) (L : List (List UInt8)) (z : Nat) (v : Value), j ≤ n ∧ i = .int .i64 j ∧ n - j ≤ gk ∧ Hid (AllOk L) ∧ Hid (used L + z = nb) ∧ Hid (After [] w wr (Sep (JCl jb pb L z) (RJr kb rb (Cl L z) v L (used L)) wr)))
  case atStart => exact ⟨0, [], nb, v2, Nat.zero_le _, rfl, by omega, AllOk.nil, HUZ0.out, HA6.out⟩
  case round =>
    clear HA6 HUZ0
    obtain ⟨j, L, z, v, hj, rfl, hgk, HK, HZ, HA⟩ := hrel
    by_cases hlt : j < n
    · obtain ⟨x, hx⟩ : ∃ x, l[j]? = some x := ⟨_, List.getElem?_eq_getElem (by rw [← HN.out]; exact hlt)⟩
      obtain ⟨bb, off, ea, hc⟩ := (HR.out.keep HA.out.bel) (by rw [← HN.out]; omega)
      subst ea
      have cj := hc j x hx
      have hx4 := HFW.out.each x (List.mem_of_getElem? hx)
      have hjz : (0 : Int) ≤ (j : Int) := by omega
      have hjn : (j : Int) < (n : Int) := by omega
      obtain ⟨L2, z2, t, hnx⟩ := next_of HK.out z x
      have HX4 := Lib.hid hx4
      have HNX := Lib.hid hnx
      clear hc hx hnx hx4
      go_wp2_with fail
      refine wp_region_E (fun _ => True) [] (by kernel_rfl) ?_
      have HT : Hid True := trivial
      have HA0 := Lib.hid (HA.out.drew (Stays.sep (JCl.stays _ _ _ _) (RJr.stays _ _ _ _ _ _)))
      clear HA
      generalize wr.drew = w0 at HA0 ⊢
      have H1 := Lib.hid (HA0.out.call1 (f := 12) (args := #[.pointer (some ⟨jb, 0, none⟩), .string (st x)]) (p := Try.prog) fun fp hp => Sep.callL1 (RJr.stays _ _ _ _ _ _) hp fun f hf => append_cl jb pb HNX.out f w0 hf HK.out (by have := HZ.out; omega) (by have := HX4.out; omega))
      refine wpAnyE_take 0 (some 65) ?_ rfl rfl (by kernel_rfl) (by kernel_rfl) (by kernel_rfl) (by kernel_rfl) (fun _ _ _ h => h) (Or.inl ⟨by rfl, ?_⟩) HT.out ?_
      rotate_left
      focus (intro wS hSw; (try dsimp only at hSw); go_simp; try (with_reducible rfl))
      simp only [Act.put, List.setIfInBounds_toArray, List.set_cons_zero, List.set_cons_succ]
      refine wpAnyE_take 1 (some 66) ?_ rfl rfl (by kernel_rfl) (by kernel_rfl) (by kernel_rfl) (by kernel_rfl) (fun _ _ _ h => h) (Or.inl ⟨by rfl, ?_⟩) HT.out ?_
      rotate_left
      focus (intro wS hSw; (try dsimp only at hSw); go_simp; try (with_reducible rfl))
      simp only [Act.put, List.setIfInBounds_toArray, List.set_cons_zero, List.set_cons_succ]
      refine wpAnyE_take 3 (some 68) ?_ rfl rfl (by kernel_rfl) (by kernel_rfl) (by kernel_rfl) (by kernel_rfl) (fun _ _ _ h => h) (Or.inl ⟨by rfl, ?_⟩) HT.out ?_
      rotate_left
      focus (intro wS hSw; (try dsimp only at hSw); go_simp; try (with_reducible rfl))
      simp only [Act.put, List.setIfInBounds_toArray, List.set_cons_zero, List.set_cons_succ]
      refine wpAnyE_take 4 (some 69) ?_ rfl rfl (by kernel_rfl) (by kernel_rfl) (by kernel_rfl) (by kernel_rfl) (fun _ _ _ h => h) (Or.inl ⟨by rfl, ?_⟩) HT.out ?_
      rotate_left
      focus (intro wS hSw; (try dsimp only at hSw); go_simp; try (with_reducible rfl))
      simp only [Act.put, List.setIfInBounds_toArray, List.set_cons_zero, List.set_cons_succ]
      refine wpAnyE_oneG 2 (by kernel_rfl) rfl (by rfl) (fun K hK => ?_)
      go_simp
      with_reducible refine H1.out.mono ?_
      rintro e w5 ⟨rfl, ha⟩
      have H2 := Lib.hid (ha.call (f := 13) (args := #[.pointer (some ⟨kb, 0, none⟩), .string (st x)]) (p := Try.prog) fun fp hp => Sep.callR (JCl.stays _ _ _ _) hp fun f hf => rappend_cl kb rb HNX.out f w5 hf HK.out (by have := HZ.out; omega) (by have := HX4.out; omega))
      clear ha H1 HA0
      try go_wp2_with fail
      refine hK.out _ _ HT.out ?_
      clear hK K
      try simp only [Act.put, List.setIfInBounds_toArray, List.set_cons_zero, List.set_cons_succ]
      refine wpAnyE_oneG 5 (by kernel_rfl) rfl (by rfl) (fun K hK => ?_)
      go_simp
      with_reducible refine H2.out.mono ?_
      rintro e w6 ⟨v3, rfl, ha⟩
      have HT2 := HT
      try go_wp2_with fail
      refine hK.out _ _ HT2.out ?_
      clear hK K
      try simp only [Act.put, List.setIfInBounds_toArray, List.set_cons_zero, List.set_cons_succ]
      clear H2 HT2
      obtain ⟨ka, kc, hv3⟩ := ha.right.know fun fp hp => (hp.list.elim fun f h => h.form)
      subst hv3
      obtain ⟨np, hnp⟩ : ∃ n, n = L2.length := ⟨_, rfl⟩
      obtain ⟨uu, huu⟩ : ∃ n, n = used L2 := ⟨_, rfl⟩
      have HNP := Lib.hid hnp
      have HUU := Lib.hid huu
      have HRM : Hid (used L2 + z2 = nb) := by show _ = _; rw [HNX.out.room, HZ.out]
      have hub : uu ≤ nb := by have := HRM.out; omega
      have hpu : np ≤ uu := by have := HNX.out.ok.few; omega
      have HST : Hid (Stays (Sep (JCl jb pb L2 z2) (RJr kb rb (Cl L2 z2) (.slice ka np kc) L2 uu))) := (Stays.sep (JCl.stays _ _ _ _) (RJr.stays _ _ _ _ _ _))
      have HA1 : Hid (After [] w w6 ((Sep (JCl jb pb L2 z2) (RJr kb rb (Cl L2 z2) (.slice ka np kc) L2 uu)) w6)) := by rw [HNP.out, HUU.out]; exact ha
      clear ha hnp huu
      obtain ⟨bA, bC, hcs, hbr⟩ : ∃ bA bC, (w6.cell? ⟨kb, 1, none⟩ = some (.slice ka np kc) ∧ w6.cell? ⟨kb, 2, none⟩ = some (.int .i64 uu) ∧ w6.cell? ⟨rb, 0, none⟩ = some (.slice bA nb bC)) ∧ RowS w6 bA (Cl L2 z2).bl := by
        obtain ⟨ba2, bc2, vp2, hbx, hrow, _⟩ := HA1.out.right.know fun fp hp => (hp.disk.elim fun f h => h.box2)
        have hk := HA1.out.right.know fun fp hp => hp.box
        rw [Cl.len, HRM.out] at hbx
        exact ⟨ba2, bc2, ⟨hk.cell 1, hk.cell 2, hbx.cell 0⟩, hrow⟩
      refine wpAnyE_less (S' := fun w' => w'.cell? ⟨kb, 1, none⟩ = some (.slice ka np kc) ∧ w'.cell? ⟨kb, 2, none⟩ = some (.int .i64 uu) ∧ w'.cell? ⟨rb, 0, none⟩ = some (.slice bA nb bC)) (fun _ _ => trivial) _ _ _ _ ?_
      have HS1 := Lib.hid hcs
      have HRB1 := Lib.hid hbr
      have e7 : IntKind.i64.wrap ((nb : Nat) : Int) = (nb : Int) := IntWalk.i64_in _ (by omega)
      have e8 : IntKind.i64.wrap ((nb : Int) - (uu : Int)) = (nb : Int) - (uu : Int) := IntWalk.i64_in _ (by omega)
      clear hcs hbr
      skip
      have H3 : Hid (Calls Try.prog 14 #[.pointer (some ⟨jb, 0, none⟩)] w6 fun e w' => e = .returned (.int .i64 np) ∧ w6 = w') := jnLen_cell jb np w6 (by rw [HNP.out]; exact HA1.out.left.know fun fp hp => hp.box.cell 1)
      refine wpAnyE_take 6 (some 71) (.bool false) rfl rfl (by kernel_rfl) (by kernel_rfl) (by kernel_rfl) (by kernel_rfl) (fun _ _ _ h => h) (Or.inl ⟨by rfl, ?_⟩) HS1.out ?_
      focus (intro wS hSw; (try dsimp only at hSw); go_simp; try (with_reducible rfl))
      simp only [Act.put, List.setIfInBounds_toArray, List.set_cons_zero, List.set_cons_succ]
      refine wpAnyE_take 7 (some 72) ?_ rfl rfl (by kernel_rfl) (by kernel_rfl) (by kernel_rfl) (by kernel_rfl) (fun _ _ _ h => h) (Or.inl ⟨by rfl, ?_⟩) HS1.out ?_
      rotate_left
      focus (intro wS hSw; (try dsimp only at hSw); go_simp; try (with_reducible rfl))
      simp only [Act.put, List.setIfInBounds_toArray, List.set_cons_zero, List.set_cons_succ]
      refine wpAnyE_take 8 (some 73) ?_ rfl rfl (by kernel_rfl) (by kernel_rfl) (by kernel_rfl) (by kernel_rfl) (fun _ _ _ h => h) (Or.inl ⟨by rfl, ?_⟩) HS1.out ?_
      rotate_left
      focus (intro wS hSw; (try dsimp only at hSw); go_simp; try (with_reducible rfl))
      simp only [Act.put, List.setIfInBounds_toArray, List.set_cons_zero, List.set_cons_succ]
      refine wpAnyE_take 10 (some 75) ?_ rfl rfl (by kernel_rfl) (by kernel_rfl) (by kernel_rfl) (by kernel_rfl) (fun _ _ _ h => h) (Or.inl ⟨by rfl, ?_⟩) HS1.out ?_
      rotate_left
      focus (intro wS hSw; (try dsimp only at hSw); go_simp; try (with_reducible rfl))
      simp only [Act.put, List.setIfInBounds_toArray, List.set_cons_zero, List.set_cons_succ]
      refine wpAnyE_take 11 (some 76) ?_ rfl rfl (by kernel_rfl) (by kernel_rfl) (by kernel_rfl) (by kernel_rfl) (fun _ _ _ h => h) (Or.inl ⟨by rfl, ?_⟩) HS1.out ?_
      rotate_left
      focus (intro wS hSw; (try dsimp only at hSw); go_simp; try (with_reducible rfl))
      simp only [Act.put, List.setIfInBounds_toArray, List.set_cons_zero, List.set_cons_succ]
      refine wpAnyE_take 12 (some 77) ?_ rfl rfl (by kernel_rfl) (by kernel_rfl) (by kernel_rfl) (by kernel_rfl) (fun _ _ _ h => h) (Or.inl ⟨by rfl, ?_⟩) HS1.out ?_
      rotate_left
      focus (intro wS hSw; (try dsimp only at hSw); go_simp; try (with_reducible rfl))
      simp only [Act.put, List.setIfInBounds_toArray, List.set_cons_zero, List.set_cons_succ]
      refine wpAnyE_take 13 (some 78) ?_ rfl rfl (by kernel_rfl) (by kernel_rfl) (by kernel_rfl) (by kernel_rfl) (fun _ _ _ h => h) (Or.inl ⟨by rfl, ?_⟩) HS1.out ?_
      rotate_left
      focus (intro wS hSw; (try dsimp only at hSw); go_simp; try (with_reducible rfl))
      simp only [Act.put, List.setIfInBounds_toArray, List.set_cons_zero, List.set_cons_succ]
      refine wpAnyE_take 14 (some 79) ?_ rfl rfl (by kernel_rfl) (by kernel_rfl) (by kernel_rfl) (by kernel_rfl) (fun _ _ _ h => h) (Or.inl ⟨by rfl, ?_⟩) HS1.out ?_
      rotate_left
      focus (intro wS hSw; (try dsimp only at hSw); go_simp; try (with_reducible rfl))
      simp only [Act.put, List.setIfInBounds_toArray, List.set_cons_zero, List.set_cons_succ]
      refine wpAnyE_oneG 9 (by kernel_rfl) rfl (by rfl) (fun K hK => ?_)
      go_simp
      with_reducible refine H3.out.mono ?_
      rintro e w7 ⟨rfl, rfl⟩
      clear H3
      try go_wp2_with fail
      refine hK.out _ _ HS1.out ?_
      clear hK K
      try simp only [Act.put, List.setIfInBounds_toArray, List.set_cons_zero, List.set_cons_succ]
      obtain ⟨f7, hf7⟩ := HA1.out.left.know fun fp hp => (⟨fp, hp⟩ : ∃ f, JCl jb pb L2 z2 w6 f)
      have H4 := jnLeft_any jb pb (Cl L2 z2) L2.length (used L2) f7 w6 hf7 (by rw [Cl.len]; omega)
      rw [Cl.len, HRM.out, ← HUU.out] at H4
      have H4 := Lib.hid H4
      clear hf7
      refine wpAnyE_take 15 (some 80) (.bool false) rfl rfl (by kernel_rfl) (by kernel_rfl) (by kernel_rfl) (by kernel_rfl) (fun _ _ _ h => h) (Or.inl ⟨by rfl, ?_⟩) HS1.out ?_
      focus (intro wS hSw; (try dsimp only at hSw); go_simp; try (with_reducible rfl))
      simp only [Act.put, List.setIfInBounds_toArray, List.set_cons_zero, List.set_cons_succ]
      refine wpAnyE_take 16 (some 81) (.bool false) rfl rfl (by kernel_rfl) (by kernel_rfl) (by kernel_rfl) (by kernel_rfl) (fun _ _ _ h => h) (Or.inl ⟨by rfl, ?_⟩) HS1.out ?_
      focus (intro wS hSw; (try dsimp only at hSw); go_simp; try (with_reducible rfl))
      simp only [Act.put, List.setIfInBounds_toArray, List.set_cons_zero, List.set_cons_succ]
      refine wpAnyE_take 17 (some 82) ?_ rfl rfl (by kernel_rfl) (by kernel_rfl) (by kernel_rfl) (by kernel_rfl) (fun _ _ _ h => h) (Or.inl ⟨by rfl, ?_⟩) HS1.out ?_
      rotate_left
      focus (intro wS hSw; (try dsimp only at hSw); go_simp; try (with_reducible rfl))
      simp only [Act.put, List.setIfInBounds_toArray, List.set_cons_zero, List.set_cons_succ]
      refine wpAnyE_take 18 (some 83) ?_ rfl rfl (by kernel_rfl) (by kernel_rfl) (by kernel_rfl) (by kernel_rfl) (fun _ _ _ h => h) (Or.inl ⟨by rfl, ?_⟩) HS1.out ?_
      rotate_left
      focus (intro wS hSw; (try dsimp only at hSw); go_simp; try (with_reducible rfl))
      simp only [Act.put, List.setIfInBounds_toArray, List.set_cons_zero, List.set_cons_succ]
      refine wpAnyE_take 20 (some 85) ?_ rfl rfl (by kernel_rfl) (by kernel_rfl) (by kernel_rfl) (by kernel_rfl) (fun _ _ _ h => h) (Or.inl ⟨by rfl, ?_⟩) HS1.out ?_
      rotate_left
      focus (intro wS hSw; (try dsimp only at hSw); go_simp; try (with_reducible rfl))
      simp only [Act.put, List.setIfInBounds_toArray, List.set_cons_zero, List.set_cons_succ]
      refine wpAnyE_take 21 (some 86) ?_ rfl rfl (by kernel_rfl) (by kernel_rfl) (by kernel_rfl) (by kernel_rfl) (fun _ _ _ h => h) (Or.inl ⟨by rfl, ?_⟩) HS1.out ?_
      rotate_left
      focus (intro wS hSw; (try dsimp only at hSw); go_simp; try (with_reducible rfl))
      simp only [Act.put, List.setIfInBounds_toArray, List.set_cons_zero, List.set_cons_succ]
      refine wpAnyE_take 22 (some 87) ?_ rfl rfl (by kernel_rfl) (by kernel_rfl) (by kernel_rfl) (by kernel_rfl) (fun _ _ _ h => h) (Or.inl ⟨by rfl, ?_⟩) HS1.out ?_
      rotate_left
      focus (intro wS hSw; (try dsimp only at hSw); go_simp; try (with_reducible rfl))
      simp only [Act.put, List.setIfInBounds_toArray, List.set_cons_zero, List.set_cons_succ]
      refine wpAnyE_take 23 (some 88) ?_ rfl rfl (by kernel_rfl) (by kernel_rfl) (by kernel_rfl) (by kernel_rfl) (fun _ _ _ h => h) (Or.inl ⟨by rfl, ?_⟩) HS1.out ?_
      rotate_left
      focus (intro wS hSw; (try dsimp only at hSw); go_simp; try (with_reducible rfl))
      simp only [Act.put, List.setIfInBounds_toArray, List.set_cons_zero, List.set_cons_succ]
      refine wpAnyE_take 24 (some 89) ?_ rfl rfl (by kernel_rfl) (by kernel_rfl) (by kernel_rfl) (by kernel_rfl) (fun _ _ _ h => h) (Or.inl ⟨by rfl, ?_⟩) HS1.out ?_
      rotate_left
      focus (intro wS hSw; (try dsimp only at hSw); go_simp; try (with_reducible rfl))
      simp only [Act.put, List.setIfInBounds_toArray, List.set_cons_zero, List.set_cons_succ]
      refine wpAnyE_take 25 (some 90) ?_ rfl rfl (by kernel_rfl) (by kernel_rfl) (by kernel_rfl) (by kernel_rfl) (fun _ _ _ h => h) (Or.inl ⟨by rfl, ?_⟩) HS1.out ?_
      rotate_left
      focus (intro wS hSw; (try dsimp only at hSw); go_simp; try (with_reducible rfl))
      simp only [Act.put, List.setIfInBounds_toArray, List.set_cons_zero, List.set_cons_succ]
      refine wpAnyE_take 26 (some 91) ?_ rfl rfl (by kernel_rfl) (by kernel_rfl) (by kernel_rfl) (by kernel_rfl) (fun _ _ _ h => h) (Or.inl ⟨by rfl, ?_⟩) HS1.out ?_
      rotate_left
      focus (intro wS hSw; (try dsimp only at hSw); go_simp; try (with_reducible rfl))
      simp only [Act.put, List.setIfInBounds_toArray, List.set_cons_zero, List.set_cons_succ]
      refine wpAnyE_oneG 19 (by kernel_rfl) rfl (by rfl) (fun K hK => ?_)
      go_simp
      with_reducible refine H4.out.mono ?_
      rintro e w8 ⟨rfl, q1, rfl⟩
      have HA2 := Lib.hid (HA1.out.drewN HST.out q1)
      have HS2 : Hid ((w6.drewN q1).cell? ⟨kb, 1, none⟩ = some (.slice ka np kc) ∧ (w6.drewN q1).cell? ⟨kb, 2, none⟩ = some (.int .i64 uu) ∧ (w6.drewN q1).cell? ⟨rb, 0, none⟩ = some (.slice bA nb bC)) := HS1.out
      have HRB2 : Hid (RowS (w6.drewN q1) bA (Cl L2 z2).bl) := HRB1.out
      generalize w6.drewN q1 = w8 at HA2 HS2 HRB2 ⊢
      clear H4 HA1 HS1 HRB1
      try go_wp2_with fail
      refine hK.out _ _ HS2.out ?_
      clear hK K
      try simp only [Act.put, List.setIfInBounds_toArray, List.set_cons_zero, List.set_cons_succ]
      obtain ⟨f8, hf8⟩ := HA2.out.left.know fun fp hp => (hp.disk : ∃ f, PDr pb (Cl L2 z2) w8 f)
      have H5 := all_row pb _ f8 w8 hf8
      rw [Cl.len, HRM.out] at H5
      have H5 := Lib.hid H5
      clear hf8
      refine wpAnyE_take 27 (some 92) (.bool false) rfl rfl (by kernel_rfl) (by kernel_rfl) (by kernel_rfl) (by kernel_rfl) (fun _ _ _ h => h) (Or.inl ⟨by rfl, ?_⟩) HS2.out ?_
      focus (intro wS hSw; (try dsimp only at hSw); go_simp; try (with_reducible rfl))
      simp only [Act.put, List.setIfInBounds_toArray, List.set_cons_zero, List.set_cons_succ]
      refine wpAnyE_take 28 (some 93) (.bool false) rfl rfl (by kernel_rfl) (by kernel_rfl) (by kernel_rfl) (by kernel_rfl) (fun _ _ _ h => h) (Or.inl ⟨by rfl, ?_⟩) HS2.out ?_
      focus (intro wS hSw; (try dsimp only at hSw); go_simp; try (with_reducible rfl))
      simp only [Act.put, List.setIfInBounds_toArray, List.set_cons_zero, List.set_cons_succ]
      refine wpAnyE_take 29 (some 94) ?_ rfl rfl (by kernel_rfl) (by kernel_rfl) (by kernel_rfl) (by kernel_rfl) (fun _ _ _ h => h) (Or.inl ⟨by rfl, ?_⟩) HS2.out ?_
      rotate_left
      focus (intro wS hSw; (try dsimp only at hSw); go_simp; try (with_reducible rfl))
      simp only [Act.put, List.setIfInBounds_toArray, List.set_cons_zero, List.set_cons_succ]
      refine wpAnyE_take 30 (some 95) ?_ rfl rfl (by kernel_rfl) (by kernel_rfl) (by kernel_rfl) (by kernel_rfl) (fun _ _ _ h => h) (Or.inl ⟨by rfl, ?_⟩) HS2.out ?_
      rotate_left
      focus (intro wS hSw; (try dsimp only at hSw); go_simp; try (with_reducible rfl))
      simp only [Act.put, List.setIfInBounds_toArray, List.set_cons_zero, List.set_cons_succ]
      refine wpAnyE_take 32 (some 97) ?_ rfl rfl (by kernel_rfl) (by kernel_rfl) (by kernel_rfl) (by kernel_rfl) (fun _ _ _ h => h) (Or.inl ⟨by rfl, ?_⟩) HS2.out ?_
      rotate_left
      focus (intro wS hSw; (try dsimp only at hSw); go_simp; try (with_reducible rfl))
      simp only [Act.put, List.setIfInBounds_toArray, List.set_cons_zero, List.set_cons_succ]
      refine wpAnyE_take 33 (some 98) ?_ rfl rfl (by kernel_rfl) (by kernel_rfl) (by kernel_rfl) (by kernel_rfl) (fun _ _ _ h => h) (Or.inl ⟨by rfl, ?_⟩) HS2.out ?_
      rotate_left
      focus (intro wS hSw; (try dsimp only at hSw); go_simp; try (with_reducible rfl))
      simp only [Act.put, List.setIfInBounds_toArray, List.set_cons_zero, List.set_cons_succ]
      refine wpAnyE_take 34 (some 99) ?_ rfl rfl (by kernel_rfl) (by kernel_rfl) (by kernel_rfl) (by kernel_rfl) (fun _ _ _ h => h) (Or.inl ⟨by rfl, ?_⟩) HS2.out ?_
      rotate_left
      focus (intro wS hSw; (try dsimp only at hSw); go_simp; try (with_reducible rfl))
      simp only [Act.put, List.setIfInBounds_toArray, List.set_cons_zero, List.set_cons_succ]
      refine wpAnyE_take 35 (some 100) ?_ rfl rfl (by kernel_rfl) (by kernel_rfl) (by kernel_rfl) (by kernel_rfl) (fun _ _ _ h => h) (Or.inl ⟨by rfl, ?_⟩) HS2.out ?_
      rotate_left
      focus (intro wS hSw; (try dsimp only at hSw); go_simp; try (with_reducible rfl))
      simp only [Act.put, List.setIfInBounds_toArray, List.set_cons_zero, List.set_cons_succ]
      refine wpAnyE_oneG 31 (by kernel_rfl) rfl (by rfl) (fun K hK => ?_)
      go_simp
      with_reducible refine H5.out.mono ?_
      rintro e w9 ⟨g, n3, hn3, rfl, hrow, hb⟩
      subst n3
      have HA3 := Lib.hid (HA2.out.since HST.out hb)
      have HS3 : Hid (w9.cell? ⟨kb, 1, none⟩ = some (.slice ka np kc) ∧ w9.cell? ⟨kb, 2, none⟩ = some (.int .i64 uu) ∧ w9.cell? ⟨rb, 0, none⟩ = some (.slice bA nb bC)) := ⟨(hb.cell (p := ⟨kb, 1, none⟩) (World.block_lt_of_cell? w8 _ HS2.out.1)).trans HS2.out.1, (hb.cell (p := ⟨kb, 2, none⟩) (World.block_lt_of_cell? w8 _ HS2.out.2.1)).trans HS2.out.2.1, (hb.cell (p := ⟨rb, 0, none⟩) (World.block_lt_of_cell? w8 _ HS2.out.2.2)).trans HS2.out.2.2⟩
      have HRB3 : Hid (RowS w9 bA (Cl L2 z2).bl) := HRB2.out.keep hb
      have HRG := Lib.hid hrow
      clear hb hrow H5 HA2 HS2 HRB2
      try go_wp2_with fail
      refine hK.out _ _ HS3.out ?_
      clear hK K
      try simp only [Act.put, List.setIfInBounds_toArray, List.set_cons_zero, List.set_cons_succ]
      have H6 := Lib.hid (equal_same (some ⟨g, 0, none⟩) bA nb bC nb (Cl L2 z2).bl w9 HRG.out HRB3.out (by rw [Cl.len]; exact HRM.out.symm) (by omega))
      refine wpAnyE_oneG 36 (by kernel_rfl) rfl (by rfl) (fun K hK => ?_)
      go_simp
      with_reducible refine H6.out.mono ?_
      rintro e w10 ⟨rfl, q3, rfl⟩
      have HA4 := Lib.hid (HA3.out.drewN HST.out q3)
      have HS4 : Hid ((w9.drewN q3).cell? ⟨kb, 1, none⟩ = some (.slice ka np kc) ∧ (w9.drewN q3).cell? ⟨kb, 2, none⟩ = some (.int .i64 uu) ∧ (w9.drewN q3).cell? ⟨rb, 0, none⟩ = some (.slice bA nb bC)) := HS3.out
      generalize w9.drewN q3 = w10 at HA4 HS4 ⊢
      clear H6 HA3 HS3 HRB3 HRG
      try go_wp2_with fail
      refine hK.out _ _ HS4.out ?_
      clear hK K
      try simp only [Act.put, List.setIfInBounds_toArray, List.set_cons_zero, List.set_cons_succ]
      refine wpAnyE_take 37 (some 102) (.bool false) rfl rfl (by kernel_rfl) (by kernel_rfl) (by kernel_rfl) (by kernel_rfl) (fun _ _ _ h => h) (Or.inl ⟨by rfl, ?_⟩) HS4.out ?_
      focus (intro wS hSw; (try dsimp only at hSw); go_simp; try (with_reducible rfl))
      simp only [Act.put, List.setIfInBounds_toArray, List.set_cons_zero, List.set_cons_succ]
      refine wpAnyE_take 38 (some 103) (.bool false) rfl rfl (by kernel_rfl) (by kernel_rfl) (by kernel_rfl) (by kernel_rfl) (fun _ _ _ h => h) (Or.inl ⟨by rfl, ?_⟩) HS4.out ?_
      focus (intro wS hSw; (try dsimp only at hSw); go_simp; try (with_reducible rfl))
      simp only [Act.put, List.setIfInBounds_toArray, List.set_cons_zero, List.set_cons_succ]
      refine wpAnyE_done (by kernel_rfl) ?_ _
      have HA5 : Hid (After [] w w10 (Sep (JCl jb pb L2 z2) (RJr kb rb (Cl L2 z2) (.slice ka np kc) L2 (used L2)) w10)) := by rw [← HUU.out]; exact HA4.out
      clear HA4 HS4 HST
      go_wp2
      go_roundg (n - (j + 1))
      case measure => omega
      case rel => exact ⟨j + 1, L2, z2, .slice ka np kc, by omega, by go_num, by omega, HNX.out.ok, HRM.out, HA5.out⟩
    · have e : j = n := by omega
      subst e
      obtain ⟨ka, kc, hv⟩ := HA.out.right.know fun fp hp => (hp.list.elim fun f h => h.form)
      subst hv
      obtain ⟨np, hnp⟩ : ∃ n, n = L.length := ⟨_, rfl⟩
      obtain ⟨uu, huu⟩ : ∃ n, n = used L := ⟨_, rfl⟩
      have HNP := Lib.hid hnp
      have HUU := Lib.hid huu
      have hub : uu ≤ nb := by have := HZ.out; omega
      have hpu : np ≤ uu := by have := HK.out.few; omega
      have H1 := Lib.hid (HA.out.call (f := 10) (args := #[.pointer (some ⟨pb, 0, none⟩)]) (p := Try.prog) fun fp hp => Sep.callL (RJr.stays _ _ _ _ _ _) hp fun f hf => Sep.callR (BlkR.stays _ _ _) hf fun f hf => open_cl_any pb L z f wr hf HK.out (by have := HZ.out; omega))
      clear hnp huu hgk hlt HA
      go_wp2_with fail
      with_reducible refine H1.out.mono ?_
      rintro e w5 ⟨⟨jb2, v3⟩, rfl, ha⟩
      try simp only at ha
      obtain ⟨ra, rc, hv3⟩ := ha.left.right.right.know fun fp hp => hp.form
      subst hv3
      rw [← HNP.out, ← HUU.out] at ha
      have HST : Hid (Stays (Sep (Sep (BlkR jb 70 #[.pointer (some ⟨pb, 0, none⟩), .int .i64 np, .int .i64 uu]) (Sep (JCl jb2 pb L z) (TxR (.slice ra np rc) L))) (RJr kb rb (Cl L z) (.slice ka np kc) L uu))) := Stays.sep (Stays.sep (BlkR.stays _ _ _) (Stays.sep (JCl.stays _ _ _ _) (TxR.stays _ _))) (RJr.stays _ _ _ _ _ _)
      have HA5 := Lib.hid ha
      obtain ⟨f5, hf5⟩ := ha.left.right.left.know fun fp hp => (hp.disk : ∃ f, PDr pb (Cl L z) w5 f)
      have H2 := all_row pb _ f5 w5 hf5
      have H2 := Lib.hid H2
      clear ha hf5 H1
      try simp only
      rw [← HNP.out]
      go_wp2_with fail
      with_reducible refine H2.out.mono ?_
      rintro e w6 ⟨g, n3, hn3, rfl, hrow, hb⟩
      have HA6 := Lib.hid (HA5.out.since HST.out hb)
      have H3 := Lib.hid (records_cl g n3 L z w6 hrow hn3 HK.out (by have := HZ.out; omega))
      rw [← HUU.out] at H3
      clear hn3 hrow hb H2 HA5
      go_wp2_with fail
      with_reducible refine H3.out.mono ?_
      rintro e w7 ⟨xv, rfl, hb, h1, h2⟩
      have HA7 := Lib.hid (HA6.out.fresh HST.out hb h1 h2)
      obtain ⟨xa, xc, hxv⟩ := h1.form
      rw [← HNP.out] at hxv
      subst hxv
      have H4 := Lib.hid (open_nil w7)
      clear hb h1 h2 H3 HA6
      go_wp2_with fail
      with_reducible refine H4.out.mono ?_
      rintro e w8 ⟨rfl, rfl⟩
      have hkb := HA7.out.left.right.know fun fp hp => hp.box
      have k1 : w7.cell? ⟨kb, 1, none⟩ = some (.slice ka np kc) := hkb.cell 1
      have H5 := Lib.hid (equal_same ra ka rc kc np L w7 (HA7.out.left.left.right.right.know fun _ hp => hp.row) (HA7.out.left.right.know fun fp hp => (hp.list.elim fun f h => h.row)) HNP.out (by omega))
      clear H4 hkb
      go_wp2_with fail
      with_reducible refine H5.out.mono ?_
      rintro e w8 ⟨rfl, q1, rfl⟩
      have HA8 := Lib.hid (HA7.out.drewN (Stays.sep HST.out (TxR.stays _ _)) q1)
      clear H5 HA7 k1
      generalize w7.drewN q1 = w8 at HA8 ⊢
      have H6 : Hid (Calls Try.prog 14 #[.pointer (some ⟨jb2, 0, none⟩)] w8 fun e w' => e = .returned (.int .i64 np) ∧ w8 = w') := jnLen_cell jb2 np w8 (by rw [HNP.out]; exact HA8.out.left.left.right.left.know fun fp hp => hp.box.cell 1)
      have H7 : Hid (Calls Try.prog 14 #[.pointer (some ⟨jb, 0, none⟩)] w8 fun e w' => e = .returned (.int .i64 np) ∧ w8 = w') := jnLen_cell jb np w8 (HA8.out.left.left.left.know fun fp hp => hp.1.cell 1)
      go_wp2_with fail
      with_reducible refine H6.out.mono ?_
      rintro e w9 ⟨rfl, rfl⟩
      go_wp2_with fail
      with_reducible refine H7.out.mono ?_
      rintro e w9 ⟨rfl, rfl⟩
      have H8 := Lib.hid (equal_same xa ra xc rc np L w8 (HA8.out.right.know fun _ hp => hp.row) (HA8.out.left.left.right.right.know fun _ hp => hp.row) HNP.out (by omega))
      clear H6 H7
      go_wp2_with fail
      with_reducible refine H8.out.mono ?_
      rintro e w9 ⟨rfl, q2, rfl⟩
      have HA9 := Lib.hid (HA8.out.drewN (Stays.sep HST.out (TxR.stays _ _)) q2)
      clear H8 HA8
      generalize w8.drewN q2 = w9 at HA9 ⊢
      have hkb := HA9.out.left.right.know fun fp hp => hp.box
      have k2 : w9.cell? ⟨kb, 2, none⟩ = some (.int .i64 uu) := hkb.cell 2
      have H9 : Hid (Calls Try.prog 12 #[.pointer none, .string ⟨#[97]⟩] w9 fun e w' => e = .returned (.int .i64 1) ∧ w9 = w') := append_nil [97] w9
      have H10 := Lib.hid (jnLen_nil w9)
      have H11 := Lib.hid (jnLeft_nil w9)
      clear hkb
      go_wp2_with fail
      with_reducible refine H9.out.mono ?_
      rintro e w10 ⟨rfl, rfl⟩
      go_wp2_with fail
      with_reducible refine H10.out.mono ?_
      rintro e w10 ⟨rfl, rfl⟩
      go_wp2_with fail
      with_reducible refine H11.out.mono ?_
      rintro e w10 ⟨rfl, rfl⟩
      have HZZ : Hid (Below w.heap.size w w9) := HA9.out.bel
      clear H9 H10 H11 HA9 HST
      go_wp2
      go_ret
      exact ⟨rfl, HZZ.out⟩
end Go.Proofs.Ytbpklikmldpeiaa
