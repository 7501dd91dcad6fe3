/-
  Contract of disk.Disk.Sync.
-/
import Derived.Test.YtbpklikmldpeiaaDskDMA
namespace Go.Proofs.Ytbpklikmldpeiaa
open Go.RowKit Go.Lib

def settleBN (bs : List (List UInt8 × Nat)) (pe : List (Nat × List UInt8)) (kf : Nat → Nat) : Nat → List (List UInt8 × Nat)
  | 0 => bs
  | n + 1 => settleB (settleBN bs pe kf n) (pe.getD n (0, [])) (kf n)

theorem settleBN_map (bs : List (List UInt8 × Nat)) (pe : List (Nat × List UInt8)) (kf : Nat → Nat) : ∀ n, (settleBN bs pe kf n).map Prod.fst = settleN (bs.map Prod.fst) pe kf n
  | 0 => rfl
  | n + 1 => by
    rw [settleBN, settleN, settleB, settle1, List.map_set, settleBN_map bs pe kf n]
    congr 2
    rw [← settleBN_map bs pe kf n]
    simp only [List.getD_eq_getElem?_getD, List.getElem?_map]
    cases (settleBN bs pe kf n)[(pe[n]?.getD (0, [])).1]? <;> rfl

theorem settleBN_length (bs : List (List UInt8 × Nat)) (pe : List (Nat × List UInt8)) (kf : Nat → Nat) (n : Nat) : (settleBN bs pe kf n).length = bs.length := by
  rw [← List.length_map (f := Prod.fst), settleBN_map, settleN_length, List.length_map]

theorem settleBN_last {bs : List (List UInt8 × Nat)} {pe : List (Nat × List UInt8)} (kf : Nat → Nat) (hl : ∀ k x, bs[k]? = some x → x.2 = lastOf pe k) :
    ∀ n, n ≤ pe.length → ∀ k x, (settleBN bs pe kf n)[k]? = some x → x.2 = 0 ∨ ∃ j d, n ≤ j ∧ pe[j]? = some (k, d)
  | 0, _, k, x, hx => by
    have h := hl k x hx
    by_cases h0 : lastOf pe k = 0
    · left; rw [h, h0]
    · right
      obtain ⟨d, hd⟩ := lastOf_get (pe := pe) (k := k) (by omega)
      exact ⟨_, d, Nat.zero_le _, hd⟩
  | n + 1, hn, k, x, hx => by
    have ih := settleBN_last kf hl n (by omega)
    have hp : pe[n]? = some (pe.getD n (0, [])) := by rw [List.getD_eq_getElem?_getD, List.getElem?_eq_getElem (by omega)]; rfl
    rw [settleBN, settleB] at hx
    by_cases e : (pe.getD n (0, [])).1 = k
    · left
      have hlt := (List.getElem?_eq_some_iff.1 hx).1
      rw [List.length_set] at hlt
      rw [e, List.getElem?_set_self hlt] at hx
      injection hx with hx
      rw [← hx]
    · rw [List.getElem?_set_ne e] at hx
      rcases ih k x hx with h | ⟨j, d, hj, hd⟩
      · exact .inl h
      · refine .inr ⟨j, d, ?_, hd⟩
        rcases Nat.lt_or_ge n j with h | h
        · exact h
        · have : j = n := by omega
          subst this
          rw [hp] at hd
          injection hd with hd
          exact absurd (congrArg Prod.fst hd) e

theorem settleBN_done {bs : List (List UInt8 × Nat)} {pe : List (Nat × List UInt8)} (kf : Nat → Nat) (hl : ∀ k x, bs[k]? = some x → x.2 = lastOf pe k) (k : Nat) (x : List UInt8 × Nat) (hx : (settleBN bs pe kf pe.length)[k]? = some x) : x.2 = 0 := by
  rcases settleBN_last kf hl pe.length (Nat.le_refl _) k x hx with h | ⟨j, d, hj, hd⟩
  · exact h
  · have := (List.getElem?_eq_some_iff.1 hd).1; omega

theorem PDx.settled {w : World} {B b : Nat} {s : DS} {g n : Nat} {v : Value} {fz : Int} {bs : List (List UInt8 × Nat)} (h : PDx w B b s g n v fz bs) (kf : Nat → Nat) (hk : ∀ i, kf i ≤ 64) (j : Nat) (hj : j ≤ s.pe.length) :
    (settleBN bs s.pe kf j).length = n ∧ ∀ x ∈ settleBN bs s.pe kf j, x.1.length = 64 := by
  refine ⟨by rw [settleBN_length, h.blen], fun x hx => ?_⟩
  refine settleN_ok h.ok.bl h.ok.pe hk j hj x.1 ?_
  rw [← h.map, ← settleBN_map]
  exact List.mem_map_of_mem hx

theorem sync_nil (w : World) :
    Calls Try.prog 25 #[.pointer none] w fun e w' => e = .returned (.int .i64 1) ∧ w = w' := by
  go_enter Try.func25, Try.ntmps25
  go_wp2
  go_ret
  exact ⟨rfl, rfl⟩

set_option maxHeartbeats 2000000 in
set_option maxRecDepth 100000 in
theorem sync_any (B b : Nat) (s : DS) (fp : List Nat) (w : World) (h : PD w B b s fp) (hlen : s.pe.length ≤ 4611686018427387904) :
    Calls Try.prog 25 #[.pointer (some ⟨b, 0, none⟩)] w fun e w' => e = .returned (.int .i64 s.sync.2) ∧ After fp w w' (PD w' B b s.sync.1) := by
  have c4 : w.cell? ⟨b, 4, none⟩ = some (.bool s.dead) := by
    obtain ⟨g, n, v, fz, bs, h, rfl⟩ := h
    exact h.box.cell 4
  by_cases hdd : s.dead = true
  · rw [hdd] at c4
    have HE : Hid (s.sync = (s, 7)) := by show _ = _; unfold DS.sync; rw [if_pos hdd]
    have H := Lib.hid h
    clear h hdd
    go_enter Try.func25, Try.ntmps25
    go_wp2
    go_ret
    rw [HE.out]
    exact ⟨rfl, After.of (Stp.refl _ _) H.out⟩
  · have hdd : s.dead = false := by simpa using hdd
    rw [hdd] at c4
    have HTH := Lib.hid (thing_any B b s fp w h)
    by_cases ht : s.thing.2 = true
    · have HE : Hid (s.sync = (s.thing.1.synced, 0)) := by show _ = _; unfold DS.sync; rw [if_neg (by rw [hdd]; decide), if_pos ht]
      rw [ht, show bit7 true = 0 from rfl] at HTH
      have hpe := s.thing_pe
      rw [← hpe] at hlen
      generalize s.thing.1 = s1 at HE HTH hlen
      clear h hdd ht hpe
      go_enter Try.func25, Try.ntmps25
      go_wp2_with fail
      refine HTH.out.mono ?_
      rintro e w1 ⟨rfl, fp1, ⟨g, n, v, fz, bs, h1, rfl⟩, hs1, hf1⟩
      obtain ⟨va, vc, rfl⟩ := h1.own_form
      have c1 : w1.cell? ⟨b, 1, none⟩ = some (.slice va s1.pe.length vc) := h1.box.cell 1
      obtain ⟨np, hnp⟩ : ∃ np, np = s1.pe.length := ⟨_, rfl⟩
      have HNP := Lib.hid hnp
      rw [← hnp] at c1 hlen
      have H1 := Lib.hid h1
      have HS1 := Lib.hid hs1
      have HF1 := Lib.hid hf1
      clear h1 hs1 hf1 hnp
      go_wp2
      go_loopg [23] np (fun gk i wr => ∃ j : Nat, j ≤ np ∧ i = .int .i64 j ∧ np - j ≤ gk ∧ Hid (Blk wr g 80 ((settleBN bs s1.pe (fun _ => 64) j).flatMap cB).toArray) ∧ Hid (Stp [g] w1 wr))
      case atStart => exact ⟨0, Nat.zero_le _, rfl, by omega, H1.out.row, Stp.refl _ _⟩
      case round =>
        obtain ⟨j, hj, rfl, hgk, HR, HST⟩ := hrel
        have hbg : b ≠ g := H1.out.box.ne H1.out.row (by decide)
        have HBX := Lib.hid (H1.out.box.stp HST.out (by simpa using hbg))
        have hvg : ∀ k, (Value.slice va s1.pe.length vc).ownBlock = some k → k ∉ [g] := fun k hk => by
          obtain ⟨cur, hcur⟩ := own_blk_of H1.out.own hk
          simp only [List.mem_singleton]
          exact fun e => by subst e; exact absurd rfl (H1.out.row.ne hcur (by decide))
        have HOW := Lib.hid (own_stp H1.out.own HST.out hvg)
        clear hvg hbg
        by_cases hlt : j < np
        · have hp : s1.pe[j]? = some (s1.pe.getD j (0, [])) := by rw [List.getD_eq_getElem?_getD, List.getElem?_eq_getElem (by rw [← HNP.out]; exact hlt)]; rfl
          generalize hpp : s1.pe.getD j (0, []) = p at hp
          obtain ⟨q, c, hv, hq, hd64, hrg, _⟩ := own_range H1.out.ok HOW.out hp
          injection hv with hv1 hv2 hv3
          subst hv1
          have HRG := Lib.hid hrg
          have hi2 : (Try.prog.info? 84).map (·.size) = some (cW p).length := by rw [cW_length hd64]; exact (info_zero infoDkWrite).2.1
          have hi3 : (Try.prog.info? 84).map (·.size) = some (cW p).toArray.size := by rw [List.size_toArray]; exact hi2
          have hz3 : zW.size = (cW p).toArray.size := zW_size.trans (cW_size hd64).symm
          have ho3 : ∀ u ∈ (cW p).toArray.toList, u.oneCell' = true := fun u hu => by
            rw [List.toList_toArray, cW] at hu
            rcases List.mem_cons.1 hu with rfl | hu
            · rfl
            · exact bv_one _ u hu
          have hbl : Blk (wr.alloc (.cells (cW p).toArray 84)) wr.heap.size 84 (cW p).toArray := Blk.new wr _ _
          have hrg2 : (wr.alloc (.cells (cW p).toArray 84)).rangeAt wr.heap.size 0 (cW p) := range_of_blk (xs := []) (zs := []) (by rw [List.append_nil]; exact hbl)
          have HI2 := Lib.hid hi2
          have HI3 := Lib.hid hi3
          have HZ3 := Lib.hid hz3
          have HO3 := Lib.hid ho3
          have HRG2 := Lib.hid hrg2
          have hset := H1.out.settled (fun _ => 64) (fun _ => Nat.le_refl _) j (by rw [← HNP.out]; exact hj)
          have HSE := Lib.hid (settle_any b g n 64 _ _ p _ (HBX.out.alloc (.cells (cW p).toArray 84)) rfl hset.1.symm (HR.out.alloc _) hset.2 (by rw [H1.out.num]; exact (H1.out.ok.pe p (List.mem_of_getElem? hp)).1) hd64 (Nat.le_refl _))
          have HPP := Lib.hid hpp
          have hst2 : Stp [g] w1 (wr.alloc (.cells (cW p).toArray 84)) := HST.out.alloc _
          have HST2 := Lib.hid hst2
          have hjz : (0 : Int) ≤ (j : Int) := by omega
          have hjn : (j : Int) < (np : Int) := by omega
          clear hrg hi2 hi3 hz3 ho3 hbl hrg2 hset hpp hp hst2 hq hv2 hv3
          go_wp2_with (first | (refine wpList_load_mid rfl 84 _ rfl q (j * 65) rfl _ _ HRG.out Try.underlying84 rfl HI2.out ?_) | (refine wpList_alloc_z rfl 84 rfl zW 65 72 infoDkWrite ?_) | (refine wpList_store_new rfl 84 _ _ rfl rfl _ rfl _ _ HI3.out HZ3.out HO3.out ?_) | (refine wpList_load_mid rfl 84 _ rfl wr.heap.size 0 rfl _ _ HRG2.out Try.underlying84 rfl HI2.out ?_) | (go_at_call 38; refine HSE.out.mono ?_; rintro e w2 ⟨rfl, hs2, hr2⟩; have HS2 := Lib.hid hs2; have HR2 := Lib.hid hr2; clear hs2 hr2))
          go_roundg (np - (j + 1))
          case measure => omega
          case rel =>
            refine ⟨j + 1, by omega, by go_num, by omega, ?_, HST2.out.trans HS2.out (fun k hk => .inl hk)⟩
            have := HR2.out
            rw [← HPP.out] at this
            exact this
        · have e : j = np := by omega
          subst e
          have f1 := HBX.out.frozen 1
          have d1 : wr.cell? ⟨b, 1, none⟩ = some (.slice va s1.pe.length vc) := HBX.out.cell 1
          clear hgk
          go_wp2
          go_ret
          rw [HE.out]
          refine ⟨rfl, After.step HS1.out HF1.out ⟨fpP b g (.slice none 0 0), ⟨g, n, .slice none 0 0, fz, settleBN bs s1.pe (fun _ => 64) j, ⟨H1.out.ok.synced, ?_, ?_, ?_, HBX.out.set 1 _, H1.out.fz, HR.out.other (a := ⟨b, 1, none⟩) (H1.out.box.ne H1.out.row (by decide)).symm _, World.ownsRow_nil _ _ _ _, H1.out.hb, H1.out.hg⟩, rfl⟩, ?_, ?_⟩⟩
          · rw [settleBN_map, H1.out.map, HNP.out]; rfl
          · intro k x hx
            rw [HNP.out] at hx
            exact settleBN_done _ H1.out.last k x hx
          · show n = (settleN _ _ _ _).length
            rw [settleN_length]; exact H1.out.num
          · have hw : Stp (fpP b g (.slice va s1.pe.length vc)) w1 wr := HST.out.wider (fun k hk => by rw [List.mem_singleton] at hk; rw [hk]; exact mem_fpP.2 (.inr (.inl rfl)))
            exact hw.setCell (x := ⟨b, 1, none⟩) (.inl (mem_fpP.2 (.inl rfl))) _
          · intro k hk
            rcases mem_fpP.1 hk with e | e | e
            · exact .inl (mem_fpP.2 (.inl e))
            · exact .inl (mem_fpP.2 (.inr (.inl e)))
            · cases e
    · have ht : s.thing.2 = false := by simpa using ht
      have HE : Hid (s.sync = (s.thing.1, 7)) := by show _ = _; unfold DS.sync; rw [if_neg (by rw [hdd]; decide), if_neg (by rw [ht]; decide)]
      rw [ht, show bit7 false = 7 from rfl] at HTH
      clear h hdd ht
      go_enter Try.func25, Try.ntmps25
      go_wp2_with fail
      refine HTH.out.mono ?_
      rintro e w1 ⟨rfl, haf⟩
      have HAF := Lib.hid haf
      clear haf
      go_wp2
      go_ret
      rw [HE.out]
      exact ⟨rfl, HAF.out⟩
end Go.Proofs.Ytbpklikmldpeiaa
