/-
  A power failure while a record is appended, or while the disk is opened, and what a restart leaves: plain.
-/
import Derived.Test.YtbpklikmldpeiaaJnH
namespace Go.Proofs.Ytbpklikmldpeiaa

/-- what may be told of the disk behind a restart: a record's blocks, or what has become of them, behind the records -/
def Left6 (bl K : List (List UInt8)) (l : List UInt8) : Prop := ∃ q, Fit bl K q ∧ (q = [] ∨ (recOK ((K.length : Nat) : Int) l ∧ q = blks K.length l))

theorem Left6.ofCl {K : List (List UInt8)} {z : Nat} (h : AllOk K) (l : List UInt8) : Left6 (fitL K z) K l := ⟨[], Fit.ofCl h, .inl rfl⟩

theorem Left6.recs {bl K qs : List (List UInt8)} {l : List UInt8} {u : Nat} (h : Left6 bl K l) (hl : bl.length ≤ 65536) (hr : Recs 0 bl qs u) : AllOk qs ∧ u = used qs ∧ used K ≤ u ∧ (qs = K ∨ (qs = K ++ [l] ∧ l ≠ [])) := by
  obtain ⟨q, hf, hq⟩ := h
  rcases hf.recs hl (by
    rcases hq with h | ⟨h1, h2⟩
    · exact .inl h
    · exact .inr ⟨l, h1, h2⟩) hr with ⟨rfl, rfl⟩ | ⟨p, hp, hok, rfl, rfl⟩
  · exact ⟨hf.ok, rfl, Nat.le_refl _, .inl rfl⟩
  · rcases hq with rfl | ⟨h1, h2⟩
    · have := cnt_pos hok
      have h3 := congrArg List.length hp
      rw [blks_length] at h3
      simp at h3; omega
    · have e : p = l := by
        have h3 := begins_of (ls := blks K.length p) hok (by rw [List.take_of_length_le (by rw [blks_length]; exact Nat.le_refl _)]) (by rw [blks_length]; exact Nat.le_refl _)
        have h4 := begins_of (ls := blks K.length p) h1 (by rw [← h2, hp, List.take_of_length_le (by have := congrArg List.length (h2.symm.trans hp); rw [blks_length, blks_length] at this; rw [blks_length]; omega)]) (by have := congrArg List.length (h2.symm.trans hp); rw [blks_length, blks_length] at this; rw [blks_length]; omega)
        obtain ⟨d1, b1, f1, _⟩ := h3
        obtain ⟨d2, b2, f2, _⟩ := h4
        rw [← f1, ← f2, b1.inj b2]
      subst e
      refine ⟨hf.ok.snoc hok, rfl, by rw [used_snoc]; omega, .inr ⟨rfl, fun h0 => ?_⟩⟩
      have := hok.2.2.1
      rw [h0] at this
      simp at this

theorem fail_append {K : List (List UInt8)} {z : Nat} (p : List UInt8) (fu : Int) (h : AllOk K) (keep : List Nat) :
    ∃ bl, ((DS.mk (fitL K z) [] fu false).app K.length (used K) p).1.restart keep = ⟨bl, [], -1, false⟩ ∧ bl.length = used K + z ∧ ((DS.mk (fitL K z) [] fu false).app K.length (used K) p).1.pe.length ≤ 65536 ∧
      ((((DS.mk (fitL K z) [] fu false).app K.length (used K) p).2 = 0 ∧ ∃ z', bl = fitL (K ++ [p]) z' ∧ AllOk (K ++ [p])) ∨ (((DS.mk (fitL K z) [] fu false).app K.length (used K) p).2 ≠ 0 ∧ Left6 bl K p)) := by
  have hL : (fitL K z).length = used K + z := fitL_length K z
  unfold DS.app
  simp only
  rw [if_neg (by simp)]
  by_cases hr : recOK ((K.length : Nat) : Int) p
  · rw [if_neg (by simpa using hr)]
    by_cases hc : used K + z < used K + cnt p.length
    · rw [if_pos (by omega)]
      exact ⟨fitL K z, rfl, hL, by simp, .inr ⟨by simp, Left6.ofCl h p⟩⟩
    · rw [if_neg (by omega)]
      have hm := put_may (bl := fitL K z) (u := used K) (n := K.length) (p := p) (by omega)
      have hcc := cnt_pos hr
      have hpe : ((DS.mk (fitL K z) [] fu false).wsync (putTo (used K) (blks K.length p) (cnt p.length))).1.pe.length ≤ 65536 := by
        rcases DS.wsync_cases (fu := fu) hm with ⟨fu', e⟩ | ⟨k, fu', hk, e⟩
        · rw [e]; simp
        · rw [e]; simp only; rw [List.length_take, putTo_length]; omega
      obtain ⟨k, kf, hk, hkf, hre, h0⟩ := DS.wsync_restart (fu := fu) hm keep
      rw [putTo_length] at hk h0
      refine ⟨_, hre, by rw [settleN_length, hL], hpe, ?_⟩
      by_cases he : ((DS.mk (fitL K z) [] fu false).wsync (putTo (used K) (blks K.length p) (cnt p.length))).2 = 0
      · obtain ⟨e1, e2⟩ := h0 he
        subst e1 e2
        rw [List.take_of_length_le (by rw [putTo_length]; exact Nat.le_refl _), put_all (by omega)]
        exact .inl ⟨he, z - cnt p.length, rfl, h.snoc hr⟩
      · exact .inr ⟨he, blks K.length p, Fit.put h (by omega) hk hkf, .inr ⟨hr, rfl⟩⟩
  · rw [if_pos hr]
    exact ⟨fitL K z, rfl, hL, by simp, .inr ⟨by simp, Left6.ofCl h p⟩⟩

theorem fail_open {bl K : List (List UInt8)} {l : List UInt8} (fu : Int) (h : Left6 bl K l) (hl : bl.length ≤ 65536) {u : Nat} (hu : used K ≤ u) (keep : List Nat) :
    ∃ bl', ((DS.mk bl [] fu false).clear u).1.restart keep = ⟨bl', [], -1, false⟩ ∧ bl'.length = bl.length ∧ ((DS.mk bl [] fu false).clear u).1.pe.length ≤ 65536 ∧ Left6 bl' K l := by
  unfold DS.clear
  simp only
  split
  · exact ⟨bl, rfl, rfl, by simp, h⟩
  · have hm := zw_may (bl := bl) u
    have hdl := dirtyTo_length bl u bl.length
    have hpe : ((DS.mk bl [] fu false).wsync (zw (dirtyTo bl u bl.length))).1.pe.length ≤ 65536 := by
      rcases DS.wsync_cases (fu := fu) hm with ⟨fu', e⟩ | ⟨k, fu', hk, e⟩
      · rw [e]; simp
      · rw [e]; simp only; rw [List.length_take, zw_length]; omega
    obtain ⟨k, kf, hk, hkf, hre, _⟩ := DS.wsync_restart (fu := fu) hm keep
    obtain ⟨q, hf, hq⟩ := h
    exact ⟨_, hre, by rw [settleN_length], hpe, q, hf.zero hu hk hkf, hq⟩

/-- opened, without a fuse -/
theorem open_left {bl K qs : List (List UInt8)} {l : List UInt8} {u : Nat} (hbl : ∀ x ∈ bl, x.length = 64) (h : Left6 bl K l) (hl : bl.length ≤ 65536) (hr : Recs 0 bl qs u) :
    AllOk qs ∧ u = used qs ∧ used qs + (bl.length - used qs) = bl.length ∧ (DS.mk bl [] (-1) false).clear u = (Cl qs (bl.length - used qs), 0) ∧ (qs = K ∨ (qs = K ++ [l] ∧ l ≠ [])) := by
  obtain ⟨h1, h2, _, h3⟩ := h.recs hl hr
  have hle := hr.lead.le
  refine ⟨h1, h2, by omega, ?_, h3⟩
  rw [clear_fine hbl hr, h2]
  rfl
end Go.Proofs.Ytbpklikmldpeiaa
