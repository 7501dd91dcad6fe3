/-
  Contract of the document's Take.
-/
import Derived.Test.YtkhkcpoadccflaaGtI
namespace Go.Proofs.Ytkhkcpoadccflaa
open Go.RowKit Go.Deep Go.Lib

/-- the first so many, one left out -/
theorem out_more {Q : List Rp} {k i : Nat} {x : Rp} (h : Q[k]? = some x) (hk : k ≠ i) : (Q.take (k + 1)).eraseIdx i = (Q.take k).eraseIdx i ++ [x] := by
  have hlt := (List.getElem?_eq_some_iff.1 h).1
  have hl : (Q.take k).length = k := by rw [List.length_take]; omega
  rw [take_at h]
  by_cases hi : i < k
  · rw [List.eraseIdx_append_of_lt_length (by omega)]
  · rw [List.eraseIdx_of_length_le (by rw [List.length_append, hl]; simp; omega), List.eraseIdx_of_length_le (by omega)]
theorem out_one {Q : List Rp} {i : Nat} {x : Rp} (h : Q[i]? = some x) : (Q.take (i + 1)).eraseIdx i = (Q.take i).eraseIdx i := by
  have hlt := (List.getElem?_eq_some_iff.1 h).1
  have hl : (Q.take i).length = i := by rw [List.length_take]; omega
  rw [take_at h, List.eraseIdx_append_of_length_le (Nat.le_of_eq hl), hl, Nat.sub_self, List.eraseIdx_of_length_le (Nat.le_of_eq hl)]
  exact List.append_nil _

theorem out_len (Q : List Rp) (k i : Nat) : ((Q.take k).eraseIdx i).length ≤ k := by
  have := List.length_eraseIdx_le (Q.take k) i
  rw [List.length_take] at this
  omega

set_option maxHeartbeats 1600000 in
theorem take_no (B b : Nat) (L : List Rc) (Q : List Rp) (v1 v2 : Value) (n : Int) (w : World) (h : GateP 33 52 43 B w b L Q v1 v2) (hn : n < 0 ∨ (Q.length : Int) ≤ n) :
    Calls Try.prog 7 #[.pointer (some ⟨b, 0, none⟩), .int .i64 n] w fun e w' => e = .returned (.tuple #[.agg #[.string (st []), .string (st []), .int .i64 0], .bool false]) ∧ Below w.heap.size w w' := by
  have HB : Hid (∀ o, Below w.heap.size w (w.alloc o)) := fun o => (Below.refl _ w).alloc (Nat.le_refl _) o
  by_cases h1 : n < 0
  · clear hn h
    go_enter Try.func7, Try.ntmps7
    go_wp2
    refine bodyPost_ret (rrp_ret rfl w.heap.size rfl ([], [], 0) _ false (heap_alloc_new _ _) rfl) rfl ⟨rfl, HB.out _⟩
  · have h2 : (Q.length : Int) ≤ n := by omega
    obtain ⟨a, cp, rfl, hrow⟩ := h.row2
    have c1 := (h.keep (HB.out (.cells #[.string ⟨#[]⟩, .string ⟨#[]⟩, .int .i64 0] 43))).cell1
    clear hn h hrow
    generalize Q.length = q at c1 h2
    go_enter Try.func7, Try.ntmps7
    go_wp2
    refine bodyPost_ret (rrp_ret rfl w.heap.size rfl ([], [], 0) _ false (heap_alloc_new _ _) rfl) rfl ⟨rfl, HB.out _⟩

set_option maxHeartbeats 6400000 in
set_option maxRecDepth 100000 in
theorem take_yes (B b : Nat) (L : List Rc) (Q : List Rp) (v1 v2 : Value) (i : Nat) (x : Rp) (w : World) (h : GateP 33 52 43 B w b L Q v1 v2) (hx : Q[i]? = some x) (hl : Q.length ≤ 1000000) :
    Calls Try.prog 7 #[.pointer (some ⟨b, 0, none⟩), .int .i64 (i : Int)] w fun e w' => e = .returned (.tuple #[.agg (cRp x).toArray, .bool true]) ∧ Turned 33 52 43 B b v1 v2 L (Q.eraseIdx i) w w' := by
  have hlt := (List.getElem?_eq_some_iff.1 hx).1
  have HX := Lib.hid hx
  have HG := Lib.hid h
  obtain ⟨a, cp, hv, hrow⟩ := h.row2
  obtain ⟨g, off, rfl⟩ := hrow.form (by omega)
  subst hv
  have HB : Hid (Below w.heap.size w (w.alloc (.cells #[.string ⟨#[]⟩, .string ⟨#[]⟩, .int .i64 0] 43))) := (Below.refl _ w).alloc (Nat.le_refl _) _
  obtain ⟨k, q, a⟩ := x
  have HB2 : Hid (Below w.heap.size w ((w.alloc (.cells #[.string ⟨#[]⟩, .string ⟨#[]⟩, .int .i64 0] 43)).alloc (.cells #[.string (st k), .string (st q), .int .i64 a] 43))) := HB.out.alloc HB.out.size _
  have c1 : (w.alloc (.cells #[.string ⟨#[]⟩, .string ⟨#[]⟩, .int .i64 0] 43)).cell? ⟨b, 1, none⟩ = _ := (h.keep HB.out).cell1
  obtain ⟨d0, d1, d2⟩ := cells3 (hrow.keep HB.out) hx
  have HR1 : Hid (Blk ((w.alloc (.cells #[.string ⟨#[]⟩, .string ⟨#[]⟩, .int .i64 0] 43)).alloc (.cells #[.string (st k), .string (st q), .int .i64 a] 43)) w.heap.size 43 #[.string ⟨#[]⟩, .string ⟨#[]⟩, .int .i64 0]) := (Blk.new w _ _).alloc _
  have HX1 : Hid (Blk ((w.alloc (.cells #[.string ⟨#[]⟩, .string ⟨#[]⟩, .int .i64 0] 43)).alloc (.cells #[.string (st k), .string (st q), .int .i64 a] 43)) (w.heap.size + 1) 43 #[.string (st k), .string (st q), .int .i64 a]) := by
    have := Blk.new (w.alloc (.cells #[.string ⟨#[]⟩, .string ⟨#[]⟩, .int .i64 0] 43)) 43 #[.string (st k), .string (st q), .int .i64 a]
    show Blk _ _ _ _
    simpa using this
  have HBL : Hid (b < w.heap.size) := h.box.lt
  have HRW := Lib.hid hrow
  have HSW : Hid (((w.alloc (.cells #[.string ⟨#[]⟩, .string ⟨#[]⟩, .int .i64 0] 43)).alloc (.cells #[.string (st k), .string (st q), .int .i64 a] 43)).heap.size = w.heap.size + 2) := by show _ = _; simp
  obtain ⟨n, hn⟩ : ∃ n, n = Q.length := ⟨_, rfl⟩
  have HN := Lib.hid hn
  rw [← hn] at c1 hl hlt
  have hin : (i : Int) < (n : Int) := by omega
  have hi0 : ¬ (i : Int) < 0 := by omega
  have hi1 : (0 : Int) ≤ (i : Int) := by omega
  clear h hx hrow hn
  go_enter Try.func7, Try.ntmps7
  go_wp2
  clear c1 d0 d1 d2
  generalize (w.alloc (.cells #[.string ⟨#[]⟩, .string ⟨#[]⟩, .int .i64 0] 43)).alloc (.cells #[.string (st k), .string (st q), .int .i64 a] 43) = w1 at HB2 HR1 HX1 HSW ⊢
  go_loopg [7, 8] n (fun gk o i2 wr => ∃ (m n1 : Nat) (v : Value), m ≤ n ∧ i2 = .int .i64 m ∧ v = o ∧ n - m ≤ gk ∧ n1 ≤ m ∧ Hid (n1 = ((Q.take m).eraseIdx i).length) ∧ Hid (wr.ownsRow (w.heap.size + 2) 43 3 v n1 (((Q.take m).eraseIdx i).flatMap cRp)) ∧ Hid (Below (w.heap.size + 2) w1 wr))
  case atStart => exact ⟨0, 0, _, Nat.zero_le _, rfl, rfl, by omega, Nat.le_refl _, rfl, World.ownsRow_nil _ _ _ _, Below.refl _ _⟩
  case round =>
    obtain ⟨m, n1, v, hm, rfl, rfl, hgk, hn1, HN1, HOW, HBW⟩ := hrel
    have HBS : Hid (w.heap.size + 2 ≤ wr.heap.size) := by rw [← HSW.out]; have := HBW.out.size; exact this
    have HB3 : Hid (Below w.heap.size w wr) := HB2.out.trans (bel_lessG HBW.out (by omega))
    have hGr := HG.out.keep HB3.out
    have c1 := hGr.cell1
    rw [← HN.out] at c1
    by_cases hmn : m < n
    · obtain ⟨y, hy⟩ : ∃ y, Q[m]? = some y := ⟨_, List.getElem?_eq_getElem (by rw [← HN.out]; exact hmn)⟩
      obtain ⟨f0, f1, f2⟩ := cells3 (HRW.out.keep HB3.out) hy
      have hmz : (0 : Int) ≤ (m : Int) := by omega
      have hmn2 : (m : Int) < (n : Int) := by omega
      obtain ⟨p1, p2, p3⟩ := y
      simp only at f0 f1 f2
      by_cases hmi : m = i
      · subst hmi
        have HE := Lib.hid (out_one hy)
        clear hGr hy
        go_wp2
        go_roundg (n - (m + 1))
        case measure => omega
        case rel => exact ⟨m + 1, n1, v, by omega, by go_num, rfl, by omega, by omega, by show _ = _; rw [HE.out]; exact HN1.out, by rw [HE.out]; exact HOW.out, HBW.out⟩
      · have HE := Lib.hid (out_more hy hmi)
        have hne : ((m : Int) == (i : Int)) = false := by rw [beq_eq_false_iff_ne]; omega
        clear hGr hy
        go_wp2_with (first | (at_builtin; refine wpList_append_struct rfl (.tmp 40) (.tmp 48) 31 rfl (w.heap.size + 2) 43 _ 3 40 Try.underlying31 infoRRp rfl (by decide) _ _ rfl (by simp [Value.oneCell']) v n1 _ rfl rfl HOW.out HBS.out (by unfold maxLen; omega) (by omega) ?_; intro v5 w5 h1 h2; have HO5 := Lib.hid h1; have HB5 : Hid (Below (w.heap.size + 2) w1 w5) := HBW.out.trans h2; clear h1 h2) | fail)
        go_roundg (n - (m + 1))
        case measure => omega
        case rel => exact ⟨m + 1, n1 + 1, v5, by omega, by go_num, rfl, by omega, by omega, by show _ = _; rw [HE.out, List.length_append, ← HN1.out]; rfl, by rw [HE.out, List.flatMap_append]; show World.ownsRow _ _ _ _ _ _ _; simpa [cRp] using HO5.out, HB5.out⟩
    · have e : m = n := by omega
      have HTK : Hid (Q.take m = Q) := List.take_of_length_le (by rw [← HN.out]; omega)
      have ho := HOW.out
      have hn1e := HN1.out
      rw [HTK.out] at ho hn1e
      have hkx := HX1.out.below HBW.out (by omega)
      have hkr := HR1.out.below HBW.out (by omega)
      have hgz : GateP 33 52 43 B (wr.setCell ⟨b, 1, none⟩ v) b L (Q.eraseIdx i) v1 v := GateP.put2 HG.out.ty HG.out.hb hGr.box hGr.one (by rw [← hn1e]; exact own_baseG ho (by have := HG.out.hb; have := HBL.out; omega))
      have hx2 := hkx.other (a := ⟨b, 1, none⟩) (fun e => by have := HBL.out; simp only at e; omega) v
      have hr2 := hkr.other (a := ⟨b, 1, none⟩) (fun e => by have := HBL.out; simp only at e; omega) v
      have HGZ := Lib.hid hgz
      have HR2 := Lib.hid hr2
      have e1f := hGr.box.frozen 1
      have q0 := hx2.cell 0
      have q1 := hx2.cell 1
      have q2 := hx2.cell 2
      have r0 := hr2.cell 0
      have r1 := hr2.cell 1
      have r2 := hr2.cell 2
      have f0 := hr2.frozen 0
      have f1 := hr2.frozen 1
      have f2 := hr2.frozen 2
      simp only [List.getElem?_toArray, List.getElem?_cons_zero, List.getElem?_cons_succ] at q0 q1 q2 r0 r1 r2
      have HNEW : Hid (∀ k, v.ownBlock = some k → w.heap.size + 2 ≤ k) := fun k hk => (ho.lt k hk).1
      have HS2 : Hid (Stp (fpG b v1 (.slice (some ⟨g, off, none⟩) n cp)) w (wr.setCell ⟨b, 1, none⟩ v)) := (Stp.of_below (fp := fpG b v1 (.slice (some ⟨g, off, none⟩) n cp)) HB3.out).setCell (.inl (mem_fpG.2 (.inl rfl))) _
      obtain ⟨va, vc, hvv⟩ := own_sliceG ho
      have hone : v.oneCell' = true := by rw [hvv]; rfl
      clear hgk hm hn1 HN1 HOW ho hn1e HTK hkx hkr hgz hx2 hr2 hGr
      subst e
      subst hvv
      go_wp2
      refine bodyPost_ret (rrp_ret rfl w.heap.size rfl (k, q, a) _ true (((HR2.out.set 0 _).set 1 _).set 2 _) rfl) rfl ⟨rfl, ?_⟩
      obtain ⟨v, hvv⟩ : ∃ v, v = Value.slice va n1 vc := ⟨_, rfl⟩
      rw [← hvv] at HGZ HS2 HNEW ⊢
      have hs3 := (((Stp.refl [w.heap.size] (wr.setCell ⟨b, 1, none⟩ v)).setCell (x := ⟨w.heap.size, 0, none⟩) (.inl (by simp)) (.string (st k))).setCell (x := ⟨w.heap.size, 1, none⟩) (.inl (by simp)) (.string (st q))).setCell (x := ⟨w.heap.size, 2, none⟩) (.inl (by simp)) (.int .i64 a)
      refine ⟨v1, v, HGZ.out.stp hs3 (fun k hk hm => ?_), ?_, fun k hk => ?_⟩
      · rw [List.mem_singleton] at hm
        rcases mem_fpG.1 hk with h | h | h
        · have := HBL.out; omega
        · have := (HG.out.lt k (mem_fpG.2 (.inr (.inl h)))).1; omega
        · have := HNEW.out k h; omega
      · rw [← HN.out]
        exact HS2.out.trans hs3 (fun k hk => by rw [List.mem_singleton] at hk; exact .inr (by omega))
      · rcases mem_fpG.1 hk with h | h | h
        · exact .inl (mem_fpG.2 (.inl h))
        · exact .inl (mem_fpG.2 (.inr (.inl h)))
        · exact .inr (by have := HNEW.out k h; omega)
end Go.Proofs.Ytkhkcpoadccflaa
