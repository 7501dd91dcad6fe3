/-
  Contract of Book.added.
-/
import Derived.Test.YteclhcjfnmkkjaaBkF
import Derived.Test.YteclhcjfnmkkjaaOrdG
namespace Go.Proofs.Yteclhcjfnmkkjaa
open Go.RowKit Go.Lib

/-- what a book's field leads to -/
def PMap (w : World) (mb : Option Nat) (n : Nat) (f : Ac → Option Int) : Prop := (mb = none ∧ ∀ a, f a = none) ∨ ∃ bm, mb = some bm ∧ MA w bm n f
theorem PMap.since {w w' : World} {mb : Option Nat} {n : Nat} {f : Ac → Option Int} (h : PMap w mb n f) (hb : Below w.heap.size w w') : PMap w' mb n f := by
  rcases h with h | ⟨bm, e, h⟩
  · exact .inl h
  · exact .inr ⟨bm, e, h.since hb⟩
theorem PMap.amt {w : World} {mb : Option Nat} {n : Nat} {f : Ac → Option Int} (h : PMap w mb n f) (a : Ac) : Amt ((f a).getD 0) := by
  rcases h with ⟨_, h⟩ | ⟨bm, _, h⟩
  · rw [h a]; exact ⟨by decide, by decide⟩
  · exact h.amt a
theorem PMap.look {w : World} {mb : Option Nat} {n : Nat} {f : Ac → Option Int} (h : PMap w mb n f) {a : Ac} (ha : OkA a) : (Instr.lookup 49 (.map mb) (kv a) false).run Try.prog w = .ok (.int .i64 ((f a).getD 0)) w := by
  rcases h with ⟨e, h⟩ | ⟨bm, e, h⟩
  · rw [e, h a]
    have := Maps.look_nil (w := w) false lawA Try.underlying49 (zeroI w) (keyOf_kv ha)
    simpa using this
  · rw [e]; exact h.look KA ha

theorem run_makeMapN (n : Int) (w : World) : (Instr.makeMap 49 (some (.int .i64 n))).run Try.prog w = .ok (.map (some w.heap.size)) (w.alloc (.map #[] 0)) := by
  simp [Instr.makeMap, run_underlying Try.underlying49, Result.andThen, go_sem]

theorem ok1_A {x : Ln} (h : Ok1 x) : OkA x.1 := by
  obtain ⟨h1, h2, h3, _⟩ := h
  unfold OkA maxLen
  omega

/-- a box's three cells that are its account -/
structure Box3 (p : Nat) (x : Ln) (mb : Option Nat) (bb : Nat) (v : Int) (w : World) : Prop where
  k : w.cell? ⟨p, 0, none⟩ = some (.string (st x.1.1))
  q : w.cell? ⟨p, 1, none⟩ = some (.string (st x.1.2.1))
  c : w.cell? ⟨p, 2, none⟩ = some (.string (st x.1.2.2))
  m : w.cell? ⟨bb, 0, none⟩ = some (.map mb)
  look : (Instr.lookup 49 (.map mb) (.agg #[.string (st x.1.1), .string (st x.1.2.1), .string (st x.1.2.2)]) false).run Try.prog w = .ok (.int .i64 v) w

/-- what is changed: the balances as they would be, or what is wrong -/
def AddedTo (m l : List Ln) (B : Nat) (w' : World) (e : Ending) : Prop :=
  (addL m l = none ∧ e = .returned (.tuple #[.map none, .int .i64 2])) ∨
  ∃ (bc : Nat) (mk : List Ln) (g : Ac → Option Int), e = .returned (.tuple #[.map (some bc), .int .i64 0]) ∧ AdAt m l l.length mk g ∧ MA w' bc l.length g ∧ B ≤ bc

set_option maxHeartbeats 8000000 in
set_option maxRecDepth 100000 in
theorem added_any (bb : Nat) (mb : Option Nat) (nb : Nat) (f : Ac → Option Int) (m : List Ln) (a : Option Addr) (c : Nat) (l : List Ln) (w : World) (hb : Blk w bb 51 #[.map mb]) (hm : PMap w mb nb f) (hf : Fn m f) (hs : Srt m) (hz : Nz m)
    (hr : RowL w a l) (hl : l.length ≤ 2097152) (hk : OkLs l) :
    Calls Try.prog 22 #[.pointer (some ⟨bb, 0, none⟩), .slice a l.length c] w fun e w' => AddedTo m l w.heap.size w' e ∧ Below w.heap.size w w' := by
  obtain ⟨n, hn⟩ : ∃ n, n = l.length := ⟨_, rfl⟩
  have HN := Lib.hid hn
  have HR := Lib.hid hr
  have HK := Lib.hid hk
  have HBK := Lib.hid hb
  have HPM := Lib.hid hm
  have HF := Lib.hid hf
  have HS0 := Lib.hid hs
  have HZ0 := Lib.hid hz
  rw [← hn] at hl ⊢
  have HM0 : Hid (MA (w.alloc (.map #[] 0)) w.heap.size 0 (fun _ => none)) := MapF.made w
  have hmm := run_makeMapN
  clear hn hr hk hb hm hf hs hz
  go_enter Try.func22, Try.ntmps22
  go_wp2
  go_loopg [8, 9, 10, 11, 12, 18] n (fun gk _ _ _ _ _ i wr => ∃ (k : Nat) (mk : List Ln) (g : Ac → Option Int), k ≤ n ∧ i = .int .i64 k ∧ n - k ≤ gk ∧ Hid (AdAt m l k mk g) ∧ Hid (MA wr w.heap.size k g) ∧ Hid (Below w.heap.size w wr))
  case atStart => exact ⟨0, m, fun _ => none, Nat.zero_le _, rfl, by omega, AdAt.start m l, HM0.out, (Below.refl _ _).alloc (Nat.le_refl _) _⟩
  case round =>
    clear HM0 hmm
    obtain ⟨k, mk, g, hk, rfl, hgk, HE, HM, HB⟩ := hrel
    by_cases hlt : k < n
    · obtain ⟨x, hx⟩ : ∃ x, l[k]? = some x := ⟨_, List.getElem?_eq_getElem (by rw [← HN.out]; exact hlt)⟩
      obtain ⟨b, off, rfl, hc⟩ := (HR.out.keep HB.out) (by rw [← HN.out]; omega)
      have c0 : wr.cell? ⟨b, off + k * 4, none⟩ = some (.string (st x.1.1)) := by simpa using hc k x hx 0 _ rfl
      have c1 := hc k x hx 1 _ rfl
      have c2 := hc k x hx 2 _ rfl
      have c3 := hc k x hx 3 _ rfl
      have hkz : (0 : Int) ≤ (k : Int) := by omega
      have hkn : (k : Int) < (n : Int) := by omega
      have HX := Lib.hid hx
      have hok := HK.out x (List.mem_of_getElem? hx)
      have HC : Hid (OkA x.1) := ok1_A hok
      obtain ⟨s, hs⟩ : ∃ s, s = rGet mk x.1 := ⟨_, rfl⟩
      have HS := Lib.hid hs
      have HFD : Hid ((f x.1).getD 0 = rGet m x.1) := HF.out.getD x.1
      have hbal := HE.out.bal x.1
      rw [← hs] at hbal
      have HAZ : Hid (Amt x.2) := hok.2.2.2
      have HPM2 : Hid (PMap wr mb nb f) := HPM.out.since HB.out
      have HBK2 : Hid (Blk wr bb 51 #[.map mb]) := HBK.out.since HB.out
      have HAS : Hid (Amt s) := by
        rw [← hbal]
        cases hg : g x.1 with
        | none => rw [Option.getD_none, ← HFD.out]; exact HPM.out.amt _
        | some v => have := HM.out.amt x.1; rw [hg] at this; exact this
      obtain ⟨u, hu⟩ : ∃ u, (g x.1).getD 0 = u := ⟨_, rfl⟩
      have HU := Lib.hid hu
      have HBox : Hid (∀ o3 : Value, Box3 wr.heap.size x mb bb ((f x.1).getD 0) (wr.alloc (.cells #[.string (st x.1.1), .string (st x.1.2.1), .string (st x.1.2.2), o3] 42)).drew) := fun o3 => by
        have h1 := Blk.new wr 42 #[.string (st x.1.1), .string (st x.1.2.1), .string (st x.1.2.2), o3]
        exact ⟨h1.cell 0, h1.cell 1, h1.cell 2, (HBK2.out.alloc _).cell 0, (HPM2.out.since (((Below.refl _ _).alloc (Nat.le_refl _) _).drew)).look HC.out⟩
      clear hc hx hok hs hu
      by_cases ha : Amt (s + x.2)
      · have HA := Lib.hid ha
        have H1 : Hid (∀ (W : World) (N : Nat), N = W.heap.size → Calls Try.prog 18 #[.slice (some ⟨N, 0, none⟩) 2 2] (W.alloc (.cells #[.int .i64 s, .int .i64 x.2] 2)) fun e w' => e = .returned (.tuple #[.int .i64 (s + x.2), .int .i64 0]) ∧ W.alloc (.cells #[.int .i64 s, .int .i64 x.2] 2) = w') := fun W N hN => add2_yes s x.2 W N hN HAS.out HAZ.out ha _
        clear ha
        cases hg : g x.1 with
        | some v =>
          rw [hg] at hbal
          have HG : Hid ((g x.1).isSome = true) := by rw [hg]; rfl
          have e1 : u = s := by rw [← HU.out, hg]; exact hbal
          subst e1
          clear hbal hg
          go_wp2_with (first | (at_lookup; refine wpList_look_okF _ KA rfl (.tmp 23) (.tmp 25) rfl w.heap.size k g rfl (HM.out.alloc _) x.1 rfl HC.out u HU.out true HG.out ?_) | fail)
          go_wp2_with fail
          refine (H1.out _ _ (by simp)).mono ?_
          rintro e w1 ⟨rfl, rfl⟩
          clear H1
          go_wp2_with (first | (at_mapUpdate; refine wpList_storeF _ KA rfl (.tmp 49) (.tmp 51) (.tmp 52) rfl w.heap.size k g rfl ((HM.out.alloc _).alloc _) (by unfold maxLen; omega) x.1 rfl HC.out (u + x.2) rfl HA.out ?_; intro w5 hm5 hs5; have HM5 := Lib.hid hm5; have HS5 := Lib.hid hs5; clear hm5 hs5; go_frame) | fail)
          go_roundg (n - (k + 1))
          case measure => omega
          case rel =>
            refine ⟨k + 1, rSet mk (x.1, u + x.2), _, by omega, by go_num, by omega, ?_, HM5.out, ?_⟩
            · have := HE.out.step HS0.out HZ0.out HX.out (by rw [← HS.out]; exact HA.out)
              rw [← HS.out] at this
              exact this
            · exact ((HB.out.alloc HB.out.size _).alloc (by have := HB.out.size; simp; omega) _).trans (HS5.out.below (by simp) (by have := HB.out.size; simp; omega))
        | none =>
          rw [hg, Option.getD_none] at hbal
          have HG : Hid ((g x.1).isSome = false) := by rw [hg]; rfl
          have HSV : Hid ((f x.1).getD 0 = s) := by show _ = _; rw [HFD.out]; exact hbal
          clear hbal hg
          go_wp2_with (first | (at_lookup; refine wpList_look_okF _ KA rfl (.tmp 23) (.tmp 25) rfl w.heap.size k g rfl (HM.out.alloc _) x.1 rfl HC.out u HU.out false HG.out ?_) | fail)
          refine wp_region_E (Box3 wr.heap.size x mb bb s) [] (by kernel_rfl) ?_
          have HSB := HBox.out (.int .i64 x.2)
          rw [HSV.out] at HSB
          have HSB := Lib.hid HSB
          have HMd : Hid (MA (wr.alloc (.cells #[.string (st x.1.1), .string (st x.1.2.1), .string (st x.1.2.2), .int .i64 x.2] 42)).drew w.heap.size k g) := (HM.out.alloc _).heap rfl
          have HBd : Hid (Below w.heap.size w (wr.alloc (.cells #[.string (st x.1.1), .string (st x.1.2.1), .string (st x.1.2.2), .int .i64 x.2] 42)).drew) := (HB.out.alloc HB.out.size _).drew
          have HBx : Hid (Blk (wr.alloc (.cells #[.string (st x.1.1), .string (st x.1.2.1), .string (st x.1.2.2), .int .i64 x.2] 42)).drew wr.heap.size 42 #[.string (st x.1.1), .string (st x.1.2.1), .string (st x.1.2.2), .int .i64 x.2]) := Blk.new wr _ _
          clear HBox HM HB HPM2 HBK2 c0 c1 c2 c3
          generalize (wr.alloc (.cells #[.string (st x.1.1), .string (st x.1.2.1), .string (st x.1.2.2), .int .i64 x.2] 42)).drew = wd at HSB HMd HBd HBx ⊢
          refine wpAnyE_take 0 (some 31) ?_ rfl rfl (by kernel_rfl) (by kernel_rfl) (by kernel_rfl) (by kernel_rfl) (fun _ _ _ h => h) (Or.inl ⟨by rfl, ?_⟩) HSB.out ?_
          rotate_left
          focus (intro wS hSw; have hS0 := hSw.k; have hS1 := hSw.q; have hS2 := hSw.c; have hS3 := hSw.m; have hS4 := hSw.look; clear hSw; go_simp; try (with_reducible rfl))
          simp only [Act.put, List.setIfInBounds_toArray, List.set_cons_zero, List.set_cons_succ]
          refine wpAnyE_take 1 (some 32) ?_ rfl rfl (by kernel_rfl) (by kernel_rfl) (by kernel_rfl) (by kernel_rfl) (fun _ _ _ h => h) (Or.inl ⟨by rfl, ?_⟩) HSB.out ?_
          rotate_left
          focus (intro wS hSw; have hS0 := hSw.k; have hS1 := hSw.q; have hS2 := hSw.c; have hS3 := hSw.m; have hS4 := hSw.look; clear hSw; go_simp; try (with_reducible rfl))
          simp only [Act.put, List.setIfInBounds_toArray, List.set_cons_zero, List.set_cons_succ]
          refine wpAnyE_take 2 (some 33) ?_ rfl rfl (by kernel_rfl) (by kernel_rfl) (by kernel_rfl) (by kernel_rfl) (fun _ _ _ h => h) (Or.inl ⟨by rfl, ?_⟩) HSB.out ?_
          rotate_left
          focus (intro wS hSw; have hS0 := hSw.k; have hS1 := hSw.q; have hS2 := hSw.c; have hS3 := hSw.m; have hS4 := hSw.look; clear hSw; go_simp; try (with_reducible rfl))
          simp only [Act.put, List.setIfInBounds_toArray, List.set_cons_zero, List.set_cons_succ]
          refine wpAnyE_take 3 (some 34) ?_ rfl rfl (by kernel_rfl) (by kernel_rfl) (by kernel_rfl) (by kernel_rfl) (fun _ _ _ h => h) (Or.inl ⟨by rfl, ?_⟩) HSB.out ?_
          rotate_left
          focus (intro wS hSw; have hS0 := hSw.k; have hS1 := hSw.q; have hS2 := hSw.c; have hS3 := hSw.m; have hS4 := hSw.look; clear hSw; go_simp; try (with_reducible rfl))
          simp only [Act.put, List.setIfInBounds_toArray, List.set_cons_zero, List.set_cons_succ]
          refine wpAnyE_take 4 (some 35) ?_ rfl rfl (by kernel_rfl) (by kernel_rfl) (by kernel_rfl) (by kernel_rfl) (fun _ _ _ h => h) (Or.inl ⟨by rfl, ?_⟩) HSB.out ?_
          rotate_left
          focus (intro wS hSw; have hS0 := hSw.k; have hS1 := hSw.q; have hS2 := hSw.c; have hS3 := hSw.m; have hS4 := hSw.look; clear hSw; go_simp; try (with_reducible rfl))
          simp only [Act.put, List.setIfInBounds_toArray, List.set_cons_zero, List.set_cons_succ]
          refine wpAnyE_take 5 (some 36) ?_ rfl rfl (by kernel_rfl) (by kernel_rfl) (by kernel_rfl) (by kernel_rfl) (fun _ _ _ h => h) (Or.inl ⟨by rfl, ?_⟩) HSB.out ?_
          rotate_left
          focus (intro wS hSw; have hS0 := hSw.k; have hS1 := hSw.q; have hS2 := hSw.c; have hS3 := hSw.m; have hS4 := hSw.look; clear hSw; go_simp; try (with_reducible rfl))
          simp only [Act.put, List.setIfInBounds_toArray, List.set_cons_zero, List.set_cons_succ]
          refine wpAnyE_take 6 (some 37) ?_ rfl rfl (by kernel_rfl) (by kernel_rfl) (by kernel_rfl) (by kernel_rfl) (fun _ _ _ h => h) (Or.inl ⟨by rfl, ?_⟩) HSB.out ?_
          rotate_left
          focus (intro wS hSw; have hS0 := hSw.k; have hS1 := hSw.q; have hS2 := hSw.c; have hS3 := hSw.m; have hS4 := hSw.look; clear hSw; go_simp; try (with_reducible rfl))
          simp only [Act.put, List.setIfInBounds_toArray, List.set_cons_zero, List.set_cons_succ]
          refine wpAnyE_take 7 (some 9) ?_ rfl rfl (by kernel_rfl) (by kernel_rfl) (by kernel_rfl) (by kernel_rfl) (fun _ _ _ h => h) (Or.inl ⟨by rfl, ?_⟩) HSB.out ?_
          rotate_left
          focus (intro wS hSw; have hS0 := hSw.k; have hS1 := hSw.q; have hS2 := hSw.c; have hS3 := hSw.m; have hS4 := hSw.look; clear hSw; go_simp; try (with_reducible rfl))
          simp only [Act.put, List.setIfInBounds_toArray, List.set_cons_zero, List.set_cons_succ]
          refine wpAnyE_done (by kernel_rfl) ?_ _
          clear HSB
          have d0 := HBx.out.cell 0
          have d1 := HBx.out.cell 1
          have d2 := HBx.out.cell 2
          have d3 := HBx.out.cell 3
          go_wp2_with fail
          refine (H1.out _ _ rfl).mono ?_
          rintro e w1 ⟨rfl, rfl⟩
          clear H1
          have HBy : Hid (Blk (wd.alloc (.cells #[.int .i64 s, .int .i64 x.2] 2)) wr.heap.size 42 #[.string (st x.1.1), .string (st x.1.2.1), .string (st x.1.2.2), .int .i64 x.2]) := HBx.out.alloc _
          clear d0 d1 d2 d3
          have d0 := HBy.out.cell 0
          have d1 := HBy.out.cell 1
          have d2 := HBy.out.cell 2
          go_wp2_with (first | (at_mapUpdate; refine wpList_storeF _ KA rfl (.tmp 49) (.tmp 51) (.tmp 52) rfl w.heap.size k g rfl (HMd.out.alloc _) (by unfold maxLen; omega) x.1 rfl HC.out (s + x.2) rfl HA.out ?_; intro w5 hm5 hs5; have HM5 := Lib.hid hm5; have HS5 := Lib.hid hs5; clear hm5 hs5; go_frame) | fail)
          go_roundg (n - (k + 1))
          case measure => omega
          case rel =>
            refine ⟨k + 1, rSet mk (x.1, s + x.2), _, by omega, by go_num, by omega, ?_, HM5.out, ?_⟩
            · have := HE.out.step HS0.out HZ0.out HX.out (by rw [← HS.out]; exact HA.out)
              rw [← HS.out] at this
              exact this
            · exact (HBd.out.alloc HBd.out.size _).trans (HS5.out.below (by simp) (by have := HBd.out.size; simp; omega))
      · have HA := Lib.hid (HE.out.fail HX.out (by rw [← HS.out]; exact ha))
        have H1 : Hid (∀ (W : World) (N : Nat), N = W.heap.size → Calls Try.prog 18 #[.slice (some ⟨N, 0, none⟩) 2 2] (W.alloc (.cells #[.int .i64 s, .int .i64 x.2] 2)) fun e w' => e = .returned (.tuple #[.int .i64 0, .int .i64 2]) ∧ W.alloc (.cells #[.int .i64 s, .int .i64 x.2] 2) = w') := fun W N hN => add2_no s x.2 W N hN HAS.out HAZ.out ha _
        clear ha
        cases hg : g x.1 with
        | some v =>
          rw [hg] at hbal
          have HG : Hid ((g x.1).isSome = true) := by rw [hg]; rfl
          have e1 : u = s := by rw [← HU.out, hg]; exact hbal
          subst e1
          clear hbal hg
          go_wp2_with (first | (at_lookup; refine wpList_look_okF _ KA rfl (.tmp 23) (.tmp 25) rfl w.heap.size k g rfl (HM.out.alloc _) x.1 rfl HC.out u HU.out true HG.out ?_) | fail)
          go_wp2_with fail
          refine (H1.out _ _ (by simp)).mono ?_
          rintro e w1 ⟨rfl, rfl⟩
          clear H1
          go_wp2
          go_ret2
          exact ⟨.inl ⟨HA.out, rfl⟩, (HB.out.alloc HB.out.size _).alloc (by have := HB.out.size; simp; omega) _⟩
        | none =>
          rw [hg, Option.getD_none] at hbal
          have HG : Hid ((g x.1).isSome = false) := by rw [hg]; rfl
          have HSV : Hid ((f x.1).getD 0 = s) := by show _ = _; rw [HFD.out]; exact hbal
          clear hbal hg
          go_wp2_with (first | (at_lookup; refine wpList_look_okF _ KA rfl (.tmp 23) (.tmp 25) rfl w.heap.size k g rfl (HM.out.alloc _) x.1 rfl HC.out u HU.out false HG.out ?_) | fail)
          refine wp_region_E (Box3 wr.heap.size x mb bb s) [] (by kernel_rfl) ?_
          have HSB := HBox.out (.int .i64 x.2)
          rw [HSV.out] at HSB
          have HSB := Lib.hid HSB
          have HMd : Hid (MA (wr.alloc (.cells #[.string (st x.1.1), .string (st x.1.2.1), .string (st x.1.2.2), .int .i64 x.2] 42)).drew w.heap.size k g) := (HM.out.alloc _).heap rfl
          have HBd : Hid (Below w.heap.size w (wr.alloc (.cells #[.string (st x.1.1), .string (st x.1.2.1), .string (st x.1.2.2), .int .i64 x.2] 42)).drew) := (HB.out.alloc HB.out.size _).drew
          have HBx : Hid (Blk (wr.alloc (.cells #[.string (st x.1.1), .string (st x.1.2.1), .string (st x.1.2.2), .int .i64 x.2] 42)).drew wr.heap.size 42 #[.string (st x.1.1), .string (st x.1.2.1), .string (st x.1.2.2), .int .i64 x.2]) := Blk.new wr _ _
          clear HBox HM HB HPM2 HBK2 c0 c1 c2 c3
          generalize (wr.alloc (.cells #[.string (st x.1.1), .string (st x.1.2.1), .string (st x.1.2.2), .int .i64 x.2] 42)).drew = wd at HSB HMd HBd HBx ⊢
          refine wpAnyE_take 0 (some 31) ?_ rfl rfl (by kernel_rfl) (by kernel_rfl) (by kernel_rfl) (by kernel_rfl) (fun _ _ _ h => h) (Or.inl ⟨by rfl, ?_⟩) HSB.out ?_
          rotate_left
          focus (intro wS hSw; have hS0 := hSw.k; have hS1 := hSw.q; have hS2 := hSw.c; have hS3 := hSw.m; have hS4 := hSw.look; clear hSw; go_simp; try (with_reducible rfl))
          simp only [Act.put, List.setIfInBounds_toArray, List.set_cons_zero, List.set_cons_succ]
          refine wpAnyE_take 1 (some 32) ?_ rfl rfl (by kernel_rfl) (by kernel_rfl) (by kernel_rfl) (by kernel_rfl) (fun _ _ _ h => h) (Or.inl ⟨by rfl, ?_⟩) HSB.out ?_
          rotate_left
          focus (intro wS hSw; have hS0 := hSw.k; have hS1 := hSw.q; have hS2 := hSw.c; have hS3 := hSw.m; have hS4 := hSw.look; clear hSw; go_simp; try (with_reducible rfl))
          simp only [Act.put, List.setIfInBounds_toArray, List.set_cons_zero, List.set_cons_succ]
          refine wpAnyE_take 2 (some 33) ?_ rfl rfl (by kernel_rfl) (by kernel_rfl) (by kernel_rfl) (by kernel_rfl) (fun _ _ _ h => h) (Or.inl ⟨by rfl, ?_⟩) HSB.out ?_
          rotate_left
          focus (intro wS hSw; have hS0 := hSw.k; have hS1 := hSw.q; have hS2 := hSw.c; have hS3 := hSw.m; have hS4 := hSw.look; clear hSw; go_simp; try (with_reducible rfl))
          simp only [Act.put, List.setIfInBounds_toArray, List.set_cons_zero, List.set_cons_succ]
          refine wpAnyE_take 3 (some 34) ?_ rfl rfl (by kernel_rfl) (by kernel_rfl) (by kernel_rfl) (by kernel_rfl) (fun _ _ _ h => h) (Or.inl ⟨by rfl, ?_⟩) HSB.out ?_
          rotate_left
          focus (intro wS hSw; have hS0 := hSw.k; have hS1 := hSw.q; have hS2 := hSw.c; have hS3 := hSw.m; have hS4 := hSw.look; clear hSw; go_simp; try (with_reducible rfl))
          simp only [Act.put, List.setIfInBounds_toArray, List.set_cons_zero, List.set_cons_succ]
          refine wpAnyE_take 4 (some 35) ?_ rfl rfl (by kernel_rfl) (by kernel_rfl) (by kernel_rfl) (by kernel_rfl) (fun _ _ _ h => h) (Or.inl ⟨by rfl, ?_⟩) HSB.out ?_
          rotate_left
          focus (intro wS hSw; have hS0 := hSw.k; have hS1 := hSw.q; have hS2 := hSw.c; have hS3 := hSw.m; have hS4 := hSw.look; clear hSw; go_simp; try (with_reducible rfl))
          simp only [Act.put, List.setIfInBounds_toArray, List.set_cons_zero, List.set_cons_succ]
          refine wpAnyE_take 5 (some 36) ?_ rfl rfl (by kernel_rfl) (by kernel_rfl) (by kernel_rfl) (by kernel_rfl) (fun _ _ _ h => h) (Or.inl ⟨by rfl, ?_⟩) HSB.out ?_
          rotate_left
          focus (intro wS hSw; have hS0 := hSw.k; have hS1 := hSw.q; have hS2 := hSw.c; have hS3 := hSw.m; have hS4 := hSw.look; clear hSw; go_simp; try (with_reducible rfl))
          simp only [Act.put, List.setIfInBounds_toArray, List.set_cons_zero, List.set_cons_succ]
          refine wpAnyE_take 6 (some 37) ?_ rfl rfl (by kernel_rfl) (by kernel_rfl) (by kernel_rfl) (by kernel_rfl) (fun _ _ _ h => h) (Or.inl ⟨by rfl, ?_⟩) HSB.out ?_
          rotate_left
          focus (intro wS hSw; have hS0 := hSw.k; have hS1 := hSw.q; have hS2 := hSw.c; have hS3 := hSw.m; have hS4 := hSw.look; clear hSw; go_simp; try (with_reducible rfl))
          simp only [Act.put, List.setIfInBounds_toArray, List.set_cons_zero, List.set_cons_succ]
          refine wpAnyE_take 7 (some 9) ?_ rfl rfl (by kernel_rfl) (by kernel_rfl) (by kernel_rfl) (by kernel_rfl) (fun _ _ _ h => h) (Or.inl ⟨by rfl, ?_⟩) HSB.out ?_
          rotate_left
          focus (intro wS hSw; have hS0 := hSw.k; have hS1 := hSw.q; have hS2 := hSw.c; have hS3 := hSw.m; have hS4 := hSw.look; clear hSw; go_simp; try (with_reducible rfl))
          simp only [Act.put, List.setIfInBounds_toArray, List.set_cons_zero, List.set_cons_succ]
          refine wpAnyE_done (by kernel_rfl) ?_ _
          clear HSB
          have d0 := HBx.out.cell 0
          have d1 := HBx.out.cell 1
          have d2 := HBx.out.cell 2
          have d3 := HBx.out.cell 3
          go_wp2_with fail
          refine (H1.out _ _ rfl).mono ?_
          rintro e w1 ⟨rfl, rfl⟩
          clear H1
          have HBy : Hid (Blk (wd.alloc (.cells #[.int .i64 s, .int .i64 x.2] 2)) wr.heap.size 42 #[.string (st x.1.1), .string (st x.1.2.1), .string (st x.1.2.2), .int .i64 x.2]) := HBx.out.alloc _
          clear d0 d1 d2 d3
          have d0 := HBy.out.cell 0
          have d1 := HBy.out.cell 1
          have d2 := HBy.out.cell 2
          go_wp2
          go_ret2
          exact ⟨.inl ⟨HA.out, rfl⟩, HBd.out.alloc HBd.out.size _⟩
    · have e : k = n := by omega
      subst e
      have HE2 : Hid (AdAt m l l.length mk g) := by rw [← HN.out]; exact HE.out
      have HM2 : Hid (MA wr w.heap.size l.length g) := by rw [← HN.out]; exact HM.out
      go_wp2
      go_ret2
      exact ⟨.inr ⟨_, mk, g, rfl, HE2.out, HM2.out, Nat.le_refl _⟩, HB.out⟩
end Go.Proofs.Yteclhcjfnmkkjaa
