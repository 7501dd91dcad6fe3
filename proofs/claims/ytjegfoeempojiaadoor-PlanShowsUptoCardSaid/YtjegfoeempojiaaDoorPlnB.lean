/-
  Contract of the document's One.
-/
import Derived.Test.YtjegfoeempojiaaDoorPlnA
import Derived.Test.YtjegfoeempojiaaDoorLexE
namespace Go.Proofs.YtjegfoeempojiaaDoor
open Go.RowKit

/-- what a rate's end is, by its length -/
theorem rEnd_forms (l : List UInt8) : rEnd l = [] ∨ ((rEnd l).length = 1 ∧ 1 ≤ l.length ∧ huL (rEnd l) = 0) ∨
    ((rEnd l).length = 3 ∧ 3 ≤ l.length ∧ (∀ c ∈ (l.drop 1).take 1, isFig c = true) ∧ huL (rEnd l) = 10 * woL ((l.drop 1).take 1)) ∨
    ((rEnd l).length = 4 ∧ 4 ≤ l.length ∧ (∀ c ∈ (l.drop 1).take 2, isFig c = true) ∧ huL (rEnd l) = woL ((l.drop 1).take 2)) := by
  cases l with
  | nil => exact .inl rfl
  | cons c r =>
    by_cases h1 : c = 37
    · subst h1
      refine .inr (.inl ⟨rfl, by simp, ?_⟩)
      show woL ((Go.Lib.trimS [37] [46, 37] ++ [48, 48]).take 2) = 0
      decide
    by_cases h2 : c = 46
    · subst h2
      obtain ⟨f, hf⟩ : ∃ f, f = r.takeWhile isFig := ⟨_, rfl⟩
      have e0 : rEnd (46 :: r) = if f.length < 1 ∨ 2 < f.length ∨ (r.drop f.length).head? ≠ some 37 then [] else (46 :: r).take (f.length + 2) := by rw [hf]; rfl
      by_cases hc : f.length < 1 ∨ 2 < f.length ∨ (r.drop f.length).head? ≠ some 37
      · rw [if_pos hc] at e0; exact .inl e0
      · rw [if_neg hc] at e0
        have k1 : 1 ≤ f.length := by omega
        have k2 : f.length ≤ 2 := by omega
        have k3 : (r.drop f.length).head? = some 37 := by
          rcases Decidable.em ((r.drop f.length).head? = some 37) with k | k
          · exact k
          · exact absurd (.inr (.inr k)) hc
        have hfig : ∀ c ∈ f, isFig c = true := by intro c hc; rw [hf] at hc; exact mem_takeWhile_fig hc
        have hd : r = f ++ r.drop f.length := by
          have := List.takeWhile_append_dropWhile (p := isFig) (l := r)
          have e2 : r.drop f.length = r.dropWhile isFig := by rw [hf]; exact drop_takeWhile r
          rw [e2, hf]; exact this.symm
        cases hq : r.drop f.length with
        | nil => rw [hq] at k3; simp at k3
        | cons x q =>
          rw [hq] at k3 hd
          simp at k3
          subst k3
          have e3 : rEnd (46 :: r) = 46 :: (f ++ [37]) := by
            rw [e0, hd, List.take_succ_cons]
            congr 1
            exact take_one_more f q 37
          have hhu : huL (rEnd (46 :: r)) = woL ((f ++ [48, 48]).take 2) := by
            unfold huL
            rw [e3, trimS_fig f hfig k1]
          have htk : ∀ n, n = f.length → ((46 :: r).drop 1).take n = f := by
            intro n hn
            rw [hd, hn]
            show (f ++ 37 :: q).take f.length = f
            rw [List.take_left]
          match f, k1, k2, hfig, hd, e3, hhu, htk with
          | [a], _, _, hfig, hd, e3, hhu, htk =>
            refine .inr (.inr (.inl ⟨by rw [e3]; rfl, by rw [hd]; simp, by rw [htk 1 rfl]; exact hfig, ?_⟩))
            rw [hhu, htk 1 rfl]
            show (0 * 10 + (a.toNat - 48)) * 10 + ((48 : UInt8).toNat - 48) = 10 * (0 * 10 + (a.toNat - 48))
            have : (48 : UInt8).toNat = 48 := rfl
            omega
          | [a, b], _, _, hfig, hd, e3, hhu, htk =>
            refine .inr (.inr (.inr ⟨by rw [e3]; rfl, by rw [hd]; simp, by rw [htk 2 rfl]; exact hfig, ?_⟩))
            rw [hhu, htk 2 rfl]
            rfl
          | [], k1, _, _, _, _, _, _ => exact absurd k1 (by simp)
          | a :: b :: c :: f', _, k2, _, _, _, _, _ => exact absurd k2 (by simp)
    · exact .inl (rEnd_else r h1 h2)

/-- what One answers -/
def oneV : Except Nat Tk → Value
  | .ok t => .tuple #[tkV t 0, .int .i64 (t.2.1.length : Nat), .int .i64 0]
  | .error x => .tuple #[tkV (0, [], 0) 0, .int .i64 0, .int .i64 (x : Nat)]

theorem results_cell_tmp_tmp {fn : Func} {p u v : Tmp} {ty : TypeId} (h : fn.results = #[.cell p ty, .tmp u, .tmp v]) (tmps : Array Value) (P : Program) (w : World) :
    (results fn tmps).run P w = (do let x ← loadVar ty (← asAddr (tmps.getD p undef)); pure (.tuple #[x, tmps.getD u undef, tmps.getD v undef]) : Sem Value).run P w := by
  simp [results, h]

theorem one_ret {fn : Func} (h : fn.results = #[.cell 2 66, .tmp 3, .tmp 4]) {tmps : Array Value} {W : World} (g : Nat) (hp : tmps.getD 2 undef = .pointer (some ⟨g, 0, none⟩)) (t : Tk) (fr : Nat × Nat) (n x : Int)
    (hg : W.heap[g]? = some (.cells #[.int .i64 (t.1 : Int), .string (st t.2.1), .int .i64 (t.2.2 : Int), .int .i64 0] 66 fr)) (hn : tmps.getD 3 undef = .int .i64 n) (hx : tmps.getD 4 undef = .int .i64 x) :
    (results fn tmps).run Tryd.prog W = .ok (.tuple #[tkV t 0, .int .i64 n, .int .i64 x]) W := by
  have hp' : tmps[2]?.getD undef = .pointer (some ⟨g, 0, none⟩) := by simpa using hp
  have hn' : tmps[3]?.getD undef = .int .i64 n := by simpa using hn
  have hx' : tmps[4]?.getD undef = .int .i64 x := by simpa using hx
  rw [results_cell_tmp_tmp h]
  simp [hp', hn', hx', asAddr, Result.andThen, run_loadVar_row W g 66 66 _ fr _ hg Tryd.underlying66 rfl (by kernel_rfl), tkV]

theorem oneL_59 (l : List UInt8) : oneL 59 l = .ok (3, [59], 0) := if_pos rfl
theorem oneL_let {c : UInt8} {l : List UInt8} (h59 : ¬ c = 59) (hl : isLet c = true) : oneL c l = (match nmL l with | some t => .ok t | none => .error 2) := by
  unfold oneL; rw [if_neg h59, if_pos hl]; cases nmL l <;> rfl
theorem oneL_fig {c : UInt8} {l : List UInt8} (h59 : ¬ c = 59) (hl : isLet c = false) (hf : isFig c = true) : oneL c l = (match nrL l with | some t => .ok t | none => .error 2) := by
  unfold oneL; rw [if_neg h59, if_neg (by rw [hl]; simp), if_pos hf]; cases nrL l <;> rfl
theorem oneL_no {c : UInt8} {l : List UInt8} (h59 : ¬ c = 59) (hl : isLet c = false) (hf : isFig c = false) : oneL c l = .error 3 := by
  unfold oneL; rw [if_neg h59, if_neg (by rw [hl]; simp), if_neg (by rw [hf]; simp)]

theorem takeWhile_take {p : UInt8 → Bool} (l : List UInt8) : l.take (l.takeWhile p).length = l.takeWhile p := by
  exact (List.prefix_iff_eq_take.1 (List.takeWhile_prefix p)).symm

set_option maxHeartbeats 4000000 in
set_option maxRecDepth 100000 in
theorem rone_any (l : List UInt8) (w : World) (h1 : 1 ≤ l.length) (hl : l.length ≤ 4611686018427387904) :
    Calls Tryd.prog 37 #[.string (st l)] w fun e w' => e = .returned (oneV (oneL (l.getD 0 0) l)) ∧ Below w.heap.size w w' := by
  have hsz := st_size l
  obtain ⟨N, hN⟩ : ∃ N, N = l.length := ⟨_, rfl⟩
  have HN := Lib.hid hN
  rw [← hN] at hsz h1 hl
  clear hN
  have hat := st_at l 0 (by rw [hsz]; exact h1)
  obtain ⟨c, hc⟩ : ∃ c, c = l.getD 0 0 := ⟨_, rfl⟩
  have HC := Lib.hid hc
  rw [← hc] at hat ⊢
  clear hc
  have HLt : ∀ W, Hid (Calls Tryd.prog 43 #[.int .u8 ((c.toNat : Nat) : Int)] W fun e w' => e = .returned (.bool (isLet c)) ∧ W = w') := fun W => rletter_any _ W
  have HFg : ∀ W, Hid (Calls Tryd.prog 44 #[.int .u8 ((c.toNat : Nat) : Int)] W fun e w' => e = .returned (.bool (isFig c)) ∧ W = w') := fun W => rdigit_any _ W
  have HLg0 : ∀ b W, Hid (Calls Tryd.prog 45 #[.string (st l), .bool b] W fun e w' => e = .returned (.int .i64 (longL b l : Nat)) ∧ W = w') := fun b W => rlong_any b l W (by rw [← HN.out]; exact hl)
  have hz1 : (0 : Int) < (N : Int) := by omega
  by_cases h59 : c = 59
  · subst h59
    have hl59 : isLet 59 = false := by decide
    have hf59 : isFig 59 = false := by decide
    rw [hl59] at HLt
    rw [hf59] at HFg
    have HLg := HLg0 false
    have HR : Hid (oneL 59 l = .ok (3, [59], 0)) := oneL_59 l
    clear HLg0
    go_enter Tryd.func37, Tryd.ntmps37
    go_wp2_with (first
      | (go_at_call 43; refine (HLt _).out.mono ?_; rintro e w' ⟨rfl, rfl⟩)
      | (go_at_call 44; refine (HFg _).out.mono ?_; rintro e w' ⟨rfl, rfl⟩)
      | (go_at_call 45; refine (HLg _).out.mono ?_; rintro e w' ⟨rfl, rfl⟩)
      | fail)
    refine bodyPost_ret (one_ret rfl w.heap.size rfl (3, [59], 0) _ 1 0 (heap_alloc_new _ _) rfl rfl) rfl ⟨?_, (Below.refl w.heap.size w).alloc (Nat.le_refl _) _⟩
    rw [HR.out]
    rfl
  have hne : ¬ (c.toNat = 59) := fun e => h59 (UInt8.toNat_inj.1 (by rw [e]; rfl))
  have hne2 : ¬ ((c.toNat : Int) = 59) := by omega
  cases hlet : isLet c with
  | true =>
    rw [hlet] at HLt
    have HLg := HLg0 true
    obtain ⟨n, hn⟩ : ∃ n, n = longL true l := ⟨_, rfl⟩
    have hnl : n ≤ N := by rw [hn, HN.out]; exact (List.takeWhile_sublist _).length_le
    have hex : (st l).extract 0 n = st (l.take n) := by rw [st_extract]; rfl
    have HR0 : Hid (oneL c l = if 20 < n then .error 2 else .ok (0, l.take n, 0)) := by
      show _ = _
      rw [oneL_let h59 hlet, hn]
      unfold longL
      rw [takeWhile_take]
      unfold nmL
      show (match (if 20 < (l.takeWhile isLet).length then none else some (0, l.takeWhile isLet, 0)) with | some t => Except.ok t | none => Except.error 2) = _
      by_cases hb : 20 < (l.takeWhile isLet).length
      · rw [if_pos hb]; exact (if_pos hb).symm
      · rw [if_neg hb]; exact (if_neg hb).symm
    have hlt : (l.take n).length = n := by rw [List.length_take, ← HN.out]; omega
    rw [← hn] at HLg
    clear HLg0 h59 hlet hn hne
    by_cases h20 : 20 < n
    · have HR : Hid (oneL c l = .error 2) := by show _ = _; rw [HR0.out, if_pos h20]
      have k1 : ¬ ((n : Int) ≤ 20) := by omega
      clear HR0
      go_enter Tryd.func37, Tryd.ntmps37
      go_wp2_with (first
        | (go_at_call 43; refine (HLt _).out.mono ?_; rintro e w' ⟨rfl, rfl⟩)
        | (go_at_call 44; refine (HFg _).out.mono ?_; rintro e w' ⟨rfl, rfl⟩)
        | (go_at_call 45; refine (HLg _).out.mono ?_; rintro e w' ⟨rfl, rfl⟩)
        | fail)
      refine bodyPost_ret (one_ret rfl w.heap.size rfl (0, [], 0) _ 0 2 (heap_alloc_new _ _) rfl rfl) rfl ⟨?_, (Below.refl w.heap.size w).alloc (Nat.le_refl _) _⟩
      rw [HR.out]
      rfl
    · have HR : Hid (oneL c l = .ok (0, l.take n, 0)) := by show _ = _; rw [HR0.out, if_neg h20]
      have k1 : (n : Int) ≤ 20 := by omega
      have HLT := Lib.hid hlt
      clear HR0 hlt
      go_enter Tryd.func37, Tryd.ntmps37
      go_wp2_with (first
        | (go_at_call 43; refine (HLt _).out.mono ?_; rintro e w' ⟨rfl, rfl⟩)
        | (go_at_call 44; refine (HFg _).out.mono ?_; rintro e w' ⟨rfl, rfl⟩)
        | (go_at_call 45; refine (HLg _).out.mono ?_; rintro e w' ⟨rfl, rfl⟩)
        | fail)
      refine bodyPost_ret (one_ret rfl w.heap.size rfl (0, l.take n, 0) _ (n : Int) 0 (heap_alloc_new _ _) rfl rfl) rfl ⟨?_, (Below.refl w.heap.size w).alloc (Nat.le_refl _) _⟩
      rw [HR.out]
      show _ = Ending.returned (.tuple #[tkV (0, l.take n, 0) 0, .int .i64 ((l.take n).length : Nat), .int .i64 0])
      rw [HLT.out]
  | false =>
    rw [hlet] at HLt
    have HLg := HLg0 false
    cases hfig : isFig c with
    | false =>
      rw [hfig] at HFg
      have HR : Hid (oneL c l = .error 3) := oneL_no h59 hlet hfig
      clear HLg0 h59 hlet hfig hne
      go_enter Tryd.func37, Tryd.ntmps37
      go_wp2_with (first
        | (go_at_call 43; refine (HLt _).out.mono ?_; rintro e w' ⟨rfl, rfl⟩)
        | (go_at_call 44; refine (HFg _).out.mono ?_; rintro e w' ⟨rfl, rfl⟩)
        | (go_at_call 45; refine (HLg _).out.mono ?_; rintro e w' ⟨rfl, rfl⟩)
        | fail)
      refine bodyPost_ret (one_ret rfl w.heap.size rfl (0, [], 0) _ 0 3 (heap_alloc_new _ _) rfl rfl) rfl ⟨?_, (Below.refl w.heap.size w).alloc (Nat.le_refl _) _⟩
      rw [HR.out]
      rfl
    | true =>
      rw [hfig] at HFg
      obtain ⟨T, hT⟩ : ∃ T, T = l.takeWhile isFig := ⟨_, rfl⟩
      obtain ⟨n, hn⟩ : ∃ n, n = T.length := ⟨_, rfl⟩
      have hlg : longL false l = n := by rw [hn, hT]; rfl
      have hnl : n ≤ N := by rw [hn, hT, HN.out]; exact (List.takeWhile_sublist _).length_le
      have htk : l.take n = T := by rw [hn, hT]; exact takeWhile_take l
      have hTf : ∀ c ∈ T, isFig c = true := by intro c hc; rw [hT] at hc; exact mem_takeWhile_fig hc
      have hex : (st l).extract 0 n = st T := by rw [← htk, st_extract]; rfl
      have hex2 : (st l).extract n N = st (l.drop n) := st_drop_to l n N HN.out
      have HNR : Hid (nrL l = if 16 < n then none else if rEnd (l.drop n) = [] then some (1, T, woL T) else if 1000000 < woL T then none else some (2, l.take (n + (rEnd (l.drop n)).length), woL T * 100 + huL (rEnd (l.drop n)))) := by show _ = _; rw [hn, hT]; rfl
      have HO : Hid (oneL c l = (match nrL l with | some t => .ok t | none => .error 2)) := oneL_fig h59 hlet hfig
      have HTN := Lib.hid hn
      rw [hlg] at HLg
      clear HLg0 h59 hlet hfig hne hT hlg htk
      by_cases h16 : 16 < n
      · have HR : Hid (oneL c l = .error 2) := by show _ = _; rw [HO.out, HNR.out, if_pos h16]
        have k1 : (16 : Int) < (n : Int) := by omega
        have HRt : ∀ W, Hid (Calls Tryd.prog 46 #[.string (st (l.drop n))] W fun e w' => e = .returned (.int .i64 ((rEnd (l.drop n)).length : Nat)) ∧ W = w') := fun W => rrate_any _ W (by rw [List.length_drop, ← HN.out]; omega)
        have HVl := HRt
        clear HO HNR hTf h16 hn
        go_enter Tryd.func37, Tryd.ntmps37
        go_wp2_with (first
          | (go_at_call 43; refine (HLt _).out.mono ?_; rintro e w' ⟨rfl, rfl⟩)
          | (go_at_call 44; refine (HFg _).out.mono ?_; rintro e w' ⟨rfl, rfl⟩)
          | (go_at_call 45; refine (HLg _).out.mono ?_; rintro e w' ⟨rfl, rfl⟩)
          | (go_at_call 46; refine (HRt _).out.mono ?_; rintro e w' ⟨rfl, rfl⟩)
          | (go_at_call 47; with_reducible refine (HVl _).out.mono ?_; rintro e w' ⟨rfl, rfl⟩)
          | fail)
        refine bodyPost_ret (one_ret rfl w.heap.size rfl (0, [], 0) _ 0 2 (heap_alloc_new _ _) rfl rfl) rfl ⟨?_, (Below.refl w.heap.size w).alloc (Nat.le_refl _) _⟩
        rw [HR.out]
        rfl
      have k1 : ¬ ((16 : Int) < (n : Int)) := by omega
      have HRt : ∀ W, Hid (Calls Tryd.prog 46 #[.string (st (l.drop n))] W fun e w' => e = .returned (.int .i64 ((rEnd (l.drop n)).length : Nat)) ∧ W = w') := fun W => rrate_any _ W (by rw [List.length_drop, ← HN.out]; omega)
      have HVl : ∀ W, Hid (Calls Tryd.prog 47 #[.string (st T)] W fun e w' => e = .returned (.int .i64 ((woL T : Nat) : Int)) ∧ W = w') := fun W => rvalue_any T W (by omega) hTf
      have hwl := woL_lt _ T rfl hTf
      have hwl2 : woL T < 10000000000000000 := by
        have h2 : 10 ^ T.length ≤ 10 ^ 16 := Nat.pow_le_pow_right (by omega) (by omega)
        have h3 : (10 : Nat) ^ 16 = 10000000000000000 := by decide
        omega
      obtain ⟨v, hv⟩ : ∃ v, v = woL T := ⟨_, rfl⟩
      rw [← hv] at hwl2 HVl HNR
      obtain ⟨D, hD⟩ : ∃ D, D = l.drop n := ⟨_, rfl⟩
      have hDl : D.length = N - n := by rw [hD, List.length_drop, ← HN.out]
      have HDD : Hid (∀ j, (st l).extract (n + 1) (n + 1 + j) = st ((D.drop 1).take j)) := by
        intro j
        rw [st_extract, hD, List.drop_drop, show n + 1 + j - (n + 1) = j by omega]
      rw [← hD] at HRt HNR hex2
      have hforms := rEnd_forms D
      clear hwl hv hD hTf hn
      rcases hforms with h | ⟨e1, e2, e3⟩ | ⟨e1, e2, e3, e4⟩ | ⟨e1, e2, e3, e4⟩
      · have HR : Hid (oneL c l = .ok (1, T, v)) := by show _ = _; rw [HO.out, HNR.out, if_neg h16, if_pos h]
        rw [h] at HRt
        clear HO HNR h h16 HDD
        go_enter Tryd.func37, Tryd.ntmps37
        go_wp2_with (first
          | (go_at_call 43; refine (HLt _).out.mono ?_; rintro e w' ⟨rfl, rfl⟩)
          | (go_at_call 44; refine (HFg _).out.mono ?_; rintro e w' ⟨rfl, rfl⟩)
          | (go_at_call 45; refine (HLg _).out.mono ?_; rintro e w' ⟨rfl, rfl⟩)
          | (go_at_call 46; refine (HRt _).out.mono ?_; rintro e w' ⟨rfl, rfl⟩)
          | (go_at_call 47; with_reducible refine (HVl _).out.mono ?_; rintro e w' ⟨rfl, rfl⟩)
          | fail)
        refine bodyPost_ret (one_ret rfl w.heap.size rfl (1, T, v) _ (n : Nat) 0 (heap_alloc_new _ _) rfl rfl) rfl ⟨?_, (Below.refl w.heap.size w).alloc (Nat.le_refl _) _⟩
        rw [HR.out]
        show _ = Ending.returned (.tuple #[tkV (1, T, v) 0, .int .i64 (((1, T, v)).2.1.length : Nat), .int .i64 0])
        rw [show ((1, T, v) : Tk).2.1.length = n from HTN.out.symm]
      · have hne0 : rEnd D ≠ [] := by intro h; rw [h] at e1; cases e1
        have HNR2 : Hid (nrL l = if 1000000 < v then none else some (2, l.take (n + 1), v * 100 + huL (rEnd D))) := by show _ = _; rw [HNR.out, if_neg h16, if_neg hne0, e1]
        rw [e1] at HRt
        clear HNR hne0 h16
        by_cases h6 : 1000000 < v
        · have HR : Hid (oneL c l = .error 2) := by show _ = _; rw [HO.out, HNR2.out, if_pos h6]
          have k2 : (1000000 : Int) < (v : Int) := by omega
          clear HO HNR2 h6 HDD
          go_enter Tryd.func37, Tryd.ntmps37
          go_wp2_with (first
            | (go_at_call 43; refine (HLt _).out.mono ?_; rintro e w' ⟨rfl, rfl⟩)
            | (go_at_call 44; refine (HFg _).out.mono ?_; rintro e w' ⟨rfl, rfl⟩)
            | (go_at_call 45; refine (HLg _).out.mono ?_; rintro e w' ⟨rfl, rfl⟩)
            | (go_at_call 46; refine (HRt _).out.mono ?_; rintro e w' ⟨rfl, rfl⟩)
            | (go_at_call 47; with_reducible refine (HVl _).out.mono ?_; rintro e w' ⟨rfl, rfl⟩)
            | fail)
          refine bodyPost_ret (one_ret rfl w.heap.size rfl (0, [], 0) _ 0 2 (heap_alloc_new _ _) rfl rfl) rfl ⟨?_, (Below.refl w.heap.size w).alloc (Nat.le_refl _) _⟩
          rw [HR.out]
          rfl
        have k2 : ¬ ((1000000 : Int) < (v : Int)) := by omega
        obtain ⟨p, hp⟩ : ∃ p, p = n + 1 := ⟨_, rfl⟩
        have hex3 : (st l).extract 0 p = st (l.take p) := by rw [st_extract]; rfl
        have HTP : Hid ((l.take p).length = p) := by show _ = _; rw [List.length_take, ← HN.out]; omega
        have i0 : IntKind.i64.wrap ((n : Int) + 1) = (p : Int) := by rw [IntWalk.i64_in _ (by omega)]; omega
        have i1 : (0 : Int) ≤ (p : Int) := by omega
        have i2 : (p : Int) ≤ (N : Int) := by omega
        have i3 : IntKind.i64.wrap (100 * (v : Int)) = 100 * (v : Int) := IntWalk.i64_in _ (by omega)
        obtain ⟨r, hr⟩ : ∃ r, r = v * 100 := ⟨_, rfl⟩
        have i4 : 100 * (v : Int) = (r : Int) := by omega
        have HR : Hid (oneL c l = .ok (2, l.take p, r)) := by show _ = _; rw [HO.out, HNR2.out, if_neg h6, e3, hp, hr]; rfl
        have H4 := Lib.hid i4
        clear HO HNR2 h6 HDD hp hr e3 i4
        go_enter Tryd.func37, Tryd.ntmps37
        go_wp2_with (first
          | (go_at_call 43; refine (HLt _).out.mono ?_; rintro e w' ⟨rfl, rfl⟩)
          | (go_at_call 44; refine (HFg _).out.mono ?_; rintro e w' ⟨rfl, rfl⟩)
          | (go_at_call 45; refine (HLg _).out.mono ?_; rintro e w' ⟨rfl, rfl⟩)
          | (go_at_call 46; refine (HRt _).out.mono ?_; rintro e w' ⟨rfl, rfl⟩)
          | (go_at_call 47; with_reducible refine (HVl _).out.mono ?_; rintro e w' ⟨rfl, rfl⟩)
          | fail)
        rw [H4.out]
        refine bodyPost_ret (one_ret rfl w.heap.size rfl (2, l.take p, r) _ (p : Nat) 0 (heap_alloc_new _ _) rfl rfl) rfl ⟨?_, (Below.refl w.heap.size w).alloc (Nat.le_refl _) _⟩
        rw [HR.out]
        show _ = Ending.returned (.tuple #[tkV (2, l.take p, r) 0, .int .i64 (((2, l.take p, r)).2.1.length : Nat), .int .i64 0])
        rw [show ((2, l.take p, r) : Tk).2.1.length = p from HTP.out]
      · have hne0 : rEnd D ≠ [] := by intro h; rw [h] at e1; cases e1
        have HNR2 : Hid (nrL l = if 1000000 < v then none else some (2, l.take (n + 3), v * 100 + huL (rEnd D))) := by show _ = _; rw [HNR.out, if_neg h16, if_neg hne0, e1]
        rw [e1] at HRt
        clear HNR hne0 h16
        by_cases h6 : 1000000 < v
        · have HR : Hid (oneL c l = .error 2) := by show _ = _; rw [HO.out, HNR2.out, if_pos h6]
          have k2 : (1000000 : Int) < (v : Int) := by omega
          clear HO HNR2 h6 HDD
          go_enter Tryd.func37, Tryd.ntmps37
          go_wp2_with (first
            | (go_at_call 43; refine (HLt _).out.mono ?_; rintro e w' ⟨rfl, rfl⟩)
            | (go_at_call 44; refine (HFg _).out.mono ?_; rintro e w' ⟨rfl, rfl⟩)
            | (go_at_call 45; refine (HLg _).out.mono ?_; rintro e w' ⟨rfl, rfl⟩)
            | (go_at_call 46; refine (HRt _).out.mono ?_; rintro e w' ⟨rfl, rfl⟩)
            | (go_at_call 47; with_reducible refine (HVl _).out.mono ?_; rintro e w' ⟨rfl, rfl⟩)
            | fail)
          refine bodyPost_ret (one_ret rfl w.heap.size rfl (0, [], 0) _ 0 2 (heap_alloc_new _ _) rfl rfl) rfl ⟨?_, (Below.refl w.heap.size w).alloc (Nat.le_refl _) _⟩
          rw [HR.out]
          rfl
        have k2 : ¬ ((1000000 : Int) < (v : Int)) := by omega
        obtain ⟨p, hp⟩ : ∃ p, p = n + 3 := ⟨_, rfl⟩
        have hex3 : (st l).extract 0 p = st (l.take p) := by rw [st_extract]; rfl
        have HTP : Hid ((l.take p).length = p) := by show _ = _; rw [List.length_take, ← HN.out]; omega
        have i0 : IntKind.i64.wrap ((n : Int) + 3) = (p : Int) := by rw [IntWalk.i64_in _ (by omega)]; omega
        have i1 : (0 : Int) ≤ (p : Int) := by omega
        have i2 : (p : Int) ≤ (N : Int) := by omega
        have i3 : IntKind.i64.wrap (100 * (v : Int)) = 100 * (v : Int) := IntWalk.i64_in _ (by omega)
        obtain ⟨a, ha⟩ : ∃ a, a = n + 1 := ⟨_, rfl⟩
        obtain ⟨b, hb⟩ : ∃ b, b = n + 1 + 1 := ⟨_, rfl⟩
        have hex4 : (st l).extract a b = st ((D.drop 1).take 1) := by rw [ha, hb]; exact HDD.out 1
        have i5 : IntKind.i64.wrap ((n : Int) + 1) = (a : Int) := by rw [IntWalk.i64_in _ (by omega)]; omega
        have i6 : IntKind.i64.wrap ((n : Int) + 2) = (b : Int) := by rw [IntWalk.i64_in _ (by omega)]; omega
        have i7 : (0 : Int) ≤ (a : Int) := by omega
        have i8 : (a : Int) ≤ (b : Int) := by omega
        have i9 : (b : Int) ≤ (N : Int) := by omega
        have hul : ((D.drop 1).take 1).length ≤ 16 := by rw [List.length_take]; omega
        have HV2 : ∀ W, Hid (Calls Tryd.prog 47 #[.string (st ((D.drop 1).take 1))] W fun e w' => e = .returned (.int .i64 ((woL ((D.drop 1).take 1) : Nat) : Int)) ∧ W = w') := fun W => rvalue_any _ W hul e3
        have hu0 := woL_lt _ ((D.drop 1).take 1) rfl e3
        have hu : woL ((D.drop 1).take 1) < 100 := by
          have h2 : 10 ^ ((D.drop 1).take 1).length ≤ 10 ^ 2 := Nat.pow_le_pow_right (by omega) (by rw [List.length_take]; exact Nat.le_trans (Nat.min_le_left _ _) (by decide))
          have h3 : (10 : Nat) ^ 2 = 100 := by decide
          omega
        obtain ⟨u, hue⟩ : ∃ u, u = woL ((D.drop 1).take 1) := ⟨_, rfl⟩
        rw [← hue] at hu HV2 e4
        obtain ⟨X, hX⟩ : ∃ X, X = (D.drop 1).take 1 := ⟨_, rfl⟩
        rw [← hX] at HV2 hex4
        obtain ⟨r, hr⟩ : ∃ r, r = v * 100 + 10 * u := ⟨_, rfl⟩
        have HR : Hid (oneL c l = .ok (2, l.take p, r)) := by show _ = _; rw [HO.out, HNR2.out, if_neg h6, e4, hp, hr]
        have ia : IntKind.i64.wrap (10 * (u : Int)) = 10 * (u : Int) := IntWalk.i64_in _ (by omega)
        have ib : IntKind.i64.wrap (100 * (v : Int) + 10 * (u : Int)) = (r : Int) := by rw [IntWalk.i64_in _ (by omega)]; omega
        clear HO HNR2 h6 HDD hp hr e3 e4 ha hb hu0 hue hul hX
        go_enter Tryd.func37, Tryd.ntmps37
        go_wp2_with (first
          | (go_at_call 43; refine (HLt _).out.mono ?_; rintro e w' ⟨rfl, rfl⟩)
          | (go_at_call 44; refine (HFg _).out.mono ?_; rintro e w' ⟨rfl, rfl⟩)
          | (go_at_call 45; refine (HLg _).out.mono ?_; rintro e w' ⟨rfl, rfl⟩)
          | (go_at_call 46; refine (HRt _).out.mono ?_; rintro e w' ⟨rfl, rfl⟩)
          | (go_at_call 47; with_reducible refine (HVl _).out.mono ?_; rintro e w' ⟨rfl, rfl⟩)
          | (go_at_call 47; with_reducible refine (HV2 _).out.mono ?_; rintro e w' ⟨rfl, rfl⟩)
          | fail)
        refine bodyPost_ret (one_ret rfl w.heap.size rfl (2, l.take p, r) _ (p : Nat) 0 (heap_alloc_new _ _) rfl rfl) rfl ⟨?_, (Below.refl w.heap.size w).alloc (Nat.le_refl _) _⟩
        rw [HR.out]
        show _ = Ending.returned (.tuple #[tkV (2, l.take p, r) 0, .int .i64 (((2, l.take p, r)).2.1.length : Nat), .int .i64 0])
        rw [show ((2, l.take p, r) : Tk).2.1.length = p from HTP.out]
      · have hne0 : rEnd D ≠ [] := by intro h; rw [h] at e1; cases e1
        have HNR2 : Hid (nrL l = if 1000000 < v then none else some (2, l.take (n + 4), v * 100 + huL (rEnd D))) := by show _ = _; rw [HNR.out, if_neg h16, if_neg hne0, e1]
        rw [e1] at HRt
        clear HNR hne0 h16
        by_cases h6 : 1000000 < v
        · have HR : Hid (oneL c l = .error 2) := by show _ = _; rw [HO.out, HNR2.out, if_pos h6]
          have k2 : (1000000 : Int) < (v : Int) := by omega
          clear HO HNR2 h6 HDD
          go_enter Tryd.func37, Tryd.ntmps37
          go_wp2_with (first
            | (go_at_call 43; refine (HLt _).out.mono ?_; rintro e w' ⟨rfl, rfl⟩)
            | (go_at_call 44; refine (HFg _).out.mono ?_; rintro e w' ⟨rfl, rfl⟩)
            | (go_at_call 45; refine (HLg _).out.mono ?_; rintro e w' ⟨rfl, rfl⟩)
            | (go_at_call 46; refine (HRt _).out.mono ?_; rintro e w' ⟨rfl, rfl⟩)
            | (go_at_call 47; with_reducible refine (HVl _).out.mono ?_; rintro e w' ⟨rfl, rfl⟩)
            | fail)
          refine bodyPost_ret (one_ret rfl w.heap.size rfl (0, [], 0) _ 0 2 (heap_alloc_new _ _) rfl rfl) rfl ⟨?_, (Below.refl w.heap.size w).alloc (Nat.le_refl _) _⟩
          rw [HR.out]
          rfl
        have k2 : ¬ ((1000000 : Int) < (v : Int)) := by omega
        obtain ⟨p, hp⟩ : ∃ p, p = n + 4 := ⟨_, rfl⟩
        have hex3 : (st l).extract 0 p = st (l.take p) := by rw [st_extract]; rfl
        have HTP : Hid ((l.take p).length = p) := by show _ = _; rw [List.length_take, ← HN.out]; omega
        have i0 : IntKind.i64.wrap ((n : Int) + 4) = (p : Int) := by rw [IntWalk.i64_in _ (by omega)]; omega
        have i1 : (0 : Int) ≤ (p : Int) := by omega
        have i2 : (p : Int) ≤ (N : Int) := by omega
        have i3 : IntKind.i64.wrap (100 * (v : Int)) = 100 * (v : Int) := IntWalk.i64_in _ (by omega)
        obtain ⟨a, ha⟩ : ∃ a, a = n + 1 := ⟨_, rfl⟩
        obtain ⟨b, hb⟩ : ∃ b, b = n + 1 + 2 := ⟨_, rfl⟩
        have hex4 : (st l).extract a b = st ((D.drop 1).take 2) := by rw [ha, hb]; exact HDD.out 2
        have i5 : IntKind.i64.wrap ((n : Int) + 1) = (a : Int) := by rw [IntWalk.i64_in _ (by omega)]; omega
        have i6 : IntKind.i64.wrap ((n : Int) + 3) = (b : Int) := by rw [IntWalk.i64_in _ (by omega)]; omega
        have i7 : (0 : Int) ≤ (a : Int) := by omega
        have i8 : (a : Int) ≤ (b : Int) := by omega
        have i9 : (b : Int) ≤ (N : Int) := by omega
        have hul : ((D.drop 1).take 2).length ≤ 16 := by rw [List.length_take]; omega
        have HV2 : ∀ W, Hid (Calls Tryd.prog 47 #[.string (st ((D.drop 1).take 2))] W fun e w' => e = .returned (.int .i64 ((woL ((D.drop 1).take 2) : Nat) : Int)) ∧ W = w') := fun W => rvalue_any _ W hul e3
        have hu0 := woL_lt _ ((D.drop 1).take 2) rfl e3
        have hu : woL ((D.drop 1).take 2) < 100 := by
          have h2 : 10 ^ ((D.drop 1).take 2).length ≤ 10 ^ 2 := Nat.pow_le_pow_right (by omega) (by rw [List.length_take]; exact Nat.le_trans (Nat.min_le_left _ _) (by decide))
          have h3 : (10 : Nat) ^ 2 = 100 := by decide
          omega
        obtain ⟨u, hue⟩ : ∃ u, u = woL ((D.drop 1).take 2) := ⟨_, rfl⟩
        rw [← hue] at hu HV2 e4
        obtain ⟨X, hX⟩ : ∃ X, X = (D.drop 1).take 2 := ⟨_, rfl⟩
        rw [← hX] at HV2 hex4
        obtain ⟨r, hr⟩ : ∃ r, r = v * 100 + u := ⟨_, rfl⟩
        have HR : Hid (oneL c l = .ok (2, l.take p, r)) := by show _ = _; rw [HO.out, HNR2.out, if_neg h6, e4, hp, hr]
        have ib : IntKind.i64.wrap (100 * (v : Int) + (u : Int)) = (r : Int) := by rw [IntWalk.i64_in _ (by omega)]; omega
        clear HO HNR2 h6 HDD hp hr e3 e4 ha hb hu0 hue hul hX
        go_enter Tryd.func37, Tryd.ntmps37
        go_wp2_with (first
          | (go_at_call 43; refine (HLt _).out.mono ?_; rintro e w' ⟨rfl, rfl⟩)
          | (go_at_call 44; refine (HFg _).out.mono ?_; rintro e w' ⟨rfl, rfl⟩)
          | (go_at_call 45; refine (HLg _).out.mono ?_; rintro e w' ⟨rfl, rfl⟩)
          | (go_at_call 46; refine (HRt _).out.mono ?_; rintro e w' ⟨rfl, rfl⟩)
          | (go_at_call 47; with_reducible refine (HVl _).out.mono ?_; rintro e w' ⟨rfl, rfl⟩)
          | (go_at_call 47; with_reducible refine (HV2 _).out.mono ?_; rintro e w' ⟨rfl, rfl⟩)
          | fail)
        refine bodyPost_ret (one_ret rfl w.heap.size rfl (2, l.take p, r) _ (p : Nat) 0 (heap_alloc_new _ _) rfl rfl) rfl ⟨?_, (Below.refl w.heap.size w).alloc (Nat.le_refl _) _⟩
        rw [HR.out]
        show _ = Ending.returned (.tuple #[tkV (2, l.take p, r) 0, .int .i64 (((2, l.take p, r)).2.1.length : Nat), .int .i64 0])
        rw [show ((2, l.take p, r) : Tk).2.1.length = p from HTP.out]
end Go.Proofs.YtjegfoeempojiaaDoor
