/-
  Contracts of lex.name, numberOrRate.
-/
import Derived.Test.YtjegfoeempojiaaDoorLexC
import Derived.Laws.Rows
import Derived.Laws.ResultCell
namespace Go.Proofs.YtjegfoeempojiaaDoor
open Go.RowKit

/-- a token, and where it begins -/
def tkV (t : Tk) (p : Nat) : Value := .agg #[.int .i64 (t.1 : Int), .string (st t.2.1), .int .i64 (t.2.2 : Int), .int .i64 (p : Int)]
def tkR : Option Tk → Value
  | some t => .tuple #[tkV t 0, .bool true]
  | none => .tuple #[tkV (0, [], 0) 0, .bool false]

theorem tok_ret {fn : Func} (h : fn.results = #[.cell 2 55, .tmp 3]) {tmps : Array Value} {W : World} (g : Nat) (hp : tmps.getD 2 undef = .pointer (some ⟨g, 0, none⟩)) (t : Tk) (fr : Nat × Nat) (b : Bool)
    (hg : W.heap[g]? = some (.cells #[.int .i64 (t.1 : Int), .string (st t.2.1), .int .i64 (t.2.2 : Int), .int .i64 0] 55 fr)) (hb : tmps.getD 3 undef = .bool b) :
    (results fn tmps).run Tryd.prog W = .ok (.tuple #[tkV t 0, .bool b]) W := by
  have hp' : tmps[2]?.getD undef = .pointer (some ⟨g, 0, none⟩) := by simpa using hp
  have hb' : tmps[3]?.getD undef = .bool b := by simpa using hb
  rw [results_cell_tmp h]
  simp [hp', hb', asAddr, Result.andThen, run_loadVar_row W g 55 55 _ fr _ hg Tryd.underlying55 rfl (by kernel_rfl), tkV]

set_option maxHeartbeats 1000000 in
theorem name_any (l : List UInt8) (w : World) (hl : l.length ≤ 4611686018427387904) :
    Calls Tryd.prog 30 #[.string (st l)] w fun e w' => e = .returned (tkR (nmL l)) ∧ Below w.heap.size w w' := by
  have HL : ∀ W, Hid (Calls Tryd.prog 38 #[.string (st l), .func (.func 29) #[] #[]] W fun e w' => e = .returned (.string (st (l.takeWhile isLet))) ∧ W = w') := fun W => longLet l W hl
  obtain ⟨T, hT⟩ : ∃ T, T = l.takeWhile isLet := ⟨_, rfl⟩
  obtain ⟨n, hn⟩ : ∃ n, n = T.length := ⟨_, rfl⟩
  have hnr : n ≤ l.length := by rw [hn, hT]; exact (List.takeWhile_sublist _).length_le
  have hsz : (st T).size = n := by rw [st_size, hn]
  have hR0 : Hid (nmL l = if 20 < n then none else some (0, T, 0)) := by show _ = _; rw [hn, hT]; rfl
  have hn2 : n ≤ 4611686018427387904 := by omega
  rw [← hT] at HL
  clear hT hn hnr hl
  go_enter Tryd.func30, Tryd.ntmps30
  by_cases h1 : 20 < n
  · have h1' : (20 : Int) < (n : Int) := by omega
    have HR : Hid (nmL l = none) := by show _ = _; rw [hR0.out, if_pos h1]
    clear hR0
    go_wp2_with (first | (go_at_call 38; refine (HL _).out.mono ?_; rintro e w' ⟨rfl, rfl⟩) | fail)
    refine bodyPost_ret (tok_ret rfl w.heap.size rfl (0, [], 0) _ false (heap_alloc_new _ _) rfl) rfl ⟨?_, (Below.refl w.heap.size w).alloc (Nat.le_refl _) _⟩
    rw [HR.out]
    rfl
  · have h1' : ¬ (20 : Int) < (n : Int) := by omega
    have HR : Hid (nmL l = some (0, T, 0)) := by show _ = _; rw [hR0.out, if_neg h1]
    clear hR0
    go_wp2_with (first | (go_at_call 38; refine (HL _).out.mono ?_; rintro e w' ⟨rfl, rfl⟩) | fail)
    refine bodyPost_ret (tok_ret rfl w.heap.size rfl (0, T, 0) _ true (heap_alloc_new _ _) rfl) rfl ⟨?_, (Below.refl w.heap.size w).alloc (Nat.le_refl _) _⟩
    rw [HR.out]
    rfl

theorem st_tl (l : List UInt8) : (st l).toList = l := by rw [Go.Lib.toList_data, st_toList]

set_option maxHeartbeats 1000000 in
theorem number_any (l : List UInt8) (w : World) (hl : l.length ≤ 4611686018427387904) :
    Calls Tryd.prog 32 #[.string (st l)] w fun e w' => e = .returned (tkR (nrL l)) ∧ Below w.heap.size w w' := by
  have HL : ∀ W, Hid (Calls Tryd.prog 38 #[.string (st l), .func (.func 31) #[] #[]] W fun e w' => e = .returned (.string (st (l.takeWhile isFig))) ∧ W = w') := fun W => longFig l W hl
  have hsl := st_size l
  obtain ⟨T, hT⟩ : ∃ T, T = l.takeWhile isFig := ⟨_, rfl⟩
  obtain ⟨n, hn⟩ : ∃ n, n = T.length := ⟨_, rfl⟩
  have hnr : n ≤ l.length := by rw [hn, hT]; exact (List.takeWhile_sublist _).length_le
  have hsz : (st T).size = n := by rw [st_size, hn]
  have hfig : ∀ c ∈ T, isFig c = true := by intro c hc; rw [hT] at hc; exact mem_takeWhile_fig hc
  obtain ⟨e, he⟩ : ∃ e, e = rEnd (l.drop n) := ⟨_, rfl⟩
  have hR0 : Hid (nrL l = if 16 < n then none else if e = [] then some (1, T, woL T) else if 1000000 < woL T then none else some (2, l.take (n + e.length), woL T * 100 + huL e)) := by show _ = _; rw [he, hn, hT]; rfl
  have hex : (st l).extract n l.length = st (l.drop n) := st_drop_to l n _ rfl
  have HE : ∀ W, Hid (Calls Tryd.prog 40 #[.string (st (l.drop n))] W fun x w' => x = .returned (.string (st e)) ∧ W = w') := fun W => by rw [he]; exact rateEnd_any (l.drop n) W (by simp; omega)
  rw [← hT] at HL
  by_cases h1 : 16 < n
  · have h1' : (16 : Int) < (n : Int) := by omega
    have HR : Hid (nrL l = none) := by show _ = _; rw [hR0.out, if_pos h1]
    clear hR0 hT hn he HE hex hsl hfig
    generalize l.length = m at hl hnr
    go_enter Tryd.func32, Tryd.ntmps32
    go_wp2_with (first | (go_at_call 38; refine (HL _).out.mono ?_; rintro e w' ⟨rfl, rfl⟩) | fail)
    refine bodyPost_ret (tok_ret rfl w.heap.size rfl (0, [], 0) _ false (heap_alloc_new _ _) rfl) rfl ⟨?_, (Below.refl w.heap.size w).alloc (Nat.le_refl _) _⟩
    rw [HR.out]
    rfl
  have h1' : ¬ (16 : Int) < (n : Int) := by omega
  have HW : ∀ W, Hid (Calls Tryd.prog 39 #[.string (st T)] W fun x w' => x = .returned (.int .i64 ((woL T : Nat) : Int)) ∧ W = w') := fun W => worth_any T W (by omega) hfig
  have hwl := woL_lt _ T rfl hfig
  have hwl2 : woL T < 10000000000000000 := by
    have h2 : 10 ^ T.length ≤ 10 ^ 16 := Nat.pow_le_pow_right (by omega) (by omega)
    have h3 : (10 : Nat) ^ 16 = 10000000000000000 := by decide
    omega
  clear hwl
  obtain ⟨v, hv⟩ : ∃ v, v = woL T := ⟨_, rfl⟩
  rw [← hv] at hwl2 HW hR0
  by_cases h2 : e = []
  · have HR : Hid (nrL l = some (1, T, v)) := by show _ = _; rw [hR0.out, if_neg h1, if_pos h2]
    rw [h2] at HE
    have hne : (st []).toList.isEmpty = true := by rw [st_tl]; rfl
    clear hR0 hT hn he h2 hfig hv
    generalize l.length = m at hl hnr hsl hex
    go_enter Tryd.func32, Tryd.ntmps32
    go_wp2_with (first | (go_at_call 38; refine (HL _).out.mono ?_; rintro e w' ⟨rfl, rfl⟩) | (go_at_call 39; refine (HW _).out.mono ?_; rintro e w' ⟨rfl, rfl⟩) | (go_at_call 40; refine (HE _).out.mono ?_; rintro e w' ⟨rfl, rfl⟩) | fail)
    refine bodyPost_ret (tok_ret rfl w.heap.size rfl (1, T, v) _ true (heap_alloc_new _ _) rfl) rfl ⟨?_, (Below.refl w.heap.size w).alloc (Nat.le_refl _) _⟩
    rw [HR.out]
    rfl
  have hne : (st e).toList.isEmpty = false := by
    rw [st_tl]
    cases e with
    | nil => exact absurd rfl h2
    | cons x r => rfl
  by_cases h3 : 1000000 < v
  · have h3' : (1000000 : Int) < (v : Int) := by omega
    have HR : Hid (nrL l = none) := by show _ = _; rw [hR0.out, if_neg h1, if_neg h2, if_pos h3]
    clear hR0 hT hn he h2 hfig hv
    generalize l.length = m at hl hnr hsl hex
    go_enter Tryd.func32, Tryd.ntmps32
    go_wp2_with (first | (go_at_call 38; refine (HL _).out.mono ?_; rintro e w' ⟨rfl, rfl⟩) | (go_at_call 39; refine (HW _).out.mono ?_; rintro e w' ⟨rfl, rfl⟩) | (go_at_call 40; refine (HE _).out.mono ?_; rintro e w' ⟨rfl, rfl⟩) | fail)
    refine bodyPost_ret (tok_ret rfl w.heap.size rfl (0, [], 0) _ false (heap_alloc_new _ _) rfl) rfl ⟨?_, (Below.refl w.heap.size w).alloc (Nat.le_refl _) _⟩
    rw [HR.out]
    rfl
  have h3' : ¬ (1000000 : Int) < (v : Int) := by omega
  have HR : Hid (nrL l = some (2, l.take (n + e.length), v * 100 + huL e)) := by show _ = _; rw [hR0.out, if_neg h1, if_neg h2, if_neg h3]
  have h2e : rEnd (l.drop n) ≠ [] := by rw [← he]; exact h2
  obtain ⟨g, hg, hg2, hgt, he4, heL, _⟩ := rEnd_cases _ h2e
  have hu := huL_lt _ h2e
  rw [← he] at hgt he4 heL hu
  rw [List.length_drop] at heL
  have HH : ∀ W, Hid (Calls Tryd.prog 41 #[.string (st e)] W fun x w' => x = .returned (.int .i64 ((huL e : Nat) : Int)) ∧ Below W.heap.size W w') := fun W => hund_any e g W hg hg2 hgt he4
  have hse := st_size e
  have hex2 : (st l).extract 0 (n + e.length) = st (l.take (n + e.length)) := by rw [st_extract]; rfl
  generalize huL e = u at hu HH HR
  generalize e.length = k at hse hex2 HR he4 heL
  clear hR0 hT hn he h2 hfig hv hg hg2 hgt h2e
  generalize l.length = m at hl hnr hsl hex heL
  go_enter Tryd.func32, Tryd.ntmps32
  go_wp2_with (first | (go_at_call 38; refine (HL _).out.mono ?_; rintro e w' ⟨rfl, rfl⟩) | (go_at_call 39; refine (HW _).out.mono ?_; rintro e w' ⟨rfl, rfl⟩) | (go_at_call 40; refine (HE _).out.mono ?_; rintro e w' ⟨rfl, rfl⟩) | fail)
  obtain ⟨p, hp⟩ : ∃ p, p = n + k := ⟨_, rfl⟩
  obtain ⟨r, hr⟩ : ∃ r, r = v * 100 + u := ⟨_, rfl⟩
  rw [← hp] at hex2 HR
  rw [← hr] at HR
  have i1 : IntKind.i64.wrap ((n : Int) + (k : Int)) = (p : Int) := by rw [IntWalk.i64_in _ (by omega)]; omega
  have i2 : IntKind.i64.wrap ((v : Int) * 100) = (v : Int) * 100 := IntWalk.i64_in _ (by omega)
  have i3 : IntKind.i64.wrap ((v : Int) * 100 + (u : Int)) = (r : Int) := by rw [IntWalk.i64_in _ (by omega)]; omega
  have b0 : (0 : Int) ≤ (p : Int) := by omega
  have b1 : (p : Int) ≤ (m : Int) := by omega
  clear hp hr
  go_region_with (first
    | (go_at_call 41; refine (HH _).out.mono ?_; rintro e w1 ⟨rfl, B1⟩
       have HK : Blk w1 w.heap.size 55 #[.int .i64 0, .string ⟨#[]⟩, .int .i64 0, .int .i64 0] := (B1.block w.heap.size (Blk.new w 55 _).lt).trans (Blk.new w 55 _)
       have c0 := HK.cell 0
       have c1 := HK.cell 1
       have c2 := HK.cell 2
       have c3 := HK.cell 3
       have f0 := HK.frozen 0
       have f1 := HK.frozen 1
       have f2 := HK.frozen 2
       have f3 := HK.frozen 3
       have HK2 := Lib.hid HK
       have HB := Lib.hid B1
       clear HK B1)
    | fail)
  go_wp2
  refine bodyPost_ret (tok_ret rfl w.heap.size rfl (2, l.take p, r) _ true ((((HK2.out.set 0 _).set 1 _).set 2 _).set 3 _) rfl) rfl ⟨?_, ?_⟩
  · rw [HR.out]
    rfl
  · have B0 : Below w.heap.size w w1 := ((Below.refl w.heap.size w).alloc (Nat.le_refl _) _).drew.trans (HB.out.mono (Nat.le_of_lt (Blk.new w 55 _).lt))
    exact (((B0.setCell (Nat.le_refl _) _).setCell (Nat.le_refl _) _).setCell (Nat.le_refl _) _).setCell (Nat.le_refl _) _
end Go.Proofs.YtjegfoeempojiaaDoor
