/-
  Contracts of disk.Empty, disk.New, disk.Disk.Read.
-/
import Derived.Test.YtbpklikmldpeiaaDskAMA
import Derived.Test.YtbpklikmldpeiaaMA01
import Derived.Deep.AppendLies
namespace Go.Proofs.Ytbpklikmldpeiaa
open Go.RowKit Go.Lib

def zB : Array Value := (List.replicate 64 (Value.int .u8 0) ++ [Value.int .i64 0]).toArray
def zC : Array Value := (List.replicate 64 (Value.int .u8 0)).toArray
def zW : Array Value := (Value.int .i64 0 :: List.replicate 64 (Value.int .u8 0)).toArray
theorem infoDkBlock : (Try.prog.info? 80).map (fun i => (i.zero, i.size, i.bytes)) = some (some (.agg zB), 65, 72) := by kernel_rfl
theorem infoContent : (Try.prog.info? 78).map (fun i => (i.zero, i.size, i.bytes)) = some (some (.agg zC), 64, 64) := by kernel_rfl
theorem infoDkWrite : (Try.prog.info? 84).map (fun i => (i.zero, i.size, i.bytes)) = some (some (.agg zW), 65, 72) := by kernel_rfl

theorem infoU8d : (Try.prog.info? 5).map (fun i => (i.zero, i.size, i.bytes)) = some (some (.int .u8 0), 1, 1) := by kernel_rfl

theorem zW_size : zW.size = 65 := rfl
theorem cW_size {p : Nat × List UInt8} (h : p.2.length = 64) : (cW p).toArray.size = 65 := by rw [List.size_toArray, cW_length h]

theorem bv_z64 : bv z64 = List.replicate 64 (Value.int .u8 0) := by simp [bv, z64]

theorem add_mid0 (b o j : Nat) : (⟨b, o, none⟩ : Addr).add j = ⟨b, o + j, none⟩ := Addr.add_mid b o j

/-- bytes that lie in a block from a place on, as they are converted -/
theorem conv_range {w : World} {b o : Nat} {l : List UInt8} {n : Nat} (h : w.rangeAt b o (bv l)) (hn : n = l.length) (c : Nat) :
    (convert 50 9 (.slice (some ⟨b, o, none⟩) n c)).run Try.prog w = .ok (.string (st l)) w := by
  subst hn
  exact run_convert_bytes_back (P := Try.prog) w 50 9 5 ⟨b, o, none⟩ c l Try.underlying50 Try.underlying5 Try.underlying9 (fun j hj => by
    rw [Addr.add_mid]
    exact h j _ (by simp [bv, hj]))

theorem range_of_blk {w : World} {b : Nat} {t : TypeId} {xs ys zs : List Value} (h : Blk w b t (xs ++ ys ++ zs).toArray) : w.rangeAt b xs.length ys := fun j v hv => by
  rw [h.cell, List.getElem?_toArray]
  have hj := (List.getElem?_eq_some_iff.1 hv).1
  rw [List.append_assoc, List.getElem?_append_right (by omega), List.getElem?_append_left (by omega), Nat.add_sub_cancel_left]
  exact hv

theorem bv_one (l : List UInt8) : ∀ v ∈ bv l, v.oneCell' = true := by
  intro v hv
  unfold bv at hv
  obtain ⟨b, _, rfl⟩ := List.mem_map.1 hv
  rfl

set_option maxRecDepth 100000 in
theorem empty_any (w : World) :
    Calls Try.prog 50 #[] w fun e w' => e = .returned (.string (st z64)) ∧ Below w.heap.size w w' := by
  have hb : Blk (w.alloc (.cells zC 78)) w.heap.size 78 ([] ++ bv z64 ++ []).toArray := by
    rw [bv_z64]; exact Blk.new w _ _
  have hr : (w.alloc (.cells zC 78)).rangeAt w.heap.size 0 (bv z64) := range_of_blk hb
  have hc := conv_range hr (n := 64) (by rw [z64_length]) 64
  clear hb hr
  go_enter Try.func50, Try.ntmps50
  go_wp2_with (refine wpList_alloc_z rfl 78 rfl zC 64 64 infoContent ?_)
  go_ret
  exact ⟨rfl, (Below.refl _ _).alloc (Nat.le_refl _) _⟩

theorem new_no (k : Int) (w : World) (h : k < 0 ∨ 65536 < k) :
    Calls Try.prog 8 #[.int .i64 k] w fun e w' => e = .returned (.pointer none) ∧ w = w' := by
  by_cases h0 : k < 0
  · clear h
    go_enter Try.func8, Try.ntmps8
    go_wp2
    go_ret
    exact ⟨rfl, rfl⟩
  · have h1 : 65536 < k := by omega
    clear h
    go_enter Try.func8, Try.ntmps8
    go_wp2
    go_ret
    exact ⟨rfl, rfl⟩

theorem zB_made (n : Nat) : (madeCells zB (n * 65)).toList = (List.replicate n (z64, 0)).flatMap cB := by
  have hz : zB.size = 65 := by simp [zB]
  have hzl : zB.toList = cB (z64, 0) := by simp [zB, cB, bv_z64]
  have hc : ∀ x ∈ List.replicate n (z64, 0), (cB x).length = 65 := fun x hx => by rw [(List.mem_replicate.1 hx).2]; exact cB_length z64_length
  have hl := flatMap_length cB 65 _ hc
  rw [List.length_replicate] at hl
  apply List.ext_getElem?
  intro j
  by_cases hj : j < n * 65
  · have h1 := flatMap_get cB 65 _ hc (j / 65) (j % 65) (z64, 0) (by rw [List.getElem?_replicate, if_pos (by omega)]) (by omega)
    rw [show j / 65 * 65 + j % 65 = j by omega] at h1
    rw [h1, Array.getElem?_toList]
    unfold madeCells
    rw [Array.getElem?_map, Array.getElem?_range, if_pos hj, Option.map_some, hz, ← hzl, Array.getElem?_toList]
    rw [getElem!_pos zB (j % 65) (by rw [hz]; omega), Array.getElem?_eq_getElem (by rw [hz]; omega)]
  · rw [List.getElem?_eq_none (by rw [Array.length_toList, size_madeCells]; omega), List.getElem?_eq_none (by omega)]

theorem own_blk65 {w : World} {base g n : Nat} {e : TypeId} {xs : List Value} (h : w.ownsRow base e 65 (.slice (some ⟨g, 0, none⟩) n n) n xs) : Blk w g e xs.toArray := by
  rcases h.2 with ⟨hv, _⟩ | ⟨g', cap, cur, hv, _, hg, _, _, hs, ht⟩
  · cases hv
  · injection hv with h1 _ h3
    injection h1 with h1
    injection h1 with h1
    subst h1
    subst h3
    have e1 : cur.toList = xs := by rw [← ht, List.take_of_length_le (by simp; omega)]
    have e2 : cur = xs.toArray := by rw [← e1]
    rw [← e2]
    exact hg

set_option maxHeartbeats 1000000 in
set_option maxRecDepth 100000 in
theorem new_yes (n : Nat) (w : World) (h : n ≤ 65536) :
    Calls Try.prog 8 #[.int .i64 n] w fun e w' => ∃ b fp, e = .returned (.pointer (some ⟨b, 0, none⟩)) ∧ PD w' w.heap.size b (newDS n) fp ∧ Below w.heap.size w w' := by
  obtain ⟨i0, hi, hz0, hz1, hz2⟩ := info_parts infoDkBlock
  obtain ⟨w1, hmk, hown, hgr⟩ := run_make_full (P := Try.prog) w w.heap.size 61 80 i0 (.agg zB) 65 Try.underlying61 hi hz0 hz1 .i64 .i64 n (by rw [hz2]; omega) (by unfold maxLen; omega) (Nat.le_refl _)
  rw [show (Value.agg zB).cells = zB from rfl, zB_made] at hown
  have HR := Lib.hid (own_blk65 hown)
  have HB1 := Lib.hid (show Below w.heap.size w w1 from (Below.refl _ w).grown hgr (Nat.le_refl _) (fun k hk => by cases hk))
  obtain ⟨g, hg⟩ : ∃ g, g = w.heap.size := ⟨_, rfl⟩
  have HG := Lib.hid hg
  rw [← hg] at hmk HR
  clear hi hz0 hz1 hz2 hown hgr hg
  go_enter Try.func8, Try.ntmps8
  go_wp2
  go_ret
  have hn : g ≠ w1.heap.size := fun e => by have := HR.out.lt; omega
  refine ⟨w1.heap.size, fpP w1.heap.size g (.slice none 0 0), rfl, ⟨g, n, .slice none 0 0, 0, List.replicate n (z64, 0), ⟨newDS_ok h, by simp [newDS], fun k x hx => ?_, by simp [newDS], Blk.new w1 _ _, fun h0 => by simp [newDS] at h0, HR.out.alloc _, World.ownsRow_nil _ _ _ _, HB1.out.size, Nat.le_of_eq HG.out.symm⟩, rfl⟩, HB1.out.alloc HB1.out.size _⟩
  have hx := List.mem_of_getElem? hx
  rw [(List.mem_replicate.1 hx).2]
  rfl

theorem PDx.stands {w : World} {B b : Nat} {s : DS} {g n : Nat} {v : Value} {fz : Int} {bs : List (List UInt8 × Nat)} (h : PDx w B b s g n v fz bs) {k : Nat} {x : List UInt8 × Nat} (hx : bs[k]? = some x) :
    s.bl[k]? = some x.1 ∧ x.1.length = 64 ∧ w.rangeAt g (k * 65) (bv x.1) ∧ w.cell? ⟨g, k * 65 + 64, none⟩ = some (.int .i64 (x.2 : Nat)) := by
  have hm : s.bl[k]? = some x.1 := by rw [← h.map, List.getElem?_map, hx]; rfl
  have hall : ∀ y ∈ bs, (cB y).length = 65 := fun y hy => cB_length (h.ok.bl _ (by rw [← h.map]; exact List.mem_map_of_mem hy))
  have h64 := h.ok.bl _ (List.mem_of_getElem? hm)
  refine ⟨hm, h64, fun j u hu => ?_, ?_⟩
  · have hj := (List.getElem?_eq_some_iff.1 hu).1
    rw [bv_length] at hj
    rw [h.row.cell, List.getElem?_toArray, flatMap_get cB 65 bs hall k j x hx (by omega), cB, List.getElem?_append_left (by rw [bv_length]; exact hj)]
    exact hu
  · rw [h.row.cell, List.getElem?_toArray, flatMap_get cB 65 bs hall k 64 x hx (by omega), cB, List.getElem?_append_right (by rw [bv_length]; omega), bv_length, h64]
    rfl

theorem own_range {w : World} {B : Nat} {s : DS} {v : Value} (hok : s.Ok) (h : w.ownsRow B 84 65 v s.pe.length (s.pe.flatMap cW)) {j : Nat} {p : Nat × List UInt8} (hp : s.pe[j]? = some p) :
    ∃ q c, v = .slice (some ⟨q, 0, none⟩) s.pe.length c ∧ B ≤ q ∧ p.2.length = 64 ∧ w.rangeAt q (j * 65) (cW p) ∧ w.rangeAt q (j * 65 + 1) (bv p.2) := by
  have hlt := (List.getElem?_eq_some_iff.1 hp).1
  obtain ⟨q, c, hv, hB, _⟩ := h.form (by omega)
  have hall : ∀ y ∈ s.pe, (cW y).length = 65 := fun y hy => cW_length (hok.pe y hy).2
  have h64 := (hok.pe p (List.mem_of_getElem? hp)).2
  have key : w.rangeAt q (j * 65) (cW p) := fun i u hu => by
    have hi := (List.getElem?_eq_some_iff.1 hu).1
    rw [cW_length h64] at hi
    have := h.cells (g := q) (by rw [hv]; rfl) (j * 65 + i) u (by rw [flatMap_get cW 65 _ hall j i p hp hi]; exact hu)
    rwa [Addr.add_mid, Nat.zero_add] at this
  refine ⟨q, c, hv, hB, h64, key, fun i u hu => ?_⟩
  have := key (i + 1) u (by rw [cW, List.getElem?_cons_succ]; exact hu)
  rwa [show j * 65 + 1 + i = j * 65 + (i + 1) by omega]

theorem row_len {bs : List (List UInt8 × Nat)} (h : ∀ x ∈ bs, x.1.length = 64) : ∀ y ∈ bs, (cB y).length = 65 := fun y hy => cB_length (h y hy)
theorem PDx.lens {w : World} {B b : Nat} {s : DS} {g n : Nat} {v : Value} {fz : Int} {bs : List (List UInt8 × Nat)} (h : PDx w B b s g n v fz bs) : ∀ x ∈ bs, x.1.length = 64 := fun x hx => h.ok.bl _ (by rw [← h.map]; exact List.mem_map_of_mem hx)

theorem row_set {w : World} {g : Nat} {bs : List (List UInt8 × Nat)} (hb : Blk w g 80 (bs.flatMap cB).toArray) (hl : ∀ x ∈ bs, x.1.length = 64) {k : Nat} {x : List UInt8 × Nat} (hx : bs[k]? = some x) (l : Nat) :
    Blk (w.setCell ⟨g, k * 65 + 64, none⟩ (.int .i64 (l : Nat))) g 80 ((bs.set k (x.1, l)).flatMap cB).toArray := by
  have hlt := (List.getElem?_eq_some_iff.1 hx).1
  have h64 := hl x (List.mem_of_getElem? hx)
  have h1 := flatMap_set cB 65 bs (row_len hl) k (x.1, l) hlt
  have h0 := flatMap_set cB 65 bs (row_len hl) k x hlt
  have hsame : bs.set k x = bs := by
    apply List.ext_getElem?
    intro i
    by_cases e : k = i
    · subst e; rw [List.getElem?_set_self hlt, hx]
    · rw [List.getElem?_set_ne e]
  rw [hsame] at h0
  have hA : ((bs.flatMap cB).take (k * 65)).length = k * 65 := by rw [List.length_take, flatMap_length cB 65 bs (row_len hl)]; have : k * 65 ≤ bs.length * 65 := Nat.mul_le_mul_right _ (Nat.le_of_lt hlt); omega
  have e : (bs.flatMap cB).set (k * 65 + 64) (.int .i64 (l : Nat)) = (bs.set k (x.1, l)).flatMap cB := by
    rw [h1]
    conv => lhs; rw [h0]
    generalize (bs.flatMap cB).take (k * 65) = A at hA ⊢
    generalize (bs.flatMap cB).drop (k * 65 + 65) = D
    rw [List.set_append_left _ _ (by simp [hA, cB, bv_length, h64]), List.set_append_right _ _ (by omega), hA, Nat.add_sub_cancel_left]
    congr 2
    simp [cB]
    rw [List.set_append_right _ _ (by rw [bv_length, h64]; exact Nat.le_refl _), bv_length, h64]
    rfl
  have := hb.set (k * 65 + 64) (.int .i64 (l : Nat))
  rw [← e]
  simpa using this

theorem own_blk_of {w : World} {base : Nat} {e : TypeId} {size : Nat} {v : Value} {n : Nat} {xs : List Value} (h : w.ownsRow base e size v n xs) {k : Nat} (hk : v.ownBlock = some k) : ∃ cur, Blk w k e cur := by
  rcases h.2 with ⟨h1, _⟩ | ⟨g', cap, cur, hv, _, hg', _⟩
  · rw [h1] at hk; cases hk
  · rw [hv] at hk
    have e : g' = k := by simpa [Value.ownBlock] using hk
    subst e
    exact ⟨cur, hg'⟩

theorem own_slice3 {w : World} {base : Nat} {e : TypeId} {size : Nat} {v : Value} {n : Nat} {xs : List Value} (h : w.ownsRow base e size v n xs) : ∃ a c, v = .slice a n c := by
  rcases h.2 with ⟨h1, h2⟩ | ⟨g', cap, cur, hv, _⟩
  · exact ⟨none, 0, by rw [h1, h2]⟩
  · exact ⟨_, _, hv⟩

theorem read_nil (k : Int) (w : World) :
    Calls Try.prog 49 #[.pointer none, .int .i64 k] w fun e w' => e = .returned (.tuple #[.string (st []), .int .i64 1]) ∧ w = w' := by
  go_enter Try.func49, Try.ntmps49
  go_wp2_with (go_at_call 45; refine (refusal_nil _ _).mono ?_; rintro e w' ⟨rfl, rfl⟩)
  go_ret2
  exact ⟨rfl, rfl⟩

set_option maxHeartbeats 1000000 in
set_option maxRecDepth 100000 in
theorem dkRead_any (B b : Nat) (s : DS) (fp : List Nat) (k : Int) (w : World) (h : PD w B b s fp) (hlen : s.pe.length ≤ 4611686018427387904) :
    Calls Try.prog 49 #[.pointer (some ⟨b, 0, none⟩), .int .i64 k] w fun e w' => e = .returned (.tuple #[.string (st (s.read k).1), .int .i64 (s.read k).2]) ∧ Below w.heap.size w w' := by
  have HREF := Lib.hid (refusal_any B b s fp k w h)
  by_cases hr : s.refusal k = 0
  · obtain ⟨_, hk0, hk1⟩ := DS.refusal_zero hr
    rw [hr] at HREF
    have HRD : Hid (s.read k = (curF (s.bl.getD k.toNat []) s.pe k.toNat, 0)) := by show _ = _; unfold DS.read; rw [if_neg (by rw [hr]; decide)]
    obtain ⟨m, hm⟩ : ∃ m : Nat, k = (m : Int) := ⟨k.toNat, by omega⟩
    subst hm
    rw [Int.toNat_natCast] at HRD
    obtain ⟨g, n, v, fz, bs, h, rfl⟩ := h
    have hml : m < s.bl.length := by omega
    have hmb : m < bs.length := by rw [h.blen, h.num]; exact hml
    obtain ⟨x, hx⟩ : ∃ x, bs[m]? = some x := ⟨_, List.getElem?_eq_getElem hmb⟩
    obtain ⟨hs1, h64, hrg, hcl⟩ := h.stands hx
    have hgd : s.bl.getD m [] = x.1 := by rw [List.getD_eq_getElem?_getD, hs1]; rfl
    rw [hgd] at HRD
    obtain ⟨y, l⟩ := x
    simp only at hs1 h64 hrg hcl HRD
    have hll := h.last m _ hx
    simp only at hll
    have c0 : w.cell? ⟨b, 0, none⟩ = some (.slice (some ⟨g, 0, none⟩) n n) := h.box.cell 0
    have c1 : w.cell? ⟨b, 1, none⟩ = some v := h.box.cell 1
    have hle := lastOf_le s.pe m
    rw [← hll] at hle
    have hmn : (m : Int) < (n : Int) := by rw [h.num]; omega
    have hn := h.ok.len
    rw [← h.num] at hn
    have HX := Lib.hid h
    have HLL := Lib.hid hll
    have HRG := Lib.hid hrg
    have hsz : (Try.prog.info? 78).map (·.size) = some (bv y).length := by rw [bv_length, h64]; exact (info_zero infoContent).2.1
    have HSZ := Lib.hid hsz
    have hsz2 : (Try.prog.info? 78).map (·.size) = some (bv y).toArray.size := by rw [List.size_toArray]; exact hsz
    have HSZ2 := Lib.hid hsz2
    have hzc : zC.size = (bv y).toArray.size := by
      have e1 : (bv y).toArray.size = 64 := by rw [List.size_toArray, bv_length, h64]
      rw [e1]; rfl
    have HZC := Lib.hid hzc
    have H64 := Lib.hid h64
    have hb1 := h.box.alloc (.cells (bv y).toArray 78)
    have d0 : (w.alloc (.cells (bv y).toArray 78)).cell? ⟨b, 0, none⟩ = some (.slice (some ⟨g, 0, none⟩) n n) := hb1.cell 0
    have d1 : (w.alloc (.cells (bv y).toArray 78)).cell? ⟨b, 1, none⟩ = some v := hb1.cell 1
    have dl : (w.alloc (.cells (bv y).toArray 78)).cell? ⟨g, m * 65 + 64, none⟩ = some (.int .i64 (l : Nat)) := by rw [World.cell?_alloc_lt _ _ _ (World.block_lt_of_cell? w _ hcl)]; exact hcl
    clear hr hk0 hk1 hgd hs1 hx hml hmb hll h hrg hsz hsz2 hzc h64 hcl hb1
    by_cases hl0 : l = 0
    · subst hl0
      have dl : (w.alloc (.cells (bv y).toArray 78)).cell? ⟨g, m * 65 + 64, none⟩ = some (.int .i64 0) := dl
      have hbn : Blk (w.alloc (.cells (bv y).toArray 78)) w.heap.size 78 ([] ++ bv y ++ []).toArray := by rw [List.append_nil]; exact Blk.new w _ _
      have hrn : (w.alloc (.cells (bv y).toArray 78)).rangeAt w.heap.size 0 (bv y) := range_of_blk hbn
      have hc := conv_range hrn (n := 64) H64.out.symm 64
      clear hle hbn hrn
      go_enter Try.func49, Try.ntmps49
      go_wp2_with (first | (go_at_call 45; refine HREF.out.mono ?_; rintro e w' ⟨rfl, rfl⟩) | (refine wpList_load_mid rfl 78 _ rfl g (m * 65) rfl _ _ HRG.out Try.underlying78 rfl HSZ.out ?_) | (refine wpList_alloc_z rfl 78 rfl zC 64 64 infoContent ?_) | (refine wpList_store_new rfl 78 _ _ rfl rfl _ rfl _ _ HSZ2.out HZC.out (bv_one _) ?_))
      go_ret2
      refine ⟨?_, (Below.refl _ _).alloc (Nat.le_refl _) _⟩
      rw [HRD.out, curF_zero HLL.out.symm]
      rfl
    · obtain ⟨j, rfl⟩ : ∃ j, l = j + 1 := ⟨l - 1, by omega⟩
      have dl : (w.alloc (.cells (bv y).toArray 78)).cell? ⟨g, m * 65 + 64, none⟩ = some (.int .i64 ((j : Int) + 1)) := dl
      have hlast := lastOf_get (pe := s.pe) (k := m) (by rw [← HLL.out]; omega)
      rw [← HLL.out, Nat.add_sub_cancel] at hlast
      obtain ⟨d, hd⟩ := hlast
      obtain ⟨q, c, hv, hq, hd64, _, hrw⟩ := own_range HX.out.ok HX.out.own hd
      simp only at hd64 hrw
      have hrw2 : (w.alloc (.cells (bv y).toArray 78)).rangeAt q (j * 65 + 1) (bv d) := World.rangeAt_alloc hrw _
      subst hv
      have HRW := Lib.hid hrw2
      have hsd : (Try.prog.info? 78).map (·.size) = some (bv d).length := by rw [bv_length, hd64]; exact (info_zero infoContent).2.1
      have HSD := Lib.hid hsd
      have hsd2 : (Try.prog.info? 78).map (·.size) = some (bv d).toArray.size := by rw [List.size_toArray]; exact hsd
      have HSD2 := Lib.hid hsd2
      have hzd : (bv y).toArray.size = (bv d).toArray.size := by rw [List.size_toArray, List.size_toArray, bv_length, bv_length, H64.out, hd64]
      have HZD := Lib.hid hzd
      have HD := Lib.hid hd
      have hbn : Blk (w.alloc (.cells (bv d).toArray 78)) w.heap.size 78 ([] ++ bv d ++ []).toArray := by rw [List.append_nil]; exact Blk.new w _ _
      have hrn : (w.alloc (.cells (bv d).toArray 78)).rangeAt w.heap.size 0 (bv d) := range_of_blk hbn
      have hc := conv_range hrn (n := 64) hd64.symm 64
      obtain ⟨np, hnp⟩ : ∃ np, np = s.pe.length := ⟨_, rfl⟩
      rw [← hnp] at hle hlen c1 d1
      have hj1 : (j : Int) < (np : Int) := by omega
      clear hl0 hrw hrw2 hd64 hsd hsd2 hzd hd hq hbn hrn hnp
      go_enter Try.func49, Try.ntmps49
      go_wp2_with (first | (go_at_call 45; refine HREF.out.mono ?_; rintro e w' ⟨rfl, rfl⟩) | (refine wpList_load_mid rfl 78 _ rfl g (m * 65) rfl _ _ HRG.out Try.underlying78 rfl HSZ.out ?_) | (refine wpList_load_mid rfl 78 _ rfl q (j * 65 + 1) rfl _ _ HRW.out Try.underlying78 rfl HSD.out ?_) | (refine wpList_alloc_z rfl 78 rfl zC 64 64 infoContent ?_) | (refine wpList_store_new rfl 78 _ _ rfl rfl _ rfl _ _ HSZ2.out HZC.out (bv_one _) ?_) | (refine wpList_store_new rfl 78 _ _ rfl rfl _ rfl _ _ HSD2.out HZD.out (bv_one _) ?_))
      go_ret2
      refine ⟨?_, (Below.refl _ _).alloc (Nat.le_refl _) _⟩
      rw [HRD.out, curF_last (q := (m, d)) (by rw [← HLL.out]; omega) (by rw [← HLL.out]; exact HD.out)]
      rfl
  · have HRD : Hid (s.read k = ([], s.refusal k)) := by show _ = _; unfold DS.read; rw [if_pos hr]
    obtain ⟨f, hf⟩ : ∃ f, f = s.refusal k := ⟨_, rfl⟩
    rw [← hf] at HREF HRD hr
    have tf : (f == 0) = false := by rw [beq_eq_false_iff_ne]; exact hr
    clear h hf
    go_enter Try.func49, Try.ntmps49
    go_wp2_with ((go_at_call 45; refine HREF.out.mono ?_; rintro e w' ⟨rfl, rfl⟩))
    go_ret2
    refine ⟨?_, Below.refl _ _⟩
    rw [HRD.out]
    rfl
end Go.Proofs.Ytbpklikmldpeiaa
