/-
  The program's disk and the document's, beside each other.
-/
import Derived.Test.YthckcbnendjmpaaDskC
import Derived.Test.YthckcbnendjmpaaDskF
import Derived.Test.YthckcbnendjmpaaDskG
import Derived.Test.YthckcbnendjmpaaRDskB
import Derived.Test.YthckcbnendjmpaaRDskD
namespace Go.Proofs.Ythckcbnendjmpaa
open Go.RowKit Go.Lib

theorem PD.mono {w : World} {B B' b : Nat} {s : DS} {fp : List Nat} (h : PD w B b s fp) (hB : B' ≤ B) : PD w B' b s fp := by
  obtain ⟨g, n, v, fz, bs, h, rfl⟩ := h
  exact ⟨g, n, v, fz, bs, ⟨h.ok, h.map, h.last, h.num, h.box, h.fz, h.row, own_le h.own hB, Nat.le_trans hB h.hb, Nat.le_trans hB h.hg⟩, rfl⟩
theorem RD.mono {w : World} {B B' b : Nat} {s : DS} {fp : List Nat} (h : RD w B b s fp) (hB : B' ≤ B) : RD w B' b s fp := by
  obtain ⟨n, vb, vp, h, rfl⟩ := h
  exact ⟨n, vb, vp, ⟨h.ok, h.num, h.box, own_le h.row hB, own_le h.own hB, Nat.le_trans hB h.hb⟩, rfl⟩

/-- both disks, apart from each other and from other blocks that are known -/
def Two (W w : World) (B pb rb : Nat) (S1 S2 : DS) (ot : List (Nat × Obj)) : Prop :=
  ∃ fp fr, PD w B pb S1 fp ∧ RD w B rb S2 fr ∧ (∀ k ∈ fp, k ∉ fr) ∧ Below B W w ∧ B ≤ W.heap.size ∧ ∀ x ∈ ot, w.heap[x.1]? = some x.2 ∧ x.1 ∉ fp ∧ x.1 ∉ fr

theorem Two.since {W w w' : World} {B pb rb : Nat} {S1 S2 : DS} {ot : List (Nat × Obj)} (h : Two W w B pb rb S1 S2 ot) (hb : Below w.heap.size w w') : Two W w' B pb rb S1 S2 ot := by
  obtain ⟨fp, fr, hp, hr, hd, hB, hW, ho⟩ := h
  refine ⟨fp, fr, hp.since hb, hr.since hb, hd, hB.trans (hb.mono (Nat.le_trans hW hB.size)), hW, fun x hx => ?_⟩
  obtain ⟨h1, h2⟩ := ho x hx
  exact ⟨(hb.block x.1 (Array.getElem?_eq_some_iff.1 h1).1).trans h1, h2⟩
theorem Two.drew {W w : World} {B pb rb : Nat} {S1 S2 : DS} {ot : List (Nat × Obj)} (h : Two W w B pb rb S1 S2 ot) : Two W w.drew B pb rb S1 S2 ot := h.since (Below.refl _ _).drew
theorem Two.drewN {W w : World} {B pb rb : Nat} {S1 S2 : DS} {ot : List (Nat × Obj)} (h : Two W w B pb rb S1 S2 ot) (n : Nat) : Two W (w.drewN n) B pb rb S1 S2 ot := h.since ⟨rfl, rfl, rfl, Nat.le_refl _, fun _ _ => rfl⟩
theorem Two.alloc {W w : World} {B pb rb : Nat} {S1 S2 : DS} {ot : List (Nat × Obj)} (h : Two W w B pb rb S1 S2 ot) (o : Obj) : Two W (w.alloc o) B pb rb S1 S2 ((w.heap.size, o) :: ot) := by
  have h2 := h.since ((Below.refl _ w).alloc (Nat.le_refl _) o)
  have hlt := h
  obtain ⟨fp0, fr0, hp0, hr0, _⟩ := hlt
  obtain ⟨fp, fr, hp, hr, hd, hB, hW, ho⟩ := h
  refine ⟨fp, fr, hp.since ((Below.refl _ w).alloc (Nat.le_refl _) o), hr.since ((Below.refl _ w).alloc (Nat.le_refl _) o), hd, hB.trans ((Below.refl _ w).alloc (Nat.le_trans hW hB.size) o), hW, fun x hx => ?_⟩
  rcases List.mem_cons.1 hx with rfl | hx
  · exact ⟨World.alloc_heap_new w o, fun hm => by have := (hp.lt _ hm).2; simp at this, fun hm => by have := (hr.lt _ hm).2; simp at this⟩
  · obtain ⟨h1, h2⟩ := ho x hx
    exact ⟨(Below.heap_alloc w o x.1 (Array.getElem?_eq_some_iff.1 h1).1).trans h1, h2⟩
theorem Two.bare {W w : World} {B pb rb : Nat} {S1 S2 : DS} {ot : List (Nat × Obj)} (h : Two W w B pb rb S1 S2 ot) : Two W w B pb rb S1 S2 [] := by
  obtain ⟨fp, fr, hp, hr, hd, hB, hW, _⟩ := h
  exact ⟨fp, fr, hp, hr, hd, hB, hW, fun x hx => by cases hx⟩
theorem Two.below {W w : World} {B pb rb : Nat} {S1 S2 : DS} {ot : List (Nat × Obj)} (h : Two W w B pb rb S1 S2 ot) : Below B W w := by
  obtain ⟨fp, fr, hp, hr, hd, hB, hW, _⟩ := h
  exact hB
theorem Two.other {W w : World} {B pb rb : Nat} {S1 S2 : DS} {ot : List (Nat × Obj)} (h : Two W w B pb rb S1 S2 ot) {H : Nat} {cs : Array Value} {t : TypeId} (hm : (H, Obj.cells cs t (0, 0)) ∈ ot) : Blk w H t cs := by
  obtain ⟨fp, fr, hp, hr, hd, hB, hW, ho⟩ := h
  exact (ho _ hm).1
theorem Two.ok1 {W w : World} {B pb rb : Nat} {S1 S2 : DS} {ot : List (Nat × Obj)} (h : Two W w B pb rb S1 S2 ot) : S1.Ok := by
  obtain ⟨fp, fr, hp, hr, hd, hB, hW, ho⟩ := h
  exact hp.ok

/-- a step of the program's -/
theorem Two.left {W w : World} {B pb rb : Nat} {S1 S2 S1' : DS} {ot : List (Nat × Obj)} {P : Program} {f : Nat} {args : Array Value} {E : Ending} (h : Two W w B pb rb S1 S2 ot)
    (hc : ∀ fp, PD w B pb S1 fp → (∀ k ∈ fp, B ≤ k) → Calls P f args w fun e w' => e = E ∧ After fp w w' (PD w' B pb S1')) : Calls P f args w fun e w' => e = E ∧ Two W w' B pb rb S1' S2 ot := by
  obtain ⟨fp, fr, hp, hr, hd, hB, hW, ho⟩ := h
  refine (hc fp hp (fun k hk => (hp.lt k hk).1)).mono ?_
  rintro e w' ⟨rfl, fp', hp', hs, hf⟩
  have hWB := Nat.le_trans hW hB.size
  refine ⟨rfl, fp', fr, hp', hr.keep hs (fun k hk hk' => hd k hk' hk), After.apart hd (fun k hk => (hr.lt k hk).2) hf, hB.trans (hs.below (fun k hk => (hp.lt k hk).1) hWB), hW, fun x hx => ?_⟩
  obtain ⟨h1, h2, h3⟩ := ho x hx
  have hlt := (Array.getElem?_eq_some_iff.1 h1).1
  refine ⟨(hs.block x.1 hlt h2).trans h1, fun hm => ?_, h3⟩
  rcases hf _ hm with h | h
  · exact h2 h
  · omega

/-- a step of the document's -/
theorem Two.right {W w : World} {B pb rb : Nat} {S1 S2 S2' : DS} {ot : List (Nat × Obj)} {P : Program} {f : Nat} {args : Array Value} {E : Ending} (h : Two W w B pb rb S1 S2 ot)
    (hc : ∀ fr, RD w B rb S2 fr → (∀ k ∈ fr, B ≤ k) → Calls P f args w fun e w' => e = E ∧ After fr w w' (RD w' B rb S2')) : Calls P f args w fun e w' => e = E ∧ Two W w' B pb rb S1 S2' ot := by
  obtain ⟨fp, fr, hp, hr, hd, hB, hW, ho⟩ := h
  refine (hc fr hr (fun k hk => (hr.lt k hk).1)).mono ?_
  rintro e w' ⟨rfl, fr', hr', hs, hf⟩
  have hWB := Nat.le_trans hW hB.size
  refine ⟨rfl, fp, fr', hp.keep hs hd, hr', fun k hk hk' => After.apart (fun k hk hk' => hd k hk' hk) (fun k hk => (hp.lt k hk).2) hf k hk' hk, hB.trans (hs.below (fun k hk => (hr.lt k hk).1) hWB), hW, fun x hx => ?_⟩
  obtain ⟨h1, h2, h3⟩ := ho x hx
  have hlt := (Array.getElem?_eq_some_iff.1 h1).1
  refine ⟨(hs.block x.1 hlt h3).trans h1, h2, fun hm => ?_⟩
  rcases hf _ hm with h | h
  · exact h3 h
  · omega

section
variable {W w : World} {B pb rb : Nat} {S1 S2 : DS} {ot : List (Nat × Obj)}

theorem room24 {n : Nat} (h : Room n) : ((n + 1) + (n + 1) / 4 + 192) * 24 ≤ 281474976710656 := Nat.le_trans (Nat.mul_le_mul_left _ (by decide)) h
theorem room_le {n : Nat} (h : Room n) : n ≤ 4611686018427387904 := by
  have h1 : n ≤ 4000000000000 := by unfold Room at h; omega
  exact Nat.le_trans h1 (by decide)

theorem two_writeP (h : Two W w B pb rb S1 S2 ot) (k : Int) (d : List UInt8) (hroom : Room S1.pe.length) :
    Calls Try.prog 9 #[.pointer (some ⟨pb, 0, none⟩), .int .i64 k, .string (st d)] w fun e w' => e = .returned (.int .i64 (S1.write k d).2) ∧ Two W w' B pb rb (S1.write k d).1 S2 ot :=
  h.left fun fp hp _ => write_any B pb S1 fp k d w hp hroom
theorem two_writeR (h : Two W w B pb rb S1 S2 ot) (k : Int) (d : List UInt8) (hroom : Room S2.pe.length) :
    Calls Try.prog 10 #[.pointer (some ⟨rb, 0, none⟩), .int .i64 k, .string (st d)] w fun e w' => e = .returned (.int .i64 (S2.write k d).2) ∧ Two W w' B pb rb S1 (S2.write k d).1 ot :=
  h.right fun fr hr _ => rWrite_any B rb S2 fr k d w hr (room24 hroom)
theorem two_syncP (h : Two W w B pb rb S1 S2 ot) (hroom : Room S1.pe.length) :
    Calls Try.prog 11 #[.pointer (some ⟨pb, 0, none⟩)] w fun e w' => e = .returned (.int .i64 S1.sync.2) ∧ Two W w' B pb rb S1.sync.1 S2 ot :=
  h.left fun fp hp _ => sync_any B pb S1 fp w hp (room_le hroom)
theorem two_syncR (h : Two W w B pb rb S1 S2 ot) (hroom : Room S2.pe.length) :
    Calls Try.prog 12 #[.pointer (some ⟨rb, 0, none⟩)] w fun e w' => e = .returned (.int .i64 S2.sync.2) ∧ Two W w' B pb rb S1 S2.sync.1 ot :=
  h.right fun fr hr _ => rSync_any B rb S2 fr w hr (room_le hroom)
theorem two_failP (h : Two W w B pb rb S1 S2 ot) (k : Int) (hk : k ≤ 9223372036854775807) :
    Calls Try.prog 15 #[.pointer (some ⟨pb, 0, none⟩), .int .i64 k] w fun e w' => e = .returned (.tuple #[]) ∧ Two W w' B pb rb (S1.fail k) S2 ot :=
  h.left fun fp hp _ => fail_any B pb S1 fp k w hp hk
theorem two_restartP (h : Two W w B pb rb S1 S2 ot) (a : Option Addr) (c : Nat) (keep : List Nat) (hroom : Room S1.pe.length) (hkl : keep.length ≤ 4611686018427387904) (hrow : RowN w a keep) (hlt : 0 < keep.length → ∀ A, a = some A → A.block < B) :
    Calls Try.prog 16 #[.pointer (some ⟨pb, 0, none⟩), .slice a keep.length c] w fun e w' => e = .returned (.tuple #[]) ∧ Two W w' B pb rb (S1.restart keep) S2 ot :=
  h.left fun fp hp hB => restart_any B pb S1 fp a c keep w hp (room_le hroom) hkl hrow (fun h0 A hA hm => by have := hB _ hm; have := hlt h0 A hA; omega)
theorem two_restartR (h : Two W w B pb rb S1 S2 ot) (a : Option Addr) (c : Nat) (keep : List Nat) (hroom : Room S2.pe.length) (hkl : keep.length ≤ 4611686018427387904) (hrow : RowN w a keep) (hlt : 0 < keep.length → ∀ A, a = some A → A.block < B) :
    Calls Try.prog 17 #[.pointer (some ⟨rb, 0, none⟩), .slice a keep.length c] w fun e w' => e = .returned (.tuple #[]) ∧ Two W w' B pb rb S1 (S2.restart keep) ot :=
  h.right fun fr hr hB => rRestart_any B rb S2 fr a c keep w hr (room_le hroom) hkl hrow (fun h0 A hA hm => by have := hB _ hm; have := hlt h0 A hA; omega)
theorem two_readP (h : Two W w B pb rb S1 S2 ot) (k : Int) (hroom : Room S1.pe.length) :
    Calls Try.prog 13 #[.pointer (some ⟨pb, 0, none⟩), .int .i64 k] w fun e w' => e = .returned (.tuple #[.string (st (S1.read k).1), .int .i64 (S1.read k).2]) ∧ Two W w' B pb rb S1 S2 ot := by
  have h' := h
  obtain ⟨fp, fr, hp, _⟩ := h'
  refine (read_any B pb S1 fp k w hp (room_le hroom)).mono ?_
  rintro e w' ⟨rfl, hb⟩
  exact ⟨rfl, h.since hb⟩
theorem two_readR (h : Two W w B pb rb S1 S2 ot) (k : Int) (hroom : Room S2.pe.length) :
    Calls Try.prog 14 #[.pointer (some ⟨rb, 0, none⟩), .int .i64 k] w fun e w' => e = .returned (.tuple #[.string (st (S2.read k).1), .int .i64 (S2.read k).2]) ∧ w = w' := by
  obtain ⟨fp, fr, _, hr, _⟩ := h
  exact rRead_any B rb S2 fr k w hr (room_le hroom)
theorem two_dead (h : Two W w B pb rb S1 S2 ot) : Calls Try.prog 18 #[.pointer (some ⟨pb, 0, none⟩)] w fun e w' => e = .returned (.bool S1.dead) ∧ w = w' := by
  obtain ⟨fp, fr, hp, _⟩ := h
  exact dead_any B pb S1 fp w hp
theorem two_len (h : Two W w B pb rb S1 S2 ot) : Calls Try.prog 19 #[.pointer (some ⟨pb, 0, none⟩)] w fun e w' => e = .returned (.int .i64 (S1.bl.length : Nat)) ∧ w = w' := by
  obtain ⟨fp, fr, hp, _⟩ := h
  exact len_any B pb S1 fp w hp
theorem two_all (h : Two W w B pb rb S1 S2 ot) : Calls Try.prog 21 #[.pointer (some ⟨pb, 0, none⟩)] w fun e w' => ∃ g, e = .returned (.slice (some ⟨g, 0, none⟩) S1.bl.length S1.bl.length) ∧ RowS w' (some ⟨g, 0, none⟩) S1.bl ∧ Below w.heap.size w w' ∧ Two W w' B pb rb S1 S2 ot := by
  have h' := h
  obtain ⟨fp, fr, hp, _⟩ := h'
  refine (all_any B pb S1 fp w hp).mono ?_
  rintro e w' ⟨g, n, rfl, rfl, hown, hb⟩
  exact ⟨g, rfl, RowS.of_own hown, hb, h.since hb⟩

/-- the document's fuse is set by hand -/
theorem two_fuse (h : Two W w B pb rb S1 S2 ot) (k z : Int) (hk : k ≤ 9223372036854775807) (hz : z = max k (-1)) : Two W (w.setCell ⟨rb, 2, none⟩ (.int .i64 z)) B pb rb S1 (S2.fail k) ot := by
  subst hz
  obtain ⟨fp, fr, hp, hr, hd, hB, hW, ho⟩ := h
  have hrlt := hr.lt
  obtain ⟨n, vb, vp, hx, rfl⟩ := hr
  have hg := grownBy_setCell w rb 2 (.int .i64 (max k (-1)))
  have hst : Stp [rb] w (w.setCell ⟨rb, 2, none⟩ (.int .i64 (max k (-1)))) := Stp.of_grown hg (by simp)
  have hm : rb ∈ fpR rb vb vp := mem_fpR.2 (.inl rfl)
  refine ⟨fp, fpR rb vb vp, hp.keep hst (fun k hk hk' => hd k hk (by rw [List.mem_singleton] at hk'; rw [hk']; exact hm)), ⟨n, vb, vp, hx.turn hg (hx.ok.fail hk) rfl rfl (hx.box.set 2 _), rfl⟩, hd, hB.setCell (p := ⟨rb, 2, none⟩) (hx.hb) _, hW, fun x hx' => ?_⟩
  obtain ⟨h1, h2, h3⟩ := ho x hx'
  exact ⟨(hst.block x.1 (Array.getElem?_eq_some_iff.1 h1).1 (fun hk' => h3 (by rw [List.mem_singleton] at hk'; rw [hk']; exact hm))).trans h1, h2, h3⟩

/-- what the document's box says, and its row of blocks -/
theorem two_box (h : Two W w B pb rb S1 S2 ot) : ∃ ba bc vp, Blk w rb 42 #[.slice ba S2.bl.length bc, vp, .int .i64 S2.fu, .bool S2.dead] ∧ RowS w ba S2.bl ∧ S2.bl.length ≤ 65536 := by
  obtain ⟨fp, fr, _, hr, _⟩ := h
  obtain ⟨n, vb, vp, hr, rfl⟩ := hr
  obtain ⟨ba, bc, rfl⟩ := own_slice2 hr.row
  have e := hr.num
  subst e
  exact ⟨ba, bc, vp, hr.box, RowS.of_own hr.row, hr.ok.len⟩
end
end Go.Proofs.Ythckcbnendjmpaa
