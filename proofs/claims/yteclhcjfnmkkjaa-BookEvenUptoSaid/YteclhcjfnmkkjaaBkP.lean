/-
  Plain: what is collected of a map and sorted is what stands; an own row of lines as the sort has it.
-/
import Derived.Test.YteclhcjfnmkkjaaBkC
import Derived.Test.YteclhcjfnmkkjaaBkJ
namespace Go.Proofs.Yteclhcjfnmkkjaa
open Go.RowKit Go.Lib Go.Sort

/-- collected are those that have come -/
def Coll (f : Ac → Option Int) (left : Ac → Bool) (ss : List Ln) : Prop := ss.Pairwise (fun x y => x.1 ≠ y.1) ∧ ∀ x : Ln, x ∈ ss ↔ f x.1 = some x.2 ∧ left x.1 = false

theorem Coll.start (f : Ac → Option Int) : Coll f (fun a => (f a).isSome) [] := ⟨List.Pairwise.nil, fun x => by
  constructor
  · intro h; cases h
  · rintro ⟨h1, h2⟩
    have h3 : (f x.1).isSome = false := h2
    rw [h1] at h3; cases h3⟩
theorem Coll.step {f : Ac → Option Int} {left : Ac → Bool} {ss : List Ln} (h : Coll f left ss) {a : Ac} {v : Int} (hf : f a = some v) (hl : left a = true) : Coll f (fun d => left d && !decide (d = a)) (ss ++ [(a, v)]) := by
  obtain ⟨h1, h2⟩ := h
  refine ⟨List.pairwise_append.2 ⟨h1, List.pairwise_singleton _ _, fun x hx y hy e => ?_⟩, fun x => ?_⟩
  · rw [List.mem_singleton] at hy
    rw [hy] at e
    have h3 := ((h2 x).1 hx).2
    rw [e, hl] at h3; cases h3
  · rw [List.mem_append, List.mem_singleton, h2 x]
    by_cases e : x.1 = a
    · constructor
      · rintro (h3 | h3)
        · rw [e, hl] at h3; cases h3.2
        · rw [h3]; exact ⟨hf, by simp⟩
      · rintro ⟨h3, _⟩
        rw [e, hf] at h3
        injection h3 with h3
        exact .inr (Prod.ext e h3.symm)
    · constructor
      · rintro (h3 | h3)
        · exact ⟨h3.1, by simp [e, h3.2]⟩
        · exact absurd (congrArg Prod.fst h3) e
      · rintro ⟨h3, h4⟩
        simp [e] at h4
        exact .inl ⟨h3, h4⟩

/-- sorted, it is what stands -/
theorem sorted_is {m ss : List Ln} {f : Ac → Option Int} {left : Ac → Bool} (hs : Srt m) (hz : Nz m) (hf : Fn m f) (hc : Coll f left ss) (hl : NoLeft left) {d' : Array Ln} (hp : PermIn 0 ss.toArray.size ss.toArray d') (ho : SortedIn (ltOf cmpL2) 0 ss.toArray.size d') : d'.toList = m ∧ d'.size = ss.length := by
  obtain ⟨hsz, _, hperm⟩ := hp
  have e1 : (d'.extract 0 ss.toArray.size).toList = d'.toList := by rw [← hsz]; simp
  have e2 : (ss.toArray.extract 0 ss.toArray.size).toList = ss := by simp
  rw [e1, e2] at hperm
  have hmem : ∀ x : Ln, x ∈ d'.toList ↔ x ∈ m := fun x => by
    rw [hperm.mem_iff, hc.2 x, hl x.1]
    constructor
    · rintro ⟨h, _⟩; exact (hf.mem hs hz x.1 x.2).1 h
    · intro h; exact ⟨(hf.mem hs hz x.1 x.2).2 h, rfl⟩
  have hdis : d'.toList.Pairwise (fun x y => x.1 ≠ y.1) := (hperm.symm.pairwise_iff (fun {a b} (h : a.1 ≠ b.1) => h.symm)).1 hc.1
  have hsrt : Srt d'.toList := by
    unfold Srt
    rw [List.pairwise_iff_getElem]
    intro i j hi hj hij
    have hi' : i < d'.size := by simpa using hi
    have hj' : j < d'.size := by simpa using hj
    have h1 := ho i j (Nat.zero_le _) hij (by rw [← hsz]; exact hj')
    rw [getElem!_pos d' i hi', getElem!_pos d' j hj', cmpL2_lt] at h1
    have h2 := (List.pairwise_iff_getElem.1 hdis) i j hi hj hij
    simp only [Array.getElem_toList] at h2 ⊢
    rcases cmpA_cases d'[i].1 d'[j].1 with h | h | h
    · exact h
    · exact absurd h h2
    · simp only [decide_eq_false_iff_not] at h1; exact absurd h h1
  refine ⟨srt_ext hsrt hs hmem, by rw [hsz]; simp⟩

theorem flatMap_cL_get : ∀ (ss : List Ln) (i j : Nat) (x : Ln) (u : Value), ss[i]? = some x → (cL x)[j]? = some u → (ss.flatMap cL)[i * 4 + j]? = some u
  | [], i, j, x, u, h, _ => by simp at h
  | y :: r, 0, j, x, u, h, hu => by
    simp only [List.getElem?_cons_zero, Option.some.injEq] at h
    subst h
    have hj : j < (cL y).length := (List.getElem?_eq_some_iff.1 hu).1
    rw [List.flatMap_cons, Nat.zero_mul, Nat.zero_add, List.getElem?_append_left hj]
    exact hu
  | y :: r, i + 1, j, x, u, h, hu => by
    simp only [List.getElem?_cons_succ] at h
    have e : (i + 1) * 4 + j = (cL y).length + (i * 4 + j) := by rw [cL_len]; omega
    rw [List.flatMap_cons, e, List.getElem?_append_right (by omega), Nat.add_sub_cancel_left]
    exact flatMap_cL_get r i j x u h hu
theorem flatMap_cL_len (ss : List Ln) : (ss.flatMap cL).length = ss.length * 4 := by
  induction ss with
  | nil => rfl
  | cons y r ih => rw [List.flatMap_cons, List.length_append, ih, cL_len, List.length_cons]; omega

/-- an own row of lines, as the sort has it -/
theorem holds_own {w : World} {B : Nat} {g n cap : Nat} {ss : List Ln} (h : w.ownsRow B 42 4 (.slice (some ⟨g, 0, none⟩) n cap) n (ss.flatMap cL)) (hn : n = ss.length) : HoldsK cL 4 w g 0 ss.toArray := by
  rcases h.2 with ⟨hv, _⟩ | ⟨g', cap', cur, hv, hB, hg, h1, h2, h3, h4⟩
  · cases hv
  · have eg : g' = g := by injection hv with hv; injection hv with hv; injection hv with hv; exact hv.symm
    subst eg
    intro t ht
    have hb : Blk w g' 42 cur := hg
    have ht' : t < ss.length * 4 := by simpa using ht
    rw [Nat.zero_add]
    refine ⟨?_, hb.frozen t⟩
    rw [hb.cell t, get_flatK cL 4 _ t (by simpa using ht')]
    have hi : t / 4 < ss.length := by omega
    have hx : ss[t / 4]? = some (ss[t / 4]) := List.getElem?_eq_getElem hi
    have hj : t % 4 < (cL ss[t / 4]).length := by rw [cL_len]; omega
    have hu : (cL ss[t / 4])[t % 4]? = some ((cL ss[t / 4])[t % 4]) := List.getElem?_eq_getElem hj
    have hf := flatMap_cL_get ss (t / 4) (t % 4) _ _ hx hu
    rw [show t / 4 * 4 + t % 4 = t from by omega, ← h4, List.getElem?_take_of_lt (by rw [hn]; exact ht')] at hf
    rw [← Array.getElem?_toList, hf]
    congr 1
    have e1 : ss.toArray[t / 4]! = ss[t / 4] := by rw [getElem!_pos ss.toArray (t / 4) (by simpa using hi)]; simp
    rw [e1, getElem!_pos (cL ss[t / 4]) (t % 4) hj]
    rfl

theorem sortWorld_below {B : Nat} {w : World} {g n : Nat} {d : Array Ln} {os : Array Obj} (hB : B ≤ g) (hS : B ≤ w.heap.size) : Below B w (sortWorldK cL 4 w g 0 n d os) := by
  refine ⟨rfl, rfl, rfl, by simp [sortWorldK, putRowK], fun k hk => ?_⟩
  unfold sortWorldK
  rw [heap_grow_old _ _ (by rw [size_putRowK]; exact Nat.lt_of_lt_of_le hk hS)]
  have hne : g ≠ k := by omega
  simp [putRowK, putRow, mapBlock, Sort.ahead, Array.getElem?_modify, hne]

/-- what the sort leaves can be read -/
theorem sortWorld_row {w : World} {g n : Nat} {d0 d : Array Ln} {os : Array Obj} (hH : HoldsK cL 4 w g 0 d0) (hs : d.size = d0.size) (hg : g < w.heap.size) : RowL (sortWorldK cL 4 w g 0 n d os) (some ⟨g, 0, none⟩) d.toList := by
  have h1 : HoldsK cL 4 (sortWorldK cL 4 w g 0 n d os) g 0 d := by
    unfold sortWorldK
    refine holdsK_grow cL 4 _ os g 0 d (by rw [size_putRowK]; exact hg) ?_
    exact holdsK_putRowK cL 4 _ g 0 d0 d (holdsK_ahead cL 4 w n g 0 d0 hH) hs
  intro _
  refine ⟨g, 0, rfl, fun i x hx j u hu => ?_⟩
  have hi : i < d.size := by have := (List.getElem?_eq_some_iff.1 hx).1; simpa using this
  have hj : j < (cL x).length := (List.getElem?_eq_some_iff.1 hu).1
  rw [cL_len] at hj
  have hc := (h1.cell (i := i) (c := j) hi hj).1
  have ex : d[i]! = x := by
    rw [getElem!_pos d i hi]
    have := (List.getElem?_eq_some_iff.1 hx).2
    simpa using this
  rw [ex] at hc
  rw [hc]
  have := (List.getElem?_eq_some_iff.1 hu).2
  rw [getElem!_pos (cL x) j (by rw [cL_len]; exact hj), this]
end Go.Proofs.Yteclhcjfnmkkjaa
