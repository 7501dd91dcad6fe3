/-
  What stands after lists of lines; the document's balances in memory, beside a book.
-/
import Derived.Test.YteclhcjfnmkkjaaBkX
import Derived.Test.YteclhcjfnmkkjaaBkY
namespace Go.Proofs.Yteclhcjfnmkkjaa
open Go.RowKit Go.Lib

/-- what stands after so many lists -/
def mAt (ls : List (List Ln)) (k : Nat) : List Ln := (ls.take k).foldl (fun m l => (postL m l).1) []
def totL (ls : List (List Ln)) : Nat := (ls.map List.length).sum

theorem mAt_succ {ls : List (List Ln)} {k : Nat} {l : List Ln} (h : ls[k]? = some l) : mAt ls (k + 1) = (postL (mAt ls k) l).1 := by
  obtain ⟨hlt, he⟩ := List.getElem?_eq_some_iff.1 h
  unfold mAt
  rw [List.take_succ_eq_append_getElem hlt, List.foldl_append, he]; rfl
theorem totL_succ {ls : List (List Ln)} {k : Nat} {l : List Ln} (h : ls[k]? = some l) : totL (ls.take (k + 1)) = totL (ls.take k) + l.length := by
  obtain ⟨hlt, he⟩ := List.getElem?_eq_some_iff.1 h
  unfold totL
  rw [List.take_succ_eq_append_getElem hlt, he, List.map_append, List.sum_append]
  simp
theorem totL_take (ls : List (List Ln)) (k : Nat) : totL (ls.take k) ≤ totL ls := by
  have e : ls = ls.take k ++ ls.drop k := (List.take_append_drop k ls).symm
  have h : totL ls = totL (ls.take k) + totL (ls.drop k) := by
    have h2 : totL (ls.take k ++ ls.drop k) = totL (ls.take k) + totL (ls.drop k) := by
      unfold totL; rw [List.map_append, List.sum_append]
    rw [← e] at h2
    exact h2
  omega

/-- what stands is in order, of amounts -/
structure Good (m : List Ln) : Prop where
  srt : Srt m
  nz : Nz m
  amt : Amts m
theorem good_nil : Good [] := ⟨List.Pairwise.nil, (fun _ h => by cases h), amts_nil⟩
theorem Good.post {m : List Ln} (h : Good m) (l : List Ln) : Good (postL m l).1 := by
  unfold postL
  split
  · cases ha : addL m l with
    | none => exact h
    | some m' =>
      simp only
      obtain ⟨h1, h2⟩ := addL_srt h.srt h.nz ha
      split
      · exact ⟨h1, h2, addL_amts h.srt h.amt ha⟩
      · exact h
  · exact h
theorem addL_len {l : List Ln} {m m' : List Ln} (h : addL m l = some m') : m'.length ≤ m.length + l.length := by
  induction l generalizing m with
  | nil => simp [addL] at h; rw [h]; simp
  | cons x r ih =>
    simp only [addL] at h
    split at h
    · have h1 := ih h
      have h2 := rSet_len m (x.1, rGet m x.1 + x.2)
      rw [List.length_cons]; omega
    · cases h
theorem postL_len (m l : List Ln) : (postL m l).1.length ≤ m.length + l.length := by
  unfold postL
  split
  · cases ha : addL m l with
    | none => simp
    | some m' =>
      simp only
      split
      · exact addL_len ha
      · simp
  · simp
theorem good_at (ls : List (List Ln)) (k : Nat) : Good (mAt ls k) := by
  unfold mAt
  generalize ls.take k = r
  suffices ∀ (r : List (List Ln)) (m : List Ln), Good m → Good (r.foldl (fun m l => (postL m l).1) m) from this r [] good_nil
  intro r
  induction r with
  | nil => intro m h; exact h
  | cons l r ih => intro m h; exact ih _ (h.post l)
theorem len_at (ls : List (List Ln)) (k : Nat) : (mAt ls k).length ≤ totL (ls.take k) := by
  unfold mAt totL
  generalize ls.take k = r
  suffices ∀ (r : List (List Ln)) (m : List Ln), (r.foldl (fun m l => (postL m l).1) m).length ≤ m.length + (r.map List.length).sum from by
    have := this r []
    simpa using this
  intro r
  induction r with
  | nil => intro m; simp
  | cons l r ih =>
    intro m
    have h1 := ih (postL m l).1
    have h2 := postL_len m l
    rw [List.foldl_cons, List.map_cons, List.sum_cons]
    omega

/-- the document's balances, in a row -/
def RwL (a : Option Addr) (m : List Ln) (w : World) (fp : List Nat) : Prop := RowL w a m ∧ fp = (if m = [] then [] else a.toList.map Addr.block)
theorem RwL.stays (a : Option Addr) (m : List Ln) : Stays (RwL a m) where
  keep := by
    rintro w w' fp fp2 ⟨h, rfl⟩ hs hn
    refine ⟨fun h0 => ?_, rfl⟩
    obtain ⟨b, off, e, hc⟩ := h h0
    have hb : b ∉ fp2 := hn b (by rw [if_neg (by intro e2; rw [e2] at h0; simp at h0), e]; simp)
    refine ⟨b, off, e, fun i x hx j u hu => ?_⟩
    have h1 := hc i x hx j u hu
    have hlt := World.block_lt_of_cell? w (⟨b, off + i * 4 + j, none⟩ : Addr) h1
    have h2 := hs.block b hlt hb
    rw [← h1]
    simp only [World.cell?, h2]
  lt := by
    rintro w fp ⟨h, rfl⟩ k hk
    split at hk
    · cases hk
    · rename_i hne
      obtain ⟨b, off, e, hc⟩ := h (List.length_pos_iff.mpr hne)
      rw [e] at hk
      have : k = b := by simpa using hk
      rw [this]
      cases m with
      | nil => exact absurd rfl hne
      | cons x r => exact World.block_lt_of_cell? w (⟨b, off + 0 * 4 + 0, none⟩ : Addr) (hc 0 x rfl 0 _ rfl)
theorem RwL.of {w : World} {a : Option Addr} {m : List Ln} (h : RowL w a m) : RwL a m w (if m = [] then [] else a.toList.map Addr.block) := ⟨h, rfl⟩
theorem RwL.fresh {a : Option Addr} {m : List Ln} {B : Nat} (h : ∀ p, a = some p → B ≤ p.block) : ∀ k ∈ (if m = [] then ([] : List Nat) else a.toList.map Addr.block), B ≤ k := by
  intro k hk
  split at hk
  · cases hk
  · cases a with
    | none => simp at hk
    | some p =>
      have : k = p.block := by simpa using hk
      rw [this]; exact h p rfl

/-- behind both Posts -/
theorem both_posted {b cb K' K2 : Nat} {am a3 : Option Addr} {m m' m2 : List Ln} {w w5 w6 : World} (h : After [] w w5 (Sep (Sep (PBk b m' K') (RwL am m)) (PBk cb m2 K2) w5)) (hb : Below w5.heap.size w5 w6) (hr : RowL w6 a3 m') (hf : (a3 = am ∧ m' = m) ∨ ∀ p, a3 = some p → w5.heap.size ≤ p.block) :
    After [] w w6 (Sep (PBk b m' K') (RwL a3 m') w6) := by
  rcases hf with ⟨rfl, rfl⟩ | hf
  · exact h.left.since (Stays.sep (PBk.stays _ _ _) (RwL.stays _ _)) hb
  · exact h.left.left.fresh (PBk.stays _ _ _) hb (RwL.of hr) (RwL.fresh hf)

/-- a boxed line's cells -/
structure Bx4 (p : Nat) (y : Ln) (w : World) : Prop where
  k : w.cell? ⟨p, 0, none⟩ = some (.string (st y.1.1))
  q : w.cell? ⟨p, 1, none⟩ = some (.string (st y.1.2.1))
  c : w.cell? ⟨p, 2, none⟩ = some (.string (st y.1.2.2))
  n : w.cell? ⟨p, 3, none⟩ = some (.int .i64 y.2)
theorem Bx4.of {p : Nat} {y : Ln} {w : World} {t : TypeId} (h : Blk w p t (cL y).toArray) : Bx4 p y w := ⟨h.cell 0, h.cell 1, h.cell 2, h.cell 3⟩
end Go.Proofs.Yteclhcjfnmkkjaa
