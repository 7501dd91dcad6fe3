/-
  The maps of package book: keyed by accounts, and by currencies; a book in memory.
-/
import Derived.Test.YteclhcjfnmkkjaaBkA
import Derived.Test.YteclhcjfnmkkjaaMapF
import Derived.Test.YteclhcjfnmkkjaaOctP
import Derived.Test.YteclhcjfnmkkjaaSep
import Derived.DeepKeys4
import Derived.WideKeyArgs2
namespace Go.Proofs.Yteclhcjfnmkkjaa
open Go.RowKit Go.Maps

/-- an account as a key -/
def kv (a : Ac) : Value := .agg #[.string (st a.1), .string (st a.2.1), .string (st a.2.2)]
/-- a line's cells -/
def cL (x : Ln) : List Value := [.string (st x.1.1), .string (st x.1.2.1), .string (st x.1.2.2), .int .i64 x.2]
def OkA (a : Ac) : Prop := a.1.length ≤ maxLen ∧ a.2.1.length ≤ maxLen ∧ a.2.2.length ≤ maxLen
def klA (a : Ac) : Lit := .string (keyBytes [.string a.1, .string a.2.1, .string a.2.2])

theorem of_st (s : ByteArray) : ∃ l, s = st l ∧ l.length = s.size := ⟨s.data.toList, (of_data s), by rw [Array.length_toList]; rfl⟩

theorem laidOut7 : laidOutB Try.prog = true := by kernel_rfl
theorem wideKey : (match Try.prog.underlying 40 with | some (.array _ _) | some (.struct _) => true | _ => false) = true := by rw [Try.underlying40]
theorem lawA : Keyed Try.prog 40 := Keyed.of_law (deep_law_laid laidOut7 (m := 3) (by omega) (of_decide_eq_true (by kernel_rfl)) (by kernel_rfl) wideKey)
theorem keyTypeA : Try.prog.keyType 40 = true := by kernel_rfl
theorem cellsA : Try.prog.cellsOf 40 = 3 := by kernel_rfl
theorem cellsS : Try.prog.cellsOf 9 = 1 := by kernel_rfl
theorem sizeTypes : ∃ n, Try.prog.types.size + 1 = n + 2 := ⟨Try.prog.types.size - 1, by have : 1 ≤ Try.prog.types.size := of_decide_eq_true (by kernel_rfl); omega⟩

theorem keyLits_mk (n : Nat) {s0 s1 s2 : ByteArray} (h0 : s0.size ≤ maxLen) (h1 : s1.size ≤ maxLen) (h2 : s2.size ≤ maxLen) :
    Try.prog.keyLits (n + 1 + 1) 40 [.string s0, .string s1, .string s2] = some [.string s0.data.toList, .string s1.data.toList, .string s2.data.toList] := by
  simp only [Program.keyLits, Try.underlying40]
  simp [cellsA, cellsS, Try.underlying9, h0, h1, h2]

theorem keyLits_inv (n : Nat) {v0 v1 v2 : Value} {ls : List Lit} (h : Try.prog.keyLits (n + 1 + 1) 40 [v0, v1, v2] = some ls) :
    ∃ s0 s1 s2 : ByteArray, v0 = .string s0 ∧ v1 = .string s1 ∧ v2 = .string s2 ∧ s0.size ≤ maxLen ∧ s1.size ≤ maxLen ∧ s2.size ≤ maxLen ∧ ls = [.string s0.data.toList, .string s1.data.toList, .string s2.data.toList] := by
  simp only [Program.keyLits, Try.underlying40] at h
  simp [cellsA, cellsS, Try.underlying9] at h
  cases v0 <;> simp at h
  rename_i s0
  by_cases h0 : s0.size ≤ maxLen
  · simp [h0] at h
    cases v1 <;> simp at h
    rename_i s1
    by_cases h1 : s1.size ≤ maxLen
    · simp [h1] at h
      cases v2 <;> simp at h
      rename_i s2
      by_cases h2 : s2.size ≤ maxLen
      · simp [h2] at h
        exact ⟨_, _, _, rfl, rfl, rfl, h0, h1, h2, h.symm⟩
      · simp [h2] at h
    · simp [h1] at h
  · simp [h0] at h

theorem keyOf_kv {a : Ac} (h : OkA a) : keyOf Try.prog 40 (kv a) = some (klA a) := by
  obtain ⟨n, hn⟩ := sizeTypes
  obtain ⟨h0, h1, h2⟩ := h
  have hk := keyLits_mk n (s0 := st a.1) (s1 := st a.2.1) (s2 := st a.2.2) (by rw [st_size]; exact h0) (by rw [st_size]; exact h1) (by rw [st_size]; exact h2)
  rw [st_toList, st_toList, st_toList] at hk
  simp only [keyOf, Try.underlying40, keyTypeA, hn]
  simp [kv, Value.formed, Try.underlying40, cellsA, Value.cells, hk, klA]

theorem list3 (l : List Value) (h : l.toArray.size = 3) : ∃ a b c, l = [a, b, c] := by
  match l, h with
  | [a, b, c], _ => exact ⟨a, b, c, rfl⟩

theorem keyOf_inv {v : Value} {l : Lit} (h : keyOf Try.prog 40 v = some l) : ∃ a, OkA a ∧ v = kv a ∧ l = klA a := by
  obtain ⟨n, hn⟩ := sizeTypes
  simp only [keyOf, Try.underlying40, keyTypeA, hn] at h
  cases v <;> simp [Value.formed, Try.underlying40, cellsA, Value.cells] at h
  rename_i cs
  obtain ⟨hs, ls, hk, rfl⟩ := h
  obtain ⟨cl⟩ := cs
  obtain ⟨v0, v1, v2, rfl⟩ := list3 cl hs
  obtain ⟨s0, s1, s2, rfl, rfl, rfl, h0, h1, h2, rfl⟩ := keyLits_inv n hk
  obtain ⟨l0, rfl, e0⟩ := of_st s0
  obtain ⟨l1, rfl, e1⟩ := of_st s1
  obtain ⟨l2, rfl, e2⟩ := of_st s2
  refine ⟨(l0, l1, l2), ⟨by rw [e0]; exact h0, by rw [e1]; exact h1, by rw [e2]; exact h2⟩, rfl, ?_⟩
  rw [st_toList, st_toList, st_toList]; rfl

theorem kv_inj {a b : Ac} (h : kv a = kv b) : a = b := by
  obtain ⟨a0, a1, a2⟩ := a
  obtain ⟨b0, b1, b2⟩ := b
  simp only [kv, Value.agg.injEq, Array.mk.injEq, List.cons.injEq, Value.string.injEq, and_true] at h
  rw [st_inj h.1, st_inj h.2.1, st_inj h.2.2]

theorem zeroI (w : World) : (zeroValue 2).run Try.prog w = .ok (.int .i64 0) w := by kernel_rfl

/-- keyed by accounts -/
theorem KA : KM Try.prog 49 40 2 kv OkA klA where
  law := lawA
  ut := Try.underlying49
  ue := Try.underlying2
  ze := zeroI
  key := keyOf_kv
  inv := keyOf_inv
  one := kv_inj

/-- a currency as a key -/
def cv (c : List UInt8) : Value := .string (st c)
def OkC (c : List UInt8) : Prop := c.length ≤ maxLen

/-- keyed by currencies -/
theorem KC : KM Try.prog 65 9 2 cv OkC Lit.string where
  law := string_keyed Try.underlying9
  ut := Try.underlying65
  ue := Try.underlying2
  ze := zeroI
  key := fun {c} h => by
    have hs : (st c).size ≤ maxLen := by rw [st_size]; exact h
    simp [keyOf, Try.underlying9, mapKey, cv, hs, st_toList]
  inv := fun {v l} h => by
    cases v <;> simp [keyOf, Try.underlying9, mapKey] at h
    rename_i s
    obtain ⟨c, rfl, e⟩ := of_st s
    rw [st_toList] at h
    exact ⟨c, by unfold OkC; rw [e]; exact h.1, rfl, h.2.symm⟩
  one := fun {a b} h => st_inj (by simpa [cv] using h)

/-- block b is a map of balances, or of sums -/
abbrev MA := MapF Try.prog 40 2 OkA klA
abbrev MC := MapF Try.prog 9 2 OkC Lit.string
abbrev RA := RngF Try.prog 40 2 OkA klA
abbrev RC := RngF Try.prog 9 2 OkC Lit.string
end Go.Proofs.Yteclhcjfnmkkjaa
