/-
  The document's Parts, whatever comes in; slices.Equal of parts that are the same; souklaw12.lives.
-/
import Derived.Test.YthhcbpimkaahnaaPtF
import Derived.Laws.StructEq
namespace Go.Proofs.Ythhcbpimkaahnaa
open Go.RowKit Go.Deep

theorem rparts_any (A f t h q : Int) (a : Option Addr) (c : Nat) (xs : List Sh) (s tt : Nat → Nat) (w : World) (hA : Amt A) (hr : RowG 2 cSh w a xs)
    (hO : ofE A f t h xs = 0 → Ordr xs.length (fun i => (rf (A - f - t).toNat (ptS xs) (ptW xs) i : Int)) s tt) :
    Calls Try.prog 7 #[.int .i64 A, .agg #[.int .i64 f, .int .i64 t, .int .i64 h, .int .i64 q], .slice a xs.length c] w (RpPost (ofE A f t h xs) (A - f - t).toNat h xs tt w) := by
  by_cases hc : A ≤ 1125899906842624 ∧ 0 ≤ f ∧ 0 ≤ t ∧ 0 ≤ h ∧ h ≤ 10000 ∧ f + t ≤ A
  · by_cases hl : xs.length = 0 ∨ 8 < xs.length
    · rw [ofE_bad1 hl]
      exact (rparts_bad A f t h q a c xs.length w hA (.inr hl)).mono fun e w' he => .inl ⟨by decide, he⟩
    · rw [ofE_good hc hl] at hO ⊢
      exact rparts_good A f t h q a c xs s tt w hr hc hl hO
  · rw [ofE_bad2 hc]
    exact (rparts_bad A f t h q a c xs.length w hA (.inl hc)).mono fun e w' he => .inl ⟨by decide, he⟩

theorem cells3 {w : World} {b off : Nat} {xs : List Prt} (h : RowG 3 cPt w (some ⟨b, off, none⟩) xs) {k : Nat} {p : List UInt8} {N M : Int} (hx : xs[k]? = some (p, N, M)) :
    w.cell? ⟨b, off + k * 3, none⟩ = some (.string (st p)) ∧ w.cell? ⟨b, off + k * 3 + 1, none⟩ = some (.int .i64 N) ∧ w.cell? ⟨b, off + k * 3 + 2, none⟩ = some (.int .i64 M) := by
  have := h.at hx
  exact ⟨by simpa using this 0 _ rfl, this 1 _ rfl, this 2 _ rfl⟩

set_option maxHeartbeats 1600000 in
set_option maxRecDepth 100000 in
theorem equalPart_same (a1 a2 : Option Addr) (c1 c2 : Nat) (l : List Prt) (w : World) (h1 : RowG 3 cPt w a1 l) (h2 : RowG 3 cPt w a2 l) (hl : l.length ≤ 1000) :
    Calls Try.prog 9 #[.slice a1 l.length c1, .slice a2 l.length c2] w fun e w' => e = .returned (.bool true) ∧ Below w.heap.size w w' := by
  obtain ⟨n, hn⟩ : ∃ n, n = l.length := ⟨_, rfl⟩
  have HN := Lib.hid hn
  have HR1 := Lib.hid h1
  have HR2 := Lib.hid h2
  rw [← hn] at hl ⊢
  clear hn h1 h2
  go_enter Try.func9, Try.ntmps9
  go_wp2
  go_loopg [5, 13] n (fun gk _ i wr => ∃ k : Nat, k ≤ n ∧ i = .int .i64 k ∧ n - k ≤ gk ∧ Hid (Below w.heap.size w wr))
  case atStart => exact ⟨0, Nat.zero_le _, rfl, by omega, Below.refl _ _⟩
  case round =>
    obtain ⟨k, hk, rfl, hgk, HB⟩ := hrel
    by_cases hlt : k < n
    · obtain ⟨x, hx⟩ : ∃ x, l[k]? = some x := ⟨_, List.getElem?_eq_getElem (by rw [← HN.out]; exact hlt)⟩
      obtain ⟨p, N, M⟩ := x
      obtain ⟨b1, off1, rfl⟩ := HR1.out.form (by rw [← HN.out]; omega)
      obtain ⟨b2, off2, rfl⟩ := HR2.out.form (by rw [← HN.out]; omega)
      obtain ⟨f0, f1, f2⟩ := cells3 (HR1.out.keep HB.out) hx
      obtain ⟨g0, g1, g2⟩ := cells3 (HR2.out.keep HB.out) hx
      have hkz : (0 : Int) ≤ (k : Int) := by omega
      have hkn : (k : Int) < (n : Int) := by omega
      have HBn : Hid (∀ z, Below w.heap.size w (wr.drewN z)) := fun z => below_drewN HB.out z
      clear hx
      go_wp2
      go_quiet (fail)
      go_wp2
      go_roundg (n - (k + 1))
      case measure => omega
      case rel => exact ⟨k + 1, by omega, by go_num, by omega, HBn.out _⟩
    · have hkn : ¬ ((k : Int) < (n : Int)) := by omega
      go_wp2
      go_ret
      exact ⟨rfl, HB.out⟩
end Go.Proofs.Ythhcbpimkaahnaa
