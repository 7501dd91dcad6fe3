/-
  Contract of soukref07.Get.
-/
import Derived.Test.YteclhcjfnmkkjaaBkJ
namespace Go.Proofs.Yteclhcjfnmkkjaa
open Go.RowKit Go.Lib

theorem rGet_hit {m : List Ln} {a : Ac} {k : Nat} {x : Ln} (h : ∀ y ∈ m.take k, y.1 ≠ a) (hx : m[k]? = some x) (e : x.1 = a) : rGet m a = x.2 := by
  induction m generalizing k with
  | nil => simp at hx
  | cons y r ih =>
    cases k with
    | zero =>
      simp only [List.getElem?_cons_zero, Option.some.injEq] at hx
      rw [rGet, hx, if_pos e]
    | succ k =>
      simp only [List.getElem?_cons_succ] at hx
      rw [rGet, if_neg (h y (by simp))]
      exact ih (fun z hz => h z (by simp [hz])) hx

theorem st_eqb (a : List UInt8) : ((st a).toList == (st a).toList) = true := by simp

set_option maxHeartbeats 4000000 in
set_option maxRecDepth 100000 in
theorem rGet_any (ad : Option Addr) (c : Nat) (m : List Ln) (a : Ac) (w : World) (hr : RowL w ad m) (hl : m.length ≤ 4194304) :
    Calls Try.prog 15 #[.slice ad m.length c, .string (st a.1), .string (st a.2.1), .string (st a.2.2)] w fun e w' => e = .returned (.int .i64 (rGet m a)) ∧ w = w' := by
  obtain ⟨n, hn⟩ : ∃ n, n = m.length := ⟨_, rfl⟩
  have HN := Lib.hid hn
  have HR := Lib.hid hr
  rw [← hn] at hl ⊢
  clear hn hr
  obtain ⟨ak, ap, ac⟩ := a
  go_enter Try.func15, Try.ntmps15
  go_wp2
  go_loopg [9] n (fun gk i wr => ∃ k : Nat, k ≤ n ∧ i = .int .i64 k ∧ n - k ≤ gk ∧ Hid (∀ y ∈ m.take k, y.1 ≠ (ak, ap, ac)) ∧ Hid (wr = w))
  case atStart => exact ⟨0, Nat.zero_le _, rfl, by omega, (fun y hy => by simp at hy), rfl⟩
  case round =>
    obtain ⟨k, hk, rfl, hgk, HE, HW⟩ := hrel
    have e := HW.out
    subst e
    by_cases hlt : k < n
    · obtain ⟨x, hx⟩ : ∃ x, m[k]? = some x := ⟨_, List.getElem?_eq_getElem (by rw [← HN.out]; exact hlt)⟩
      obtain ⟨b, off, rfl, hc⟩ := HR.out (by rw [← HN.out]; omega)
      have c0 : wr.cell? ⟨b, off + k * 4, none⟩ = some (.string (st x.1.1)) := by simpa using hc k x hx 0 _ rfl
      have c1 := hc k x hx 1 _ rfl
      have c2 := hc k x hx 2 _ rfl
      have c3 := hc k x hx 3 _ rfl
      have hkz : (0 : Int) ≤ (k : Int) := by omega
      have hkn : (k : Int) < (n : Int) := by omega
      have HX := Lib.hid hx
      have HNo : Hid (x.1 ≠ (ak, ap, ac) → ∀ y ∈ m.take (k + 1), y.1 ≠ (ak, ap, ac)) := fun hne y hy => by
        obtain ⟨h1, h2⟩ := List.getElem?_eq_some_iff.1 HX.out
        rw [List.take_succ_eq_append_getElem h1, h2, List.mem_append, List.mem_singleton] at hy
        rcases hy with hy | hy
        · exact HE.out y hy
        · rw [hy]; exact hne
      have HYes : Hid (x.1 = (ak, ap, ac) → rGet m (ak, ap, ac) = x.2) := fun e => rGet_hit HE.out HX.out e
      clear hc hx
      obtain ⟨⟨xk, xp, xc⟩, xn⟩ := x
      by_cases h1 : xk = ak
      · subst h1
        have t1 := st_eqb xk
        by_cases h2 : xp = ap
        · subst h2
          have t2 := st_eqb xp
          by_cases h3 : xc = ac
          · subst h3
            have t3 := st_eqb xc
            have HV := Lib.hid (HYes.out rfl)
            clear HYes HNo
            go_wp2
            go_ret
            exact ⟨by rw [HV.out]; rfl, rfl⟩
          · have t3 := st_neb h3
            have HV := Lib.hid (HNo.out (fun e => h3 (by simp only [Prod.mk.injEq] at e; exact e.2.2)))
            clear HYes HNo h3
            go_wp2
            go_roundg (n - (k + 1))
            case measure => omega
            case rel => exact ⟨k + 1, by omega, by go_num, by omega, HV.out, rfl⟩
        · have t2 := st_neb h2
          have HV := Lib.hid (HNo.out (fun e => h2 (by simp only [Prod.mk.injEq] at e; exact e.2.1)))
          clear HYes HNo h2
          go_wp2
          go_roundg (n - (k + 1))
          case measure => omega
          case rel => exact ⟨k + 1, by omega, by go_num, by omega, HV.out, rfl⟩
      · have t1 := st_neb h1
        have HV := Lib.hid (HNo.out (fun e => h1 (by simp only [Prod.mk.injEq] at e; exact e.1)))
        clear HYes HNo h1
        go_wp2
        go_roundg (n - (k + 1))
        case measure => omega
        case rel => exact ⟨k + 1, by omega, by go_num, by omega, HV.out, rfl⟩
    · have e : k = n := by omega
      subst e
      have HV : Hid (rGet m (ak, ap, ac) = 0) := rGet_none (fun y hy => HE.out y (by rw [List.take_of_length_le (by rw [← HN.out]; exact Nat.le_refl _)]; exact hy))
      go_wp2
      go_ret
      exact ⟨by rw [HV.out]; rfl, rfl⟩
end Go.Proofs.Yteclhcjfnmkkjaa
