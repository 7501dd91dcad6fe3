/-
  A map of numbers in memory, told as a function of what its keys stand for.
-/
import Derived.Test.YteclhcjfnmkkjaaAddA
import Derived.Test.YteclhcjfnmkkjaaStp
import Derived.Maps.Ext
import Derived.Maps.RangeWalk
namespace Go.Proofs.Yteclhcjfnmkkjaa
open Go.RowKit Go.Maps
set_option linter.unusedSectionVars false

/-- how the keys of a map type stand for things of α -/
structure KM (P : Program) (T K E : TypeId) {α : Type} (mk : α → Value) (ok : α → Prop) (kl : α → Lit) : Prop where
  law : Keyed P K
  ut : P.underlying T = some (.map K E)
  ue : P.underlying E = some (.int .i64)
  ze : ∀ w, (zeroValue E).run P w = .ok (.int .i64 0) w
  key : ∀ {a : α}, ok a → keyOf P K (mk a) = some (kl a)
  inv : ∀ {v : Value} {l : Lit}, keyOf P K v = some l → ∃ a, ok a ∧ v = mk a ∧ l = kl a
  one : ∀ {a b : α}, mk a = mk b → a = b

/-- what a map reads as is this function -/
structure Rd {α : Type} (ok : α → Prop) (kl : α → Lit) (D : DataW Unit) (f : α → Option Int) : Prop where
  has : ∀ a, ok a → Maps.has D (kl a) = (f a).isSome
  at_ : ∀ a v, f a = some v → ∀ z, D.atKey (kl a) z = .lit (.int .i64 v)
  ok : ∀ a v, f a = some v → ok a ∧ Amt v

def upd {α : Type} [DecidableEq α] (f : α → Option Int) (a : α) (v : Option Int) : α → Option Int := fun b => if b = a then v else f b
theorem upd_same {α : Type} [DecidableEq α] (f : α → Option Int) (a : α) (v : Option Int) : upd f a v a = v := if_pos rfl
theorem upd_other {α : Type} [DecidableEq α] (f : α → Option Int) {a b : α} (v : Option Int) (h : b ≠ a) : upd f a v b = f b := if_neg h

section
variable {P : Program} {T K E : TypeId} {α : Type} {mk : α → Value} {ok : α → Prop} {kl : α → Lit}

theorem KM.kl_inj (M : KM P T K E mk ok kl) {a b : α} (ha : ok a) (hb : ok b) (h : kl a = kl b) : a = b :=
  M.one (M.law.inj (M.key ha) (by rw [h]; exact M.key hb))
theorem KM.isKey (M : KM P T K E mk ok kl) {a : α} (ha : ok a) : WideAt.IsKeyLit (kl a) := M.law.key (M.key ha)
theorem KM.same (M : KM P T K E mk ok kl) {a b : α} (ha : ok a) (hb : ok b) [DecidableEq α] : (kl a).sameKey (kl b) = decide (a = b) := by
  by_cases h : a = b
  · subst h; rw [WideAt.sameKey_self (M.isKey ha), decide_eq_true rfl]
  · rw [sameKey_ne (fun e => h (M.kl_inj ha hb e)), decide_eq_false h]

/-- block b is a map of at most n entries that holds f -/
def MapF (P : Program) (K E : TypeId) (ok : α → Prop) (kl : α → Lit) (w : World) (b n : Nat) (f : α → Option Int) : Prop :=
  ∃ D : DataW Unit, w.ownsMap P K (plainElem P E) b n D ∧ Rd ok kl D f

theorem amt_wf {v : Int} (h : Amt v) : (Lit.int .i64 v).wf = true := WalkArith.wf_i64 (by unfold Amt at h; omega)

theorem MapF.made (w : World) : MapF P K E ok kl (w.alloc (.map #[] 0)) w.heap.size 0 (fun _ => none) :=
  ⟨.map [], World.ownsMap_made w P K _, ⟨fun _ _ => rfl, (fun _ _ h => by cases h), (fun _ _ h => by cases h)⟩⟩
theorem MapF.lt {w : World} {b n : Nat} {f : α → Option Int} (h : MapF P K E ok kl w b n f) : b < w.heap.size := by obtain ⟨D, h, _⟩ := h; exact h.lt
theorem MapF.mono {w : World} {b n n' : Nat} {f : α → Option Int} (h : MapF P K E ok kl w b n f) (hn : n ≤ n') : MapF P K E ok kl w b n' f := by obtain ⟨D, h, r⟩ := h; exact ⟨D, h.mono hn, r⟩
theorem MapF.heap {w w' : World} {b n : Nat} {f : α → Option Int} (h : MapF P K E ok kl w b n f) (he : w'.heap[b]? = w.heap[b]?) : MapF P K E ok kl w' b n f := by
  obtain ⟨D, ⟨es, clock, hb, hr⟩, r⟩ := h
  exact ⟨D, ⟨es, clock, he.trans hb, hr⟩, r⟩
theorem MapF.stp {w w' : World} {b n : Nat} {f : α → Option Int} {fp : List Nat} (h : MapF P K E ok kl w b n f) (hs : Stp fp w w') (hn : b ∉ fp) : MapF P K E ok kl w' b n f := h.heap (hs.block b h.lt hn)
theorem MapF.since {w w' : World} {b n : Nat} {f : α → Option Int} (h : MapF P K E ok kl w b n f) (hb : Below w.heap.size w w') : MapF P K E ok kl w' b n f := h.heap (hb.block b h.lt)

theorem MapF.alloc {w : World} {b n : Nat} {f : α → Option Int} (h : MapF P K E ok kl w b n f) (o : Obj) : MapF P K E ok kl (w.alloc o) b n f := h.since ((Below.refl _ w).alloc (Nat.le_refl _) o)
theorem MapF.amt {w : World} {b n : Nat} {f : α → Option Int} (h : MapF P K E ok kl w b n f) (a : α) : Amt ((f a).getD 0) := by
  obtain ⟨D, _, r⟩ := h
  cases hf : f a with
  | none => unfold Amt; simp
  | some v => exact (r.ok a v hf).2
theorem MapF.ext {w : World} {b n : Nat} {f g : α → Option Int} (h : MapF P K E ok kl w b n f) (e : ∀ a, f a = g a) : MapF P K E ok kl w b n g := by
  rw [← funext e]; exact h

theorem MapF.look (M : KM P T K E mk ok kl) {w : World} {b n : Nat} {f : α → Option Int} (h : MapF P K E ok kl w b n f) {a : α} (ha : ok a) :
    (Instr.lookup T (.map (some b)) (mk a) false).run P w = .ok (.int .i64 ((f a).getD 0)) w := by
  obtain ⟨D, h, r⟩ := h
  obtain ⟨c, hrun, hat, _⟩ := h.lookup_int M.law M.ut M.ue (M.ze w) (M.key ha)
  rw [hrun]
  cases hf : f a with
  | none =>
    have := Maps.atKey_of_not_has (k := kl a) (D := D) (by rw [r.has a ha, hf]; rfl) (.lit (.int .i64 0))
    rw [this] at hat
    injection hat with hat; injection hat with _ hat
    rw [← hat]; rfl
  | some v =>
    rw [r.at_ a v hf] at hat
    injection hat with hat; injection hat with _ hat
    rw [← hat]; rfl

theorem MapF.look_ok (M : KM P T K E mk ok kl) {w : World} {b n : Nat} {f : α → Option Int} (h : MapF P K E ok kl w b n f) {a : α} (ha : ok a) :
    (Instr.lookup T (.map (some b)) (mk a) true).run P w = .ok (.tuple #[.int .i64 ((f a).getD 0), .bool (f a).isSome]) w := by
  obtain ⟨D, h, r⟩ := h
  obtain ⟨v, ps, hrun, hv⟩ := h.look_ok M.law M.ut (M.ze w) (plainElem_int (q := .i64) (a := 0) M.ue (by decide)) (M.key ha)
  obtain ⟨c, rfl, hc, _⟩ := plainElem_int_inv M.ue hv
  rw [hrun, r.has a ha]
  have hat : D.atKey (kl a) (.lit (.int .i64 0)) = .lit (.int .i64 c) := congrArg Prod.fst hc
  cases hf : f a with
  | none =>
    have := Maps.atKey_of_not_has (k := kl a) (D := D) (by rw [r.has a ha, hf]; rfl) (.lit (.int .i64 0))
    rw [this] at hat
    injection hat with hat; injection hat with _ hat
    rw [← hat]; rfl
  | some v =>
    rw [r.at_ a v hf] at hat
    injection hat with hat; injection hat with _ hat
    rw [← hat]; rfl

theorem turned_stp {w w' : World} {b : Nat} (h : w.mapTurned w' b) : Stp [b] w w' := Stp.of_grown h.grown (by simp)

variable [DecidableEq α]

theorem MapF.store (M : KM P T K E mk ok kl) {w : World} {b n : Nat} {f : α → Option Int} (h : MapF P K E ok kl w b n f) (hn : n < maxLen) {a : α} (ha : ok a) {v : Int} (hv : Amt v) :
    ∃ w', (Instr.mapUpdate T (.map (some b)) (mk a) (.int .i64 v)).run P w = .ok () w' ∧ MapF P K E ok kl w' b (n + 1) (upd f a (some v)) ∧ w.mapTurned w' b := by
  obtain ⟨D, h, r⟩ := h
  obtain ⟨w', hrun, hown, ht⟩ := h.store M.law M.ut hn (M.key ha) (plainElem_int (q := .i64) M.ue (amt_wf hv))
  refine ⟨w', hrun, ⟨_, hown, fun c hc => ?_, fun c u hu z => ?_, fun c u hu => ?_⟩, ht⟩
  · by_cases e : c = a
    · subst e; rw [has_put_same h.isMap (M.isKey ha), upd_same]; rfl
    · rw [has_put_other (fun e' => e (M.kl_inj hc ha e')), r.has c hc, upd_other _ _ e]
  · by_cases e : c = a
    · subst e; rw [upd_same] at hu; injection hu with hu; rw [atKey_put_same h.isMap (M.isKey ha), hu]
    · rw [upd_other _ _ e] at hu
      rw [atKey_put_other (fun e' => e (M.kl_inj (r.ok c u hu).1 ha e')), r.at_ c u hu]
  · by_cases e : c = a
    · subst e; rw [upd_same] at hu; injection hu with hu; rw [← hu]; exact ⟨ha, hv⟩
    · rw [upd_other _ _ e] at hu; exact r.ok c u hu

theorem MapF.drop (M : KM P T K E mk ok kl) {w : World} {b n : Nat} {f : α → Option Int} (h : MapF P K E ok kl w b n f) {a : α} (ha : ok a) (ty : TypeId) :
    ∃ w', (Builtin.delete_ #[T, K] ty #[.map (some b), mk a]).run P w = .ok (.tuple #[]) w' ∧ MapF P K E ok kl w' b n (upd f a none) ∧ w.mapTurned w' b := by
  obtain ⟨D, h, r⟩ := h
  obtain ⟨w', hrun, hown, ht⟩ := h.drop M.law M.ut (M.key ha) ty
  refine ⟨w', hrun, ⟨_, hown, fun c hc => ?_, fun c u hu z => ?_, fun c u hu => ?_⟩, ht⟩
  · by_cases e : c = a
    · subst e; rw [has_del_same, upd_same]; rfl
    · rw [has_del_other (fun e' => e (M.kl_inj hc ha e')), r.has c hc, upd_other _ _ e]
  · by_cases e : c = a
    · subst e; rw [upd_same] at hu; cases hu
    · rw [upd_other _ _ e] at hu
      rw [atKey_del_other (fun e' => e (M.kl_inj (r.ok c u hu).1 ha e')), r.at_ c u hu]
  · by_cases e : c = a
    · subst e; rw [upd_same] at hu; cases hu
    · rw [upd_other _ _ e] at hu; exact r.ok c u hu

theorem MapF.len (M : KM P T K E mk ok kl) {w : World} {b n : Nat} {f : α → Option Int} (h : MapF P K E ok kl w b n f) (ty : TypeId) : ∃ s : Nat, s ≤ n ∧ (Builtin.len_ #[T] ty #[.map (some b)]).run P w = .ok (.int .i64 s) w := by
  obtain ⟨D, h, r⟩ := h
  exact ⟨_, h.size_le, h.len M.ut ty⟩

/-! a range over it -/

/-- block b is such a map; block r is an iterator over it; these are still to come, so many -/
def RngF (P : Program) (K E : TypeId) (ok : α → Prop) (kl : α → Lit) (w : World) (b r n : Nat) (f : α → Option Int) (left : α → Bool) (cnt : Nat) : Prop :=
  ∃ (D : DataW Unit) (lf : Lit → Bool), w.ranges P K (plainElem P E) b r n D lf cnt ∧ Rd ok kl D f ∧ (∀ a, ok a → lf (kl a) = left a) ∧ (∀ a, left a = true → ok a)

theorem RngF.map {w : World} {b r n : Nat} {f : α → Option Int} {left : α → Bool} {cnt : Nat} (h : RngF P K E ok kl w b r n f left cnt) : MapF P K E ok kl w b n f := by
  obtain ⟨D, lf, h, rd, _⟩ := h
  exact ⟨D, h.owns, rd⟩
theorem RngF.lt {w : World} {b r n : Nat} {f : α → Option Int} {left : α → Bool} {cnt : Nat} (h : RngF P K E ok kl w b r n f left cnt) : r < w.heap.size := by
  obtain ⟨D, lf, h, rd, _⟩ := h
  exact h.lt
theorem RngF.ne {w : World} {b r n : Nat} {f : α → Option Int} {left : α → Bool} {cnt : Nat} (h : RngF P K E ok kl w b r n f left cnt) : r ≠ b := by
  obtain ⟨D, lf, h, rd, _⟩ := h
  exact h.ne
theorem RngF.left_eq {w : World} {b r n : Nat} {f : α → Option Int} {left : α → Bool} {cnt : Nat} (h : RngF P K E ok kl w b r n f left cnt) : w.rangeLeft b r = cnt := by
  obtain ⟨D, lf, h, rd, _⟩ := h
  exact h.left_eq
theorem RngF.stp {w w' : World} {b r n : Nat} {f : α → Option Int} {left : α → Bool} {cnt : Nat} {fp : List Nat} (h : RngF P K E ok kl w b r n f left cnt) (hs : Stp fp w w') (h1 : b ∉ fp) (h2 : r ∉ fp) : RngF P K E ok kl w' b r n f left cnt := by
  have hb := h.map.lt
  have hr := h.lt
  obtain ⟨D, lf, ⟨es, clock, since, seen, c0, q1, q2, q3, q4, q5, q6⟩, rest⟩ := h
  exact ⟨D, lf, ⟨es, clock, since, seen, c0, (hs.block b hb h1).trans q1, q2, q3, q4, (hs.block r hr h2).trans q5, q6⟩, rest⟩
theorem RngF.since {w w' : World} {b r n : Nat} {f : α → Option Int} {left : α → Bool} {cnt : Nat} (h : RngF P K E ok kl w b r n f left cnt) (hb : Below w.heap.size w w') : RngF P K E ok kl w' b r n f left cnt :=
  h.stp (fp := []) (Stp.of_below hb) (by simp) (by simp)

theorem RngF.alloc {w : World} {b r n : Nat} {f : α → Option Int} {left : α → Bool} {cnt : Nat} (h : RngF P K E ok kl w b r n f left cnt) (o : Obj) : RngF P K E ok kl (w.alloc o) b r n f left cnt := h.since ((Below.refl _ w).alloc (Nat.le_refl _) o)
theorem MapF.range (M : KM P T K E mk ok kl) {w : World} {b n : Nat} {f : α → Option Int} (h : MapF P K E ok kl w b n f) :
    ∃ (w' : World) (cnt : Nat), (Instr.range T (.map (some b))).run P w = .ok (.pointer (some ⟨w.heap.size, 0, none⟩)) w' ∧ RngF P K E ok kl w' b w.heap.size n f (fun a => (f a).isSome) cnt ∧ cnt ≤ n ∧ Below w.heap.size w w' ∧ w'.heap.size = w.heap.size + 1 := by
  obtain ⟨D, h, r⟩ := h
  obtain ⟨w', hrun, hr, hg, hs⟩ := h.range M.law M.ut
  refine ⟨w', _, hrun, ⟨D, _, hr, r, fun a ha => r.has a ha, fun a ha => ?_⟩, h.size_le, (Below.refl _ w).grown hg (Nat.le_refl _) (fun k e => by cases e), hs⟩
  obtain ⟨v, hv⟩ := Option.isSome_iff_exists.1 ha
  exact (r.ok a v hv).1

theorem RngF.next (M : KM P T K E mk ok kl) {w : World} {b r n : Nat} {f : α → Option Int} {left : α → Bool} {cnt : Nat} (h : RngF P K E ok kl w b r n f left cnt) (ty : TypeId) :
    (cnt = 0 ∧ (∀ a, left a = false) ∧ (Instr.next (.pointer (some ⟨r, 0, none⟩)) false ty).run P w = .ok (.tuple #[.bool false]) w) ∨
    ∃ (a : α) (v : Int) (w' : World) (cnt' : Nat), ok a ∧ left a = true ∧ f a = some v ∧ Amt v ∧ (Instr.next (.pointer (some ⟨r, 0, none⟩)) false ty).run P w = .ok (.tuple #[.bool true, mk a, .int .i64 v]) w' ∧
      RngF P K E ok kl w' b r n f (fun c => left c && !decide (c = a)) cnt' ∧ cnt' < cnt ∧ Stp [r] w w' ∧ w'.heap.size = w.heap.size ∧ (Instr.entry (.pointer (some ⟨r, 0, none⟩))).run P w' = .ok (.tuple #[mk a, .int .i64 v]) w' := by
  obtain ⟨D, lf, h, rd, hl, hk⟩ := h
  rcases h.next M.law ty with ⟨h0, hl0, hrun⟩ | ⟨key, v, l, y, w', cnt', hkey, hlk, hv, hat, hrun, hrg, hlt, hgr, hsz, hen⟩
  · refine .inl ⟨h0, fun a => ?_, hrun⟩
    cases hla : left a
    · rfl
    · rw [← hl a (hk a hla), hl0] at hla; cases hla
  · obtain ⟨a, ha, rfl, rfl⟩ := M.inv hkey
    obtain ⟨c, rfl, hc, hw⟩ := plainElem_int_inv M.ue hv
    have hat' : ∀ zd, D.atKey (kl a) zd = .lit (.int .i64 c) := fun zd => by rw [hat zd, hc]
    have hhas := Maps.has_true_of_atKey hat'
    rw [rd.has a ha] at hhas
    obtain ⟨u, hu⟩ := Option.isSome_iff_exists.1 hhas
    have e1 := rd.at_ a u hu .nil
    rw [hat' .nil] at e1
    injection e1 with e1; injection e1 with _ e1
    subst e1
    refine .inr ⟨a, c, w', cnt', ha, by rw [← hl a ha]; exact hlk, hu, (rd.ok a c hu).2, hrun, ⟨D, _, hrg, rd, fun d hd => ?_, fun d hd => ?_⟩, hlt, Stp.of_grown hgr (by simp), hsz, hen⟩
    · rw [hl d hd, M.same hd ha]
    · simp only [Bool.and_eq_true] at hd; exact hk d hd.1

/-! at the operation, for the walk -/

variable (w : World) {ops : Array Oper} {rest : List Oper} {o : Oper} {a : Act} {Q : Exit → Act → World → Prop}

theorem wpList_lookF (M : KM P T K E mk ok kl) (hg : o.guard = none) (m x : Operand) (hop : o.op = Op.lookup T m x false) (b n : Nat) (f : α → Option Int) (hm : a.eval m = .map (some b)) (h : MapF P K E ok kl w b n f)
    (c : α) (hx : a.eval x = mk c) (hc : ok c) (u : Int) (hu : (f c).getD 0 = u) (hK : wpList P ops Q rest (a.put o.dst (.int .i64 u)) w) : wpList P ops Q (o :: rest) a w := by
  refine wpList_plain hg fun K' hK' => ?_
  have hrun := h.look M hc
  rw [hu] at hrun
  unfold Oper.wp
  simp [execOp, hop, hm, hx, hrun, Result.andThen]
  exact hK' _ _ hK

theorem wpList_look_okF (M : KM P T K E mk ok kl) (hg : o.guard = none) (m x : Operand) (hop : o.op = Op.lookup T m x true) (b n : Nat) (f : α → Option Int) (hm : a.eval m = .map (some b)) (h : MapF P K E ok kl w b n f)
    (c : α) (hx : a.eval x = mk c) (hc : ok c) (u : Int) (hu : (f c).getD 0 = u) (t : Bool) (ht : (f c).isSome = t) (hK : wpList P ops Q rest (a.put o.dst (.tuple #[.int .i64 u, .bool t])) w) : wpList P ops Q (o :: rest) a w := by
  refine wpList_plain hg fun K' hK' => ?_
  have hrun := h.look_ok M hc
  rw [hu, ht] at hrun
  unfold Oper.wp
  simp [execOp, hop, hm, hx, hrun, Result.andThen]
  exact hK' _ _ hK

theorem wpList_storeF (M : KM P T K E mk ok kl) (hg : o.guard = none) (m x v : Operand) (hop : o.op = Op.mapUpdate T m x v) (b n : Nat) (f : α → Option Int) (hm : a.eval m = .map (some b)) (h : MapF P K E ok kl w b n f) (hn : n < maxLen)
    (c : α) (hx : a.eval x = mk c) (hc : ok c) (u : Int) (hv : a.eval v = .int .i64 u) (hu : Amt u)
    (hK : ∀ w', MapF P K E ok kl w' b (n + 1) (upd f c (some u)) → Stp [b] w w' → wpList P ops Q rest (a.put o.dst undef) w') : wpList P ops Q (o :: rest) a w := by
  refine wpList_plain hg fun K' hK' => ?_
  obtain ⟨w', hrun, r1, r2⟩ := h.store M hn hc hu
  unfold Oper.wp
  simp [execOp, hop, hm, hx, hv, hrun, Result.andThen]
  exact hK' _ _ (hK w' r1 (turned_stp r2))

theorem wpList_rangeF (M : KM P T K E mk ok kl) (hg : o.guard = none) (m : Operand) (hop : o.op = Op.range T m) (b n : Nat) (f : α → Option Int) (hm : a.eval m = .map (some b)) (h : MapF P K E ok kl w b n f)
    (hK : ∀ w' cnt, RngF P K E ok kl w' b w.heap.size n f (fun c => (f c).isSome) cnt → cnt ≤ n → Below w.heap.size w w' → wpList P ops Q rest (a.put o.dst (.pointer (some ⟨w.heap.size, 0, none⟩))) w') : wpList P ops Q (o :: rest) a w := by
  refine wpList_plain hg fun K' hK' => ?_
  obtain ⟨w', cnt, hrun, r1, r2, r3, _⟩ := h.range M
  unfold Oper.wp
  simp [execOp, hop, hm, hrun, Result.andThen]
  exact hK' _ _ (hK w' cnt r1 r2 r3)

theorem wpList_nextF (M : KM P T K E mk ok kl) (hg : o.guard = none) (it : Operand) (hop : o.op = Op.next it false) (b r n : Nat) (f : α → Option Int) (left : α → Bool) (cnt : Nat) (hit : a.eval it = .pointer (some ⟨r, 0, none⟩)) (h : RngF P K E ok kl w b r n f left cnt)
    (hDone : cnt = 0 → (∀ c, left c = false) → wpList P ops Q rest (a.put o.dst (.tuple #[.bool false])) w)
    (hMore : ∀ (c : α) (v : Int) (w' : World) (cnt' : Nat), ok c → left c = true → f c = some v → Amt v → RngF P K E ok kl w' b r n f (fun d => left d && !decide (d = c)) cnt' → cnt' < cnt → Stp [r] w w' →
      (Instr.entry (.pointer (some ⟨r, 0, none⟩))).run P w' = .ok (.tuple #[mk c, .int .i64 v]) w' → wpList P ops Q rest (a.put o.dst (.tuple #[.bool true, mk c, .int .i64 v])) w') : wpList P ops Q (o :: rest) a w := by
  refine wpList_plain hg fun K' hK' => ?_
  unfold Oper.wp
  rcases h.next M o.type with ⟨h0, hl, hrun⟩ | ⟨c, v, w', cnt', hc, hlk, hf, hv, hrun, hrg, hlt, hs, _, hen⟩
  · simp [execOp, hop, hit, hrun, Result.andThen]
    exact hK' _ _ (hDone h0 hl)
  · simp [execOp, hop, hit, hrun, Result.andThen]
    exact hK' _ _ (hMore c v w' cnt' hc hlk hf hv hrg hlt hs hen)
end
end Go.Proofs.Yteclhcjfnmkkjaa
