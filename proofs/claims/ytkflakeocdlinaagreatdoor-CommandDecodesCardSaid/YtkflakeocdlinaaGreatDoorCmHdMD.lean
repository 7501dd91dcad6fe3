/-
  What the rows of layer 18 give of the library's variables.
-/
import Derived.Test.YtkflakeocdlinaaGreatDoorCards
import Derived.Test.YtkflakeocdlinaaGreatDoorTie
import Derived.Test.YtkflakeocdlinaaGreatDoorMD07
import Derived.Test.YtkflakeocdlinaaGreatDoorShelfMD
import Derived.Lay
import Derived.ProofKit
import Derived.LaidMore
import Derived.Stop.Joined
import Derived.Stop.LaidErr
import Derived.SevenTiedAt
import Derived.LaidOnce
import Derived.JoinedCond
import Derived.Lib.LaidTab
import Derived.LaidLaws
namespace Go.Proofs.YtkflakeocdlinaaGreatDoor
open Go.ChangeShapes Go.WideShapes Go.ChangeAt Go.RowKit

theorem own18 : ownKnob Tryz.prog.godebug = none := by kernel_rfl
theorem laidOut18 : laidOutB Tryz.prog = true := by kernel_rfl
theorem gTen18 : Tryz.prog.globalNamed "internal/strconv.uint64pow10" = some 1 := by kernel_rfl
theorem gTenType18 : (Tryz.prog.globals[1]?).map (·.type) = some 161 := by kernel_rfl
theorem cellsTen18 : Tryz.prog.cellsOf 161 = 20 := by kernel_rfl
theorem cellsU64t18 : Tryz.prog.cellsOf 90 = 1 := by kernel_rfl
theorem ten_data18 {H : Type} : (Rows.laid_internal_strconv_uint64pow10 : DataW H) = Lib.tabData .u64 Lib.pow10Tab := by kernel_rfl
theorem gSyn18 : Tryz.prog.globalNamed "strconv.ErrSyntax" = some 4 := by kernel_rfl
theorem gSynType18 : (Tryz.prog.globals[4]?).map (·.type) = some 100 := by kernel_rfl
theorem gRan18 : Tryz.prog.globalNamed "strconv.ErrRange" = some 5 := by kernel_rfl
theorem gRanType18 : (Tryz.prog.globals[5]?).map (·.type) = some 100 := by kernel_rfl
theorem cellsErr18 : Tryz.prog.cellsOf 178 = 1 := by kernel_rfl
theorem cellsStr18 : Tryz.prog.cellsOf 9 = 1 := by kernel_rfl
theorem star18 : "*" ++ "errors.errorString" = "*errors.errorString" := by decide
theorem rowErr18 (u : TypeId) (h : Tryz.prog.typeName? 3 u = some "*errors.errorString") : u = 176 :=
  typeName_ptr_named (nm := "errors.errorString") (by rw [star18]; kernel_rfl) (by kernel_rfl) (by decide) u (by rw [star18]; exact h)

/-- the seven that are listed -/
noncomputable def laid7 : List (String × DataW Unit) := Rows.commandParsesRow.laid

/-- what the rows' list gives -/
theorem vars_of {W : World} (h : laidMetH Tryz.prog Rows.commandParsesRow.laid W) (hsh : W.ShapedOpen Tryz.prog) : Vars W := by
  rw [MakeChecks.laidMetH_plain _ _ _ (by kernel_rfl)] at h
  have h2 := laidMet.tail (laidMet.tail h)
  have h4 := laidMet.tail (laidMet.tail h2)
  have h5 := laidMet.tail h4
  rw [ten_data18] at h2
  obtain ⟨a1, s1, hv1, _⟩ := laid_sentinel h4 gRan18 gRanType18 Tryz.underlying100 rowErr18 Tryz.underlying176 Tryz.underlying178 rfl rfl Tryz.underlying9 cellsErr18 cellsStr18
  obtain ⟨a2, s2, hv2, _⟩ := laid_sentinel h5 gSyn18 gSynType18 Tryz.underlying100 rowErr18 Tryz.underlying176 Tryz.underlying178 rfl rfl Tryz.underlying9 cellsErr18 cellsStr18
  have c1 := World.var?_cell gRan18 hv1 0
  have c2 := World.var?_cell gSyn18 hv2 0
  exact ⟨Lib.tabIs_of_head gTen18 gTenType18 Tryz.underlying161 Tryz.underlying90 cellsU64t18 cellsTen18 h2, Tryz.laysM143.s1_3 W hsh, ⟨_, _, c2⟩, ⟨_, _, c1⟩⟩
end Go.Proofs.YtkflakeocdlinaaGreatDoor
