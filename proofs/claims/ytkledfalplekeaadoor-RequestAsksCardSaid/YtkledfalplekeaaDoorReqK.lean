/- What the statements' rows list of the library's variables, as the walks ask for it; a law's four numbers. -/
import Derived.Test.YtkledfalplekeaaDoorRows
import Derived.Test.YtkledfalplekeaaDoorReqC
import Derived.Test.YtkledfalplekeaaDoorReqB
import Derived.Lib.LaidU8T
import Derived.LaidLaws
import Derived.MakeChecks
namespace Go.Proofs.YtkledfalplekeaaDoor
open Go.Shelf Go.Lib Go.RowKit
set_option linter.unusedVariables false

theorem first_is17 : Rows.laid_unicode_utf8_first = Lib.firstData := by kernel_rfl
theorem accept_is17 : (Rows.laid_unicode_utf8_acceptRanges : DataW Unit) = Lib.acceptData := by kernel_rfl
theorem u8types17 : U8Types Tryd.prog Tryd.lays197_ren := { Tryd.lays197 with }
theorem u8extra17 : U8Extra Tryd.prog Tryd.lays197_ren := { n3 := by kernel_rfl, n4 := by kernel_rfl, y3 := by kernel_rfl, y4 := by kernel_rfl, c5 := by kernel_rfl, c119 := by kernel_rfl, c138 := by kernel_rfl }
theorem utf8_of17 {W : World} (h : laidMetH Tryd.prog [("unicode/utf8.acceptRanges", Rows.laid_unicode_utf8_acceptRanges), ("unicode/utf8.first", Rows.laid_unicode_utf8_first)] W) :
    Lib.Utf8Tabs 1 2 W := by
  rw [MakeChecks.laidMetH_plain _ _ _ (by kernel_rfl)] at h
  rw [first_is17, accept_is17] at h
  exact utf8Tabs_of_readsT u8types17 u8extra17 (laidMet.reads h (by simp)) (laidMet.reads h (by simp))
theorem bounds_u817 {z : Int} (h : (Lit.int .u8 z).wf = true) : 0 ≤ z ∧ z ≤ 255 := by
  have e1 : IntKind.u8.min = 0 := rfl
  have e2 : IntKind.u8.max = 255 := rfl
  simp [Lit.wf, e1, e2] at h
  exact h
theorem asks_law17 (l : List Int) (s : ByteArray) (w : World) (hl : l.length = 4 ∧ ∀ x ∈ l, (Lit.int .u8 x).wf = true) (hT : Lib.Utf8Tabs 1 2 w) :
    Calls Tryd.prog 4 #[.agg (l.map (Value.int .u8)).toArray, .string s] w fun e w' => e = .returned (.bool true) ∧ Below w.heap.size w w' := by
  obtain ⟨h4, hw⟩ := hl
  match l, h4, hw with
  | [h0, h1, h2, h3], _, hw =>
    exact requestAsks_law h0 h1 h2 h3 s w (bounds_u817 (hw h0 (by simp))) (bounds_u817 (hw h1 (by simp))) (bounds_u817 (hw h2 (by simp))) (bounds_u817 (hw h3 (by simp))) hT
end Go.Proofs.YtkledfalplekeaaDoor
