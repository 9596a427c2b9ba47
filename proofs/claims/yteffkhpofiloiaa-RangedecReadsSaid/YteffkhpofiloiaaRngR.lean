/- What the document's encoder of layer 6 gives. -/
import Derived.Test.YteffkhpofiloiaaRows
import Derived.Test.YteffkhpofiloiaaRngD
import Derived.Test.YteffkhpofiloiaaMemK
import Derived.IntWalk
import Derived.Deep.QuietTactic
import Derived.BigQuiet
import Derived.BigRegion
namespace Go.Proofs.Yteffkhpofiloiaa
open Go.RowKit
set_option linter.unusedVariables false

theorem info_int06 : (Try.prog.info? 3).map (fun i => (i.zero, i.size, i.bytes)) = some (some (.int .i64 0), 1, 8) := by kernel_rfl

section
variable {w w' : World} {base g r c : Nat} {D : List Int} {s : Int} {k : Nat}
end
/-- How far the size is from where the scaling ends. -/
def leftOf (w : World) (g : Nat) : Nat := match w.cell? ⟨g, 1, none⟩ with | some (.int _ s) => (16777216 - s).toNat | _ => 0
theorem leftOf_eq {w : World} {g : Nat} {k : IntKind} {s : Int} (h : w.cell? ⟨g, 1, none⟩ = some (.int k s)) : leftOf w g = (16777216 - s).toNat := by unfold leftOf; rw [h]
/-- What an encoder's calls write. -/
def EncF (g r : Nat) (B : Nat) (k : Nat) : Prop := k = g ∨ k = r ∨ B ≤ k

end Go.Proofs.Yteffkhpofiloiaa
