/- What Ceilings of package energy gives, and the document's. -/
import Derived.Test.YtgjmpjfcnibgmaaEngA
namespace Go.Proofs.Ytgjmpjfcnibgmaa
open Go.RowKit
set_option linter.unusedVariables false

theorem infoE_int : (Try.prog.info? 3).map (fun i => (i.zero, i.size, i.bytes)) = some (some (.int .i64 0), 1, 8) := by kernel_rfl
theorem edges_at {w : World} {B b off : Nat} (h : IntsAt w B .i64 (some ⟨b, off, none⟩) 22 edgesL) {k : Nat} (hk : k < 22) : w.cell? ⟨b, off + k, none⟩ = some (.int .i64 (edgeK k : Int)) := by
  rw [ints_cell h hk, ← edgeK_eq hk]; rfl
/-- What ceilings' making leaves. -/
def CeilPost (x : Nat → Int) (w : World) (e : Ending) (w' : World) : Prop :=
  ∃ g, e = .returned (.tuple #[.slice (some ⟨g, 0, none⟩) 21 21, .int .i64 0]) ∧ IFun w' g 3 .i64 21 (ceilF x) ∧ w.heap.size ≤ g ∧ Below w.heap.size w w'
end Go.Proofs.Ytgjmpjfcnibgmaa
