/- A word of mine for regions that draw their order: the condition that is held may be made stronger on the way. -/
import Derived.Deep.RegionHeld3
namespace Go.Proofs.YtebfjmjdcbeekaaDoor
open Go
set_option linter.unusedVariables false

theorem wpAnyH_strong {P : Program} {ops : Array Oper} {Q : Exit → Act → World → Prop} {md : Region.Mode} {S1 S2 : World → Prop} (hs : ∀ w, S2 w → S1 w) :
    ∀ {fuel : Nat} {listed : Array Bool} {a : Act} {w : World}, wpAnyH P md ops Q S2 fuel listed a w → wpAnyH P md ops Q S1 fuel listed a w := by
  intro fuel
  induction fuel with
  | zero => intro _ _ _ h; exact h
  | succ fuel ih =>
    intro listed a w h
    exact ⟨h.1, fun i hi => wpOp_mono (fun a' w' h' => ⟨hs w' h'.1, ih h'.2⟩) (h.2 i hi)⟩
end Go.Proofs.YtebfjmjdcbeekaaDoor
