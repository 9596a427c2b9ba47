/-
  DERIVED. GIVEN WITH THE SEED: THE CARDS: each row of YtebfjmjdcbeekaaDoorRows.lean that lists a variable, with what it lists TIED to the program's text (the seventh form; the later family's looks); each row that meets fmt, with fmt's text TOLD by the authors' own Lean function (tested against real Go, not proved from fmt's source: count such statements apart). THE CARD IS WHAT COUNTS. Prove the row's statement (the work); the ties are given (YtebfjmjdcbeekaaDoorTie.lean); close each card by the builder's one call (the guide's Derived/Test/ToyasCard.lean, 'card_holds'). Laid BY PROGRAM, IN A SANDBOX (cutbox-door.mjs). By AI agents, Wed Nov 11 2026. No macro, syntax, notation, axiom, sorry.
-/
import Derived.Test.YtebfjmjdcbeekaaDoorRows
import GoSem.ClaimSeven
namespace Go.Proofs.YtebfjmjdcbeekaaDoor
namespace Rows

/-- THE TIED CARD OF 'sidebandlaw20.WeaveParts'. -/
def weavePartsCard : Claim7 := { stood := { row := weavePartsRow, standIns := [], harness := (true, "ff64475413139e63844b6625da49c2f7fa7d4ddde2b8a3457760d34fa091aced"), looks := true }, kinds := [], alts := [], laidByText := true, laidKinds := [.data, .pinned], laidTests := true, laidLooks := .later }
def WeavePartsCardSaid : Prop := Claim7.holds Tryd.pinned (.plain (OpenSpec.ofChange weavePartsSpec)) weavePartsCard

/-- THE TIED CARD OF 'sidebandlaw20.WeaveAgain'. -/
def weaveAgainCard : Claim7 := { stood := { row := weaveAgainRow, standIns := [], harness := (true, "ff64475413139e63844b6625da49c2f7fa7d4ddde2b8a3457760d34fa091aced"), looks := true }, kinds := [], alts := [], laidByText := true, laidKinds := [.data, .pinned], laidTests := true, laidLooks := .later }
def WeaveAgainCardSaid : Prop := Claim7.holds Tryd.pinned (.plain (OpenSpec.ofChange weaveAgainSpec)) weaveAgainCard

/-- THE TIED CARD OF 'sidebandlaw20.WeaveArgs'. -/
def weaveArgsCard : Claim7 := { stood := { row := weaveArgsRow, standIns := [], harness := (true, "ff64475413139e63844b6625da49c2f7fa7d4ddde2b8a3457760d34fa091aced"), looks := true }, kinds := [], alts := [], laidByText := true, laidKinds := [.data, .pinned], laidTests := true, laidLooks := .later }
def WeaveArgsCardSaid : Prop := Claim7.holds Tryd.pinned (.plain (OpenSpec.ofChange weaveArgsSpec)) weaveArgsCard

/-- THE SECOND FORM's CARD OF 'sidebandlaw20.WeaveParts'. -/
def weavePartsUptoCard : Claim7 := { stood := { row := weavePartsUptoRow, standIns := [], harness := (true, "ff64475413139e63844b6625da49c2f7fa7d4ddde2b8a3457760d34fa091aced"), looks := true }, kinds := [], alts := [], laidByText := true, laidKinds := [.data, .pinned], laidTests := true, laidLooks := .later }
def WeavePartsUptoCardSaid : Prop := Claim7.holds Tryd.pinned (.plain (OpenSpec.upto weavePartsSpec)) weavePartsUptoCard

/-- THE SECOND FORM's CARD OF 'sidebandlaw20.WeaveAgain'. -/
def weaveAgainUptoCard : Claim7 := { stood := { row := weaveAgainUptoRow, standIns := [], harness := (true, "ff64475413139e63844b6625da49c2f7fa7d4ddde2b8a3457760d34fa091aced"), looks := true }, kinds := [], alts := [], laidByText := true, laidKinds := [.data, .pinned], laidTests := true, laidLooks := .later }
def WeaveAgainUptoCardSaid : Prop := Claim7.holds Tryd.pinned (.plain (OpenSpec.upto weaveAgainSpec)) weaveAgainUptoCard

/-- THE SECOND FORM's CARD OF 'sidebandlaw20.WeaveArgs'. -/
def weaveArgsUptoCard : Claim7 := { stood := { row := weaveArgsUptoRow, standIns := [], harness := (true, "ff64475413139e63844b6625da49c2f7fa7d4ddde2b8a3457760d34fa091aced"), looks := true }, kinds := [], alts := [], laidByText := true, laidKinds := [.data, .pinned], laidTests := true, laidLooks := .later }
def WeaveArgsUptoCardSaid : Prop := Claim7.holds Tryd.pinned (.plain (OpenSpec.upto weaveArgsSpec)) weaveArgsUptoCard
end Rows
end Go.Proofs.YtebfjmjdcbeekaaDoor
