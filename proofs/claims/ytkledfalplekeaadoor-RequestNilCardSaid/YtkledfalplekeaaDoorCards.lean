/-
  DERIVED. GIVEN WITH THE SEED: THE CARDS: each row of YtkledfalplekeaaDoorRows.lean that lists a variable, with what it lists TIED to the program's text (the seventh form; the later family's looks); each row that meets fmt, with fmt's text TOLD by the authors' own Lean function (tested against real Go, not proved from fmt's source: count such statements apart). THE CARD IS WHAT COUNTS. Prove the row's statement (the work); the ties are given (YtkledfalplekeaaDoorTie.lean); close each card by the builder's one call (the guide's Derived/Test/ToyasCard.lean, 'card_holds'). Laid BY PROGRAM, IN A SANDBOX (cutbox-door.mjs). By AI agents, Wed Nov 11 2026. No macro, syntax, notation, axiom, sorry.
-/
import Derived.Test.YtkledfalplekeaaDoorRows
import GoSem.ClaimSeven
namespace Go.Proofs.YtkledfalplekeaaDoor
namespace Rows

/-- THE TIED CARD OF 'sidebandlaw17.RequestReads'. -/
def requestReadsCard : Claim7 := { stood := { row := requestReadsRow, standIns := [], harness := (true, "21e2e1414acafe1f7917b45abcc37180e623ce842d134ad57caec082d71076f3"), looks := false }, kinds := [], alts := [], laidByText := true, laidKinds := [.data, .pinned], laidTests := true, laidLooks := .later }
def RequestReadsCardSaid : Prop := Claim7.holds Tryd.pinned (.plain (OpenSpec.ofChange requestReadsSpec)) requestReadsCard

/-- THE TIED CARD OF 'sidebandlaw17.RequestAsks'. -/
def requestAsksCard : Claim7 := { stood := { row := requestAsksRow, standIns := [], harness := (true, "21e2e1414acafe1f7917b45abcc37180e623ce842d134ad57caec082d71076f3"), looks := false }, kinds := [], alts := [], laidByText := true, laidKinds := [.data, .pinned], laidTests := true, laidLooks := .later }
def RequestAsksCardSaid : Prop := Claim7.holds Tryd.pinned (.plain (OpenSpec.ofChange requestAsksSpec)) requestAsksCard

/-- THE TIED CARD OF 'sidebandlaw17.RequestNil'. -/
def requestNilCard : Claim7 := { stood := { row := requestNilRow, standIns := [], harness := (true, "21e2e1414acafe1f7917b45abcc37180e623ce842d134ad57caec082d71076f3"), looks := false }, kinds := [], alts := [], laidByText := true, laidKinds := [.data, .pinned], laidTests := true, laidLooks := .later }
def RequestNilCardSaid : Prop := Claim7.holds Tryd.pinned (.plain (OpenSpec.ofChange requestNilSpec)) requestNilCard

/-- THE SECOND FORM's CARD OF 'sidebandlaw17.RequestReads'. -/
def requestReadsUptoCard : Claim7 := { stood := { row := requestReadsUptoRow, standIns := [], harness := (true, "21e2e1414acafe1f7917b45abcc37180e623ce842d134ad57caec082d71076f3"), looks := false }, kinds := [], alts := [], laidByText := true, laidKinds := [.data, .pinned], laidTests := true, laidLooks := .later }
def RequestReadsUptoCardSaid : Prop := Claim7.holds Tryd.pinned (.plain (OpenSpec.upto requestReadsSpec)) requestReadsUptoCard

/-- THE SECOND FORM's CARD OF 'sidebandlaw17.RequestAsks'. -/
def requestAsksUptoCard : Claim7 := { stood := { row := requestAsksUptoRow, standIns := [], harness := (true, "21e2e1414acafe1f7917b45abcc37180e623ce842d134ad57caec082d71076f3"), looks := false }, kinds := [], alts := [], laidByText := true, laidKinds := [.data, .pinned], laidTests := true, laidLooks := .later }
def RequestAsksUptoCardSaid : Prop := Claim7.holds Tryd.pinned (.plain (OpenSpec.upto requestAsksSpec)) requestAsksUptoCard

/-- THE SECOND FORM's CARD OF 'sidebandlaw17.RequestNil'. -/
def requestNilUptoCard : Claim7 := { stood := { row := requestNilUptoRow, standIns := [], harness := (true, "21e2e1414acafe1f7917b45abcc37180e623ce842d134ad57caec082d71076f3"), looks := false }, kinds := [], alts := [], laidByText := true, laidKinds := [.data, .pinned], laidTests := true, laidLooks := .later }
def RequestNilUptoCardSaid : Prop := Claim7.holds Tryd.pinned (.plain (OpenSpec.upto requestNilSpec)) requestNilUptoCard
end Rows
end Go.Proofs.YtkledfalplekeaaDoor
