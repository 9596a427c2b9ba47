/-
  DERIVED. GIVEN WITH THE SEED: THE CARDS: each row of YtodpnjdofeonjaaDoorRows.lean that lists a variable, with what it lists TIED to the program's text (the seventh form; the later family's looks); each row that meets fmt, with fmt's text TOLD by the authors' own Lean function (tested against real Go, not proved from fmt's source: count such statements apart). THE CARD IS WHAT COUNTS. Prove the row's statement (the work); the ties are given (YtodpnjdofeonjaaDoorTie.lean); close each card by the builder's one call (the guide's Derived/Test/ToyasCard.lean, 'card_holds'). Laid BY PROGRAM, IN A SANDBOX (cutbox-door.mjs). By AI agents, Wed Nov 11 2026. No macro, syntax, notation, axiom, sorry.
-/
import Derived.Test.YtodpnjdofeonjaaDoorRows
import GoSem.ClaimSeven
namespace Go.Proofs.YtodpnjdofeonjaaDoor
namespace Rows

/-- THE TIED CARD OF 'sidebandlaw16.WordTexts'. -/
def wordTextsCard : Claim7 := { stood := { row := wordTextsRow, standIns := [], harness := (true, "6bd2ad0e4e5855b06c62dacf42fe0e5f7bacf96ebe89f3e7bd4584f2a52e76f3"), looks := true }, kinds := [], alts := [], laidByText := true, laidKinds := [.data, .pinned], laidTests := true, laidLooks := .later }
def WordTextsCardSaid : Prop := Claim7.holds Tryd.pinned (.plain (OpenSpec.ofChange wordTextsSpec)) wordTextsCard

/-- THE TIED CARD OF 'sidebandlaw16.WordNumbers'. -/
def wordNumbersCard : Claim7 := { stood := { row := wordNumbersRow, standIns := [], harness := (true, "6bd2ad0e4e5855b06c62dacf42fe0e5f7bacf96ebe89f3e7bd4584f2a52e76f3"), looks := true }, kinds := [], alts := [], laidByText := true, laidKinds := [.data, .data, .data, .sentinel, .sentinel], laidTests := true, laidLooks := .later }
def WordNumbersCardSaid : Prop := Claim7.holds Tryd.pinned (.plain (OpenSpec.ofChange wordNumbersSpec)) wordNumbersCard

/-- THE TIED CARD OF 'sidebandlaw16.WordSeals'. -/
def wordSealsCard : Claim7 := { stood := { row := wordSealsRow, standIns := [], harness := (true, "6bd2ad0e4e5855b06c62dacf42fe0e5f7bacf96ebe89f3e7bd4584f2a52e76f3"), looks := true }, kinds := [], alts := [], laidByText := true, laidKinds := [.data, .pinned], laidTests := true, laidLooks := .later }
def WordSealsCardSaid : Prop := Claim7.holds Tryd.pinned (.plain (OpenSpec.ofChange wordSealsSpec)) wordSealsCard

/-- THE TIED CARD OF 'sidebandlaw16.WordRules'. -/
def wordRulesCard : Claim7 := { stood := { row := wordRulesRow, standIns := [], harness := (true, "6bd2ad0e4e5855b06c62dacf42fe0e5f7bacf96ebe89f3e7bd4584f2a52e76f3"), looks := true }, kinds := [], alts := [], laidByText := true, laidKinds := [.data, .pinned], laidTests := true, laidLooks := .later }
def WordRulesCardSaid : Prop := Claim7.holds Tryd.pinned (.plain (OpenSpec.ofChange wordRulesSpec)) wordRulesCard

/-- THE SECOND FORM's CARD OF 'sidebandlaw16.WordTexts'. -/
def wordTextsUptoCard : Claim7 := { stood := { row := wordTextsUptoRow, standIns := [], harness := (true, "6bd2ad0e4e5855b06c62dacf42fe0e5f7bacf96ebe89f3e7bd4584f2a52e76f3"), looks := true }, kinds := [], alts := [], laidByText := true, laidKinds := [.data, .pinned], laidTests := true, laidLooks := .later }
def WordTextsUptoCardSaid : Prop := Claim7.holds Tryd.pinned (.plain (OpenSpec.upto wordTextsSpec)) wordTextsUptoCard

/-- THE SECOND FORM's CARD OF 'sidebandlaw16.WordNumbers'. -/
def wordNumbersUptoCard : Claim7 := { stood := { row := wordNumbersUptoRow, standIns := [], harness := (true, "6bd2ad0e4e5855b06c62dacf42fe0e5f7bacf96ebe89f3e7bd4584f2a52e76f3"), looks := true }, kinds := [], alts := [], laidByText := true, laidKinds := [.data, .data, .data, .sentinel, .sentinel], laidTests := true, laidLooks := .later }
def WordNumbersUptoCardSaid : Prop := Claim7.holds Tryd.pinned (.plain (OpenSpec.upto wordNumbersSpec)) wordNumbersUptoCard

/-- THE SECOND FORM's CARD OF 'sidebandlaw16.WordSeals'. -/
def wordSealsUptoCard : Claim7 := { stood := { row := wordSealsUptoRow, standIns := [], harness := (true, "6bd2ad0e4e5855b06c62dacf42fe0e5f7bacf96ebe89f3e7bd4584f2a52e76f3"), looks := true }, kinds := [], alts := [], laidByText := true, laidKinds := [.data, .pinned], laidTests := true, laidLooks := .later }
def WordSealsUptoCardSaid : Prop := Claim7.holds Tryd.pinned (.plain (OpenSpec.upto wordSealsSpec)) wordSealsUptoCard

/-- THE SECOND FORM's CARD OF 'sidebandlaw16.WordRules'. -/
def wordRulesUptoCard : Claim7 := { stood := { row := wordRulesUptoRow, standIns := [], harness := (true, "6bd2ad0e4e5855b06c62dacf42fe0e5f7bacf96ebe89f3e7bd4584f2a52e76f3"), looks := true }, kinds := [], alts := [], laidByText := true, laidKinds := [.data, .pinned], laidTests := true, laidLooks := .later }
def WordRulesUptoCardSaid : Prop := Claim7.holds Tryd.pinned (.plain (OpenSpec.upto wordRulesSpec)) wordRulesUptoCard
end Rows
end Go.Proofs.YtodpnjdofeonjaaDoor
