/-
  No cell of these rows narrows 'for every input' (looked for: loops, veiled, ifaces, maps, wideKeys, modest, calm, conditions, laid).
  DERIVED. THE GIVEN ROWS OF THIS SEAT. 4 by the template 'for every input the law returns true; each argument reads behind the call as it read before'; 0 by the template 'total and deterministic' (their statements: YtemmcahglkpmmaaTotals.lean).
  GIVEN WITH THE SEED: the statements are not yours to turn. If you find one false, say at which input.
  Laid BY PROGRAM, IN A SANDBOX (cutbox-rows.mjs): the forced cells as the released guide's own fill.sh prints them over the translation 050685d0a9d16a12… (all of the seat's roots in one cut). By AI agents, Wed Nov 11 2026. No macro, syntax, notation, axiom, sorry.
-/
import Derived.Test.YtemmcahglkpmmaaChecked
import GoSem.Claim
import GoSem.ClaimJoined
import GoSem.ClaimMapViews
import Derived.JoinedTies
import Derived.KernelRfl
namespace Go.Proofs.Ytemmcahglkpmmaa
/- THE CELL 'sum', in the pinned program and in every row, IS THE sha256 OF THE DUMP (.gsa) THAT YtemmcahglkpmmaaProg.lean LOADS. Nothing in Lean hashes anything: it is a label: what it is worth is what the hold of that sum in a sandbox is worth. -/
noncomputable def Try.pinned : Pinned := { name := "ytemmcahglkpmmaa", sum := "050685d0a9d16a12aa9df78b48467aa8ed956349e8b12c6078f4f43315097710", checked := Try.checked }
namespace Rows
def none {H : Type} : Left H := { results := [], args := [] }

/-- 'sidebandlaw08.LappedLines': WHATEVER THE INPUT: true; the input reads as it did. -/
def lappedLinesSpec : ChangeSpec := { name := "lappedLines", fn := fun _ => fun
  | [d1, d2] => { results := [.lit (.bool true)], args := [d1, d2] }
  | _ => none }
def lappedLinesRow : OpenClaim := { program := "ytemmcahglkpmmaa", sum := "050685d0a9d16a12aa9df78b48467aa8ed956349e8b12c6078f4f43315097710", func := "sideband/sidebandlaw08.LappedLines", spec := "lappedLines", apart := false }
def LappedLinesSaid : Prop := lappedLinesRow.holds Try.pinned (OpenSpec.ofChange lappedLinesSpec)

/-- ITS FALSE NEIGHBOUR: 'it returns false'. Refute it at one input. -/
def lappedLinesWrong : ChangeSpec := { name := "lappedLines", fn := fun _ => fun
  | [d1, d2] => { results := [.lit (.bool false)], args := [d1, d2] }
  | _ => none }
def LappedLinesWrongFalsely : Prop := lappedLinesRow.holds Try.pinned (OpenSpec.ofChange lappedLinesWrong)

/-- 'sidebandlaw08.LappedBack': WHATEVER THE INPUT: true; the input reads as it did. -/
def lappedBackSpec : ChangeSpec := { name := "lappedBack", fn := fun _ => fun
  | [d1, d2] => { results := [.lit (.bool true)], args := [d1, d2] }
  | _ => none }
def lappedBackRow : OpenClaim := { program := "ytemmcahglkpmmaa", sum := "050685d0a9d16a12aa9df78b48467aa8ed956349e8b12c6078f4f43315097710", func := "sideband/sidebandlaw08.LappedBack", spec := "lappedBack", apart := false }
def LappedBackSaid : Prop := lappedBackRow.holds Try.pinned (OpenSpec.ofChange lappedBackSpec)

/-- ITS FALSE NEIGHBOUR: 'it returns false'. Refute it at one input. -/
def lappedBackWrong : ChangeSpec := { name := "lappedBack", fn := fun _ => fun
  | [d1, d2] => { results := [.lit (.bool false)], args := [d1, d2] }
  | _ => none }
def LappedBackWrongFalsely : Prop := lappedBackRow.holds Try.pinned (OpenSpec.ofChange lappedBackWrong)

/-- 'sidebandlaw08.LappedAgain': WHATEVER THE INPUT: true; the input reads as it did. -/
def lappedAgainSpec : ChangeSpec := { name := "lappedAgain", fn := fun _ => fun
  | [d1, d2] => { results := [.lit (.bool true)], args := [d1, d2] }
  | _ => none }
def lappedAgainRow : OpenClaim := { program := "ytemmcahglkpmmaa", sum := "050685d0a9d16a12aa9df78b48467aa8ed956349e8b12c6078f4f43315097710", func := "sideband/sidebandlaw08.LappedAgain", spec := "lappedAgain", apart := false }
def LappedAgainSaid : Prop := lappedAgainRow.holds Try.pinned (OpenSpec.ofChange lappedAgainSpec)

/-- ITS FALSE NEIGHBOUR: 'it returns false'. Refute it at one input. -/
def lappedAgainWrong : ChangeSpec := { name := "lappedAgain", fn := fun _ => fun
  | [d1, d2] => { results := [.lit (.bool false)], args := [d1, d2] }
  | _ => none }
def LappedAgainWrongFalsely : Prop := lappedAgainRow.holds Try.pinned (OpenSpec.ofChange lappedAgainWrong)

/-- 'sidebandlaw08.LappedArgs': WHATEVER THE INPUT: true; the input reads as it did. -/
def lappedArgsSpec : ChangeSpec := { name := "lappedArgs", fn := fun _ => fun
  | [d1, d2, d3] => { results := [.lit (.bool true)], args := [d1, d2, d3] }
  | _ => none }
def lappedArgsRow : OpenClaim := { program := "ytemmcahglkpmmaa", sum := "050685d0a9d16a12aa9df78b48467aa8ed956349e8b12c6078f4f43315097710", func := "sideband/sidebandlaw08.LappedArgs", spec := "lappedArgs", apart := false }
def LappedArgsSaid : Prop := lappedArgsRow.holds Try.pinned (OpenSpec.ofChange lappedArgsSpec)

/-- ITS FALSE NEIGHBOUR: 'it returns false'. Refute it at one input. -/
def lappedArgsWrong : ChangeSpec := { name := "lappedArgs", fn := fun _ => fun
  | [d1, d2, d3] => { results := [.lit (.bool false)], args := [d1, d2, d3] }
  | _ => none }
def LappedArgsWrongFalsely : Prop := lappedArgsRow.holds Try.pinned (OpenSpec.ofChange lappedArgsWrong)

/- THE SECOND FORM. 'bulk': how many values and letters a reading holds, each counted each time it is reached (what is shared counts as often as it is met; a slice's spare places count too). A statement '..UptoSaid' is the law's where the arguments, and the package variables that the reading takes, are together of bulk at most 1048576: NARROWER than '..Said'. Prove '..Said' where nothing that the law and all that it calls make is longer than what came in: it says more and counts as full. Else prove '..UptoSaid'. A law counts once. -/
mutual
def uptoBulk {H : Type} : DataW H → Nat
  | .lit (.string bytes) => bytes.length + 1
  | .lit _ => 1
  | .nil => 1
  | .ptr d => uptoBulk d + 1
  | .slice elems spare => uptoBulkAll elems + uptoBulkAll spare + 1
  | .agg parts => uptoBulkAll parts + 1
  | .iface _ d => uptoBulk d + 1
  | .map entries => uptoBulkEntries entries + 1
  | .held _ => 1
def uptoBulkAll {H : Type} : List (DataW H) → Nat
  | [] => 0
  | d :: r => uptoBulk d + uptoBulkAll r
def uptoBulkEntries {H : Type} : List (Lit × DataW H) → Nat
  | [] => 0
  | x :: r => uptoBulkEntry x + uptoBulkEntries r
def uptoBulkEntry {H : Type} : Lit × DataW H → Nat
  | (.string bytes, d) => bytes.length + uptoBulk d + 1
  | (_, d) => uptoBulk d + 1
 end
def uptoSmall : (H : Type) → List (DataW H) → Bool := fun _ ds => decide (uptoBulkAll ds ≤ 1048576)
def OpenSpec.upto (s : _root_.Go.ChangeSpec) : _root_.Go.OpenSpec := { _root_.Go.OpenSpec.ofChange s with cond := some uptoSmall }

/-- 'sidebandlaw08.LappedLines', WHERE WHAT IT READS IS OF BULK AT MOST 1048576: true; the input reads as it did. -/
def lappedLinesUptoRow : OpenClaim := { program := "ytemmcahglkpmmaa", sum := "050685d0a9d16a12aa9df78b48467aa8ed956349e8b12c6078f4f43315097710", func := "sideband/sidebandlaw08.LappedLines", spec := "lappedLines", apart := false, narrowed := true }
def LappedLinesUptoSaid : Prop := lappedLinesUptoRow.holds Try.pinned (OpenSpec.upto lappedLinesSpec)

/-- 'sidebandlaw08.LappedBack', WHERE WHAT IT READS IS OF BULK AT MOST 1048576: true; the input reads as it did. -/
def lappedBackUptoRow : OpenClaim := { program := "ytemmcahglkpmmaa", sum := "050685d0a9d16a12aa9df78b48467aa8ed956349e8b12c6078f4f43315097710", func := "sideband/sidebandlaw08.LappedBack", spec := "lappedBack", apart := false, narrowed := true }
def LappedBackUptoSaid : Prop := lappedBackUptoRow.holds Try.pinned (OpenSpec.upto lappedBackSpec)

/-- 'sidebandlaw08.LappedAgain', WHERE WHAT IT READS IS OF BULK AT MOST 1048576: true; the input reads as it did. -/
def lappedAgainUptoRow : OpenClaim := { program := "ytemmcahglkpmmaa", sum := "050685d0a9d16a12aa9df78b48467aa8ed956349e8b12c6078f4f43315097710", func := "sideband/sidebandlaw08.LappedAgain", spec := "lappedAgain", apart := false, narrowed := true }
def LappedAgainUptoSaid : Prop := lappedAgainUptoRow.holds Try.pinned (OpenSpec.upto lappedAgainSpec)

/-- 'sidebandlaw08.LappedArgs', WHERE WHAT IT READS IS OF BULK AT MOST 1048576: true; the input reads as it did. -/
def lappedArgsUptoRow : OpenClaim := { program := "ytemmcahglkpmmaa", sum := "050685d0a9d16a12aa9df78b48467aa8ed956349e8b12c6078f4f43315097710", func := "sideband/sidebandlaw08.LappedArgs", spec := "lappedArgs", apart := false, narrowed := true }
def LappedArgsUptoSaid : Prop := lappedArgsUptoRow.holds Try.pinned (OpenSpec.upto lappedArgsSpec)

end Rows
end Go.Proofs.Ytemmcahglkpmmaa
