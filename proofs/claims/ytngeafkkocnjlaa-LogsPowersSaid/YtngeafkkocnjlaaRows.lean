/-
  No cell of these rows narrows 'for every input' (looked for: loops, veiled, ifaces, maps, wideKeys, modest, calm, conditions, laid).
  DERIVED. THE GIVEN ROWS OF THIS SEAT. 3 by the template 'for every input the law returns true; each argument reads behind the call as it read before'; 0 by the template 'total and deterministic' (their statements: YtngeafkkocnjlaaTotals.lean).
  GIVEN WITH THE SEED: the statements are not yours to turn. If you find one false, say at which input.
  Laid BY PROGRAM, IN A SANDBOX (cutbox-rows.mjs): the forced cells as the released guide's own fill.sh prints them over the translation a0107b319908180f… (all of the seat's roots in one cut). By AI agents, Wed Nov 11 2026. No macro, syntax, notation, axiom, sorry.
-/
import Derived.Test.YtngeafkkocnjlaaChecked
import GoSem.Claim
import GoSem.ClaimJoined
import GoSem.ClaimMapViews
import Derived.JoinedTies
import Derived.KernelRfl
namespace Go.Proofs.Ytngeafkkocnjlaa
/- THE CELL 'sum', in the pinned program and in every row, IS THE sha256 OF THE DUMP (.gsa) THAT YtngeafkkocnjlaaProg.lean LOADS. Nothing in Lean hashes anything: it is a label: what it is worth is what the hold of that sum in a sandbox is worth. -/
noncomputable def Try.pinned : Pinned := { name := "ytngeafkkocnjlaa", sum := "a0107b319908180f591fadde5fb326cf1acac1cbd5343fe913efee78a31716f0", checked := Try.checked }
namespace Rows
def none {H : Type} : Left H := { results := [], args := [] }

/-- 'sidebandlaw02.LogsPowers': WHATEVER THE INPUT: true; the input reads as it did. -/
def logsPowersSpec : ChangeSpec := { name := "logsPowers", fn := fun _ => fun
  | [d1, d2] => { results := [.lit (.bool true)], args := [d1, d2] }
  | _ => none }
def logsPowersRow : OpenClaim := { program := "ytngeafkkocnjlaa", sum := "a0107b319908180f591fadde5fb326cf1acac1cbd5343fe913efee78a31716f0", func := "sideband/sidebandlaw02.LogsPowers", spec := "logsPowers", apart := false }
def LogsPowersSaid : Prop := logsPowersRow.holds Try.pinned (OpenSpec.ofChange logsPowersSpec)

/-- ITS FALSE NEIGHBOUR: 'it returns false'. Refute it at one input. -/
def logsPowersWrong : ChangeSpec := { name := "logsPowers", fn := fun _ => fun
  | [d1, d2] => { results := [.lit (.bool false)], args := [d1, d2] }
  | _ => none }
def LogsPowersWrongFalsely : Prop := logsPowersRow.holds Try.pinned (OpenSpec.ofChange logsPowersWrong)

/-- 'sidebandlaw02.LogsSums': WHATEVER THE INPUT: true; the input reads as it did. -/
def logsSumsSpec : ChangeSpec := { name := "logsSums", fn := fun _ => fun
  | [d] => { results := [.lit (.bool true)], args := [d] }
  | _ => none }
def logsSumsRow : OpenClaim := { program := "ytngeafkkocnjlaa", sum := "a0107b319908180f591fadde5fb326cf1acac1cbd5343fe913efee78a31716f0", func := "sideband/sidebandlaw02.LogsSums", spec := "logsSums", apart := false }
def LogsSumsSaid : Prop := logsSumsRow.holds Try.pinned (OpenSpec.ofChange logsSumsSpec)

/-- ITS FALSE NEIGHBOUR: 'it returns false'. Refute it at one input. -/
def logsSumsWrong : ChangeSpec := { name := "logsSums", fn := fun _ => fun
  | [d] => { results := [.lit (.bool false)], args := [d] }
  | _ => none }
def LogsSumsWrongFalsely : Prop := logsSumsRow.holds Try.pinned (OpenSpec.ofChange logsSumsWrong)

/-- 'sidebandlaw02.LogsRise': WHATEVER THE INPUT: true; the input reads as it did. -/
def logsRiseSpec : ChangeSpec := { name := "logsRise", fn := fun _ => fun
  | [d1, d2] => { results := [.lit (.bool true)], args := [d1, d2] }
  | _ => none }
def logsRiseRow : OpenClaim := { program := "ytngeafkkocnjlaa", sum := "a0107b319908180f591fadde5fb326cf1acac1cbd5343fe913efee78a31716f0", func := "sideband/sidebandlaw02.LogsRise", spec := "logsRise", apart := false }
def LogsRiseSaid : Prop := logsRiseRow.holds Try.pinned (OpenSpec.ofChange logsRiseSpec)

/-- ITS FALSE NEIGHBOUR: 'it returns false'. Refute it at one input. -/
def logsRiseWrong : ChangeSpec := { name := "logsRise", fn := fun _ => fun
  | [d1, d2] => { results := [.lit (.bool false)], args := [d1, d2] }
  | _ => none }
def LogsRiseWrongFalsely : Prop := logsRiseRow.holds Try.pinned (OpenSpec.ofChange logsRiseWrong)

/- THE SECOND FORM. 'bulk': how many values and letters a reading holds, each counted each time it is reached (what is shared counts as often as it is met; a slice's spare places count too). A statement '..UptoSaid' is the law's where the arguments, and the package variables that the reading takes, are together of bulk at most 1048576: NARROWER than '..Said'. Prove '..Said' where nothing that the law and all that it calls make is longer than what came in: it says more and counts as full. Else prove '..UptoSaid'. A law counts once. -/
mutual
def uptoBulk {H : Type} : DataW H → Nat
  | .lit (.string bytes) => bytes.length + 1
  | .lit _ => 1
  | .nil => 1
  | .ptr d => uptoBulk d + 1
  | .slice elems spare => uptoBulkAll elems + uptoBulkAll spare + 1
  | .agg parts => uptoBulkAll parts + 1
  | .iface _ d => uptoBulk d + 1
  | .map entries => uptoBulkEntries entries + 1
  | .held _ => 1
def uptoBulkAll {H : Type} : List (DataW H) → Nat
  | [] => 0
  | d :: r => uptoBulk d + uptoBulkAll r
def uptoBulkEntries {H : Type} : List (Lit × DataW H) → Nat
  | [] => 0
  | x :: r => uptoBulkEntry x + uptoBulkEntries r
def uptoBulkEntry {H : Type} : Lit × DataW H → Nat
  | (.string bytes, d) => bytes.length + uptoBulk d + 1
  | (_, d) => uptoBulk d + 1
 end
def uptoSmall : (H : Type) → List (DataW H) → Bool := fun _ ds => decide (uptoBulkAll ds ≤ 1048576)
def OpenSpec.upto (s : _root_.Go.ChangeSpec) : _root_.Go.OpenSpec := { _root_.Go.OpenSpec.ofChange s with cond := some uptoSmall }

/-- 'sidebandlaw02.LogsPowers', WHERE WHAT IT READS IS OF BULK AT MOST 1048576: true; the input reads as it did. -/
def logsPowersUptoRow : OpenClaim := { program := "ytngeafkkocnjlaa", sum := "a0107b319908180f591fadde5fb326cf1acac1cbd5343fe913efee78a31716f0", func := "sideband/sidebandlaw02.LogsPowers", spec := "logsPowers", apart := false, narrowed := true }
def LogsPowersUptoSaid : Prop := logsPowersUptoRow.holds Try.pinned (OpenSpec.upto logsPowersSpec)

/-- 'sidebandlaw02.LogsSums', WHERE WHAT IT READS IS OF BULK AT MOST 1048576: true; the input reads as it did. -/
def logsSumsUptoRow : OpenClaim := { program := "ytngeafkkocnjlaa", sum := "a0107b319908180f591fadde5fb326cf1acac1cbd5343fe913efee78a31716f0", func := "sideband/sidebandlaw02.LogsSums", spec := "logsSums", apart := false, narrowed := true }
def LogsSumsUptoSaid : Prop := logsSumsUptoRow.holds Try.pinned (OpenSpec.upto logsSumsSpec)

/-- 'sidebandlaw02.LogsRise', WHERE WHAT IT READS IS OF BULK AT MOST 1048576: true; the input reads as it did. -/
def logsRiseUptoRow : OpenClaim := { program := "ytngeafkkocnjlaa", sum := "a0107b319908180f591fadde5fb326cf1acac1cbd5343fe913efee78a31716f0", func := "sideband/sidebandlaw02.LogsRise", spec := "logsRise", apart := false, narrowed := true }
def LogsRiseUptoSaid : Prop := logsRiseUptoRow.holds Try.pinned (OpenSpec.upto logsRiseSpec)

end Rows
end Go.Proofs.Ytngeafkkocnjlaa
