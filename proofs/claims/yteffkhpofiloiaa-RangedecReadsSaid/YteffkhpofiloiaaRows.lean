/-
  No cell of these rows narrows 'for every input' (looked for: loops, veiled, ifaces, maps, wideKeys, modest, calm, conditions, laid).
  DERIVED. THE GIVEN ROWS OF THIS SEAT. 3 by the template 'for every input the law returns true; each argument reads behind the call as it read before'; 0 by the template 'total and deterministic' (their statements: YteffkhpofiloiaaTotals.lean).
  GIVEN WITH THE SEED: the statements are not yours to turn. If you find one false, say at which input.
  Laid BY PROGRAM, IN A SANDBOX (cutbox-rows.mjs): the forced cells as the released guide's own fill.sh prints them over the translation 1ec41db6e971361d… (all of the seat's roots in one cut). By AI agents, Wed Nov 11 2026. No macro, syntax, notation, axiom, sorry.
-/
import Derived.Test.YteffkhpofiloiaaChecked
import GoSem.Claim
import GoSem.ClaimJoined
import GoSem.ClaimMapViews
import Derived.JoinedTies
import Derived.KernelRfl
namespace Go.Proofs.Yteffkhpofiloiaa
/- THE CELL 'sum', in the pinned program and in every row, IS THE sha256 OF THE DUMP (.gsa) THAT YteffkhpofiloiaaProg.lean LOADS. Nothing in Lean hashes anything: it is a label: what it is worth is what the hold of that sum in a sandbox is worth. -/
noncomputable def Try.pinned : Pinned := { name := "yteffkhpofiloiaa", sum := "1ec41db6e971361d19a859bf46285c93d35c1e8efbe5dbfc61ce324b5440d669", checked := Try.checked }
namespace Rows
def none {H : Type} : Left H := { results := [], args := [] }

/-- 'sidebandlaw07.RangedecReads': WHATEVER THE INPUT: true; the input reads as it did. -/
def rangedecReadsSpec : ChangeSpec := { name := "rangedecReads", fn := fun _ => fun
  | [d1, d2, d3] => { results := [.lit (.bool true)], args := [d1, d2, d3] }
  | _ => none }
def rangedecReadsRow : OpenClaim := { program := "yteffkhpofiloiaa", sum := "1ec41db6e971361d19a859bf46285c93d35c1e8efbe5dbfc61ce324b5440d669", func := "sideband/sidebandlaw07.RangedecReads", spec := "rangedecReads", apart := false }
def RangedecReadsSaid : Prop := rangedecReadsRow.holds Try.pinned (OpenSpec.ofChange rangedecReadsSpec)

/-- ITS FALSE NEIGHBOUR: 'it returns false'. Refute it at one input. -/
def rangedecReadsWrong : ChangeSpec := { name := "rangedecReads", fn := fun _ => fun
  | [d1, d2, d3] => { results := [.lit (.bool false)], args := [d1, d2, d3] }
  | _ => none }
def RangedecReadsWrongFalsely : Prop := rangedecReadsRow.holds Try.pinned (OpenSpec.ofChange rangedecReadsWrong)

/-- 'sidebandlaw07.RangedecAgain': WHATEVER THE INPUT: true; the input reads as it did. -/
def rangedecAgainSpec : ChangeSpec := { name := "rangedecAgain", fn := fun _ => fun
  | [d1, d2, d3] => { results := [.lit (.bool true)], args := [d1, d2, d3] }
  | _ => none }
def rangedecAgainRow : OpenClaim := { program := "yteffkhpofiloiaa", sum := "1ec41db6e971361d19a859bf46285c93d35c1e8efbe5dbfc61ce324b5440d669", func := "sideband/sidebandlaw07.RangedecAgain", spec := "rangedecAgain", apart := false }
def RangedecAgainSaid : Prop := rangedecAgainRow.holds Try.pinned (OpenSpec.ofChange rangedecAgainSpec)

/-- ITS FALSE NEIGHBOUR: 'it returns false'. Refute it at one input. -/
def rangedecAgainWrong : ChangeSpec := { name := "rangedecAgain", fn := fun _ => fun
  | [d1, d2, d3] => { results := [.lit (.bool false)], args := [d1, d2, d3] }
  | _ => none }
def RangedecAgainWrongFalsely : Prop := rangedecAgainRow.holds Try.pinned (OpenSpec.ofChange rangedecAgainWrong)

/-- 'sidebandlaw07.RangedecNil': WHATEVER THE INPUT: true; the input reads as it did. -/
def rangedecNilSpec : ChangeSpec := { name := "rangedecNil", fn := fun _ => fun
  | [d] => { results := [.lit (.bool true)], args := [d] }
  | _ => none }
def rangedecNilRow : OpenClaim := { program := "yteffkhpofiloiaa", sum := "1ec41db6e971361d19a859bf46285c93d35c1e8efbe5dbfc61ce324b5440d669", func := "sideband/sidebandlaw07.RangedecNil", spec := "rangedecNil", apart := false }
def RangedecNilSaid : Prop := rangedecNilRow.holds Try.pinned (OpenSpec.ofChange rangedecNilSpec)

/-- ITS FALSE NEIGHBOUR: 'it returns false'. Refute it at one input. -/
def rangedecNilWrong : ChangeSpec := { name := "rangedecNil", fn := fun _ => fun
  | [d] => { results := [.lit (.bool false)], args := [d] }
  | _ => none }
def RangedecNilWrongFalsely : Prop := rangedecNilRow.holds Try.pinned (OpenSpec.ofChange rangedecNilWrong)

/- THE SECOND FORM. 'bulk': how many values and letters a reading holds, each counted each time it is reached (what is shared counts as often as it is met; a slice's spare places count too). A statement '..UptoSaid' is the law's where the arguments, and the package variables that the reading takes, are together of bulk at most 1048576: NARROWER than '..Said'. Prove '..Said' where nothing that the law and all that it calls make is longer than what came in: it says more and counts as full. Else prove '..UptoSaid'. A law counts once. -/
mutual
def uptoBulk {H : Type} : DataW H → Nat
  | .lit (.string bytes) => bytes.length + 1
  | .lit _ => 1
  | .nil => 1
  | .ptr d => uptoBulk d + 1
  | .slice elems spare => uptoBulkAll elems + uptoBulkAll spare + 1
  | .agg parts => uptoBulkAll parts + 1
  | .iface _ d => uptoBulk d + 1
  | .map entries => uptoBulkEntries entries + 1
  | .held _ => 1
def uptoBulkAll {H : Type} : List (DataW H) → Nat
  | [] => 0
  | d :: r => uptoBulk d + uptoBulkAll r
def uptoBulkEntries {H : Type} : List (Lit × DataW H) → Nat
  | [] => 0
  | x :: r => uptoBulkEntry x + uptoBulkEntries r
def uptoBulkEntry {H : Type} : Lit × DataW H → Nat
  | (.string bytes, d) => bytes.length + uptoBulk d + 1
  | (_, d) => uptoBulk d + 1
 end
def uptoSmall : (H : Type) → List (DataW H) → Bool := fun _ ds => decide (uptoBulkAll ds ≤ 1048576)
def OpenSpec.upto (s : _root_.Go.ChangeSpec) : _root_.Go.OpenSpec := { _root_.Go.OpenSpec.ofChange s with cond := some uptoSmall }

/-- 'sidebandlaw07.RangedecReads', WHERE WHAT IT READS IS OF BULK AT MOST 1048576: true; the input reads as it did. -/
def rangedecReadsUptoRow : OpenClaim := { program := "yteffkhpofiloiaa", sum := "1ec41db6e971361d19a859bf46285c93d35c1e8efbe5dbfc61ce324b5440d669", func := "sideband/sidebandlaw07.RangedecReads", spec := "rangedecReads", apart := false, narrowed := true }
def RangedecReadsUptoSaid : Prop := rangedecReadsUptoRow.holds Try.pinned (OpenSpec.upto rangedecReadsSpec)

/-- 'sidebandlaw07.RangedecAgain', WHERE WHAT IT READS IS OF BULK AT MOST 1048576: true; the input reads as it did. -/
def rangedecAgainUptoRow : OpenClaim := { program := "yteffkhpofiloiaa", sum := "1ec41db6e971361d19a859bf46285c93d35c1e8efbe5dbfc61ce324b5440d669", func := "sideband/sidebandlaw07.RangedecAgain", spec := "rangedecAgain", apart := false, narrowed := true }
def RangedecAgainUptoSaid : Prop := rangedecAgainUptoRow.holds Try.pinned (OpenSpec.upto rangedecAgainSpec)

/-- 'sidebandlaw07.RangedecNil', WHERE WHAT IT READS IS OF BULK AT MOST 1048576: true; the input reads as it did. -/
def rangedecNilUptoRow : OpenClaim := { program := "yteffkhpofiloiaa", sum := "1ec41db6e971361d19a859bf46285c93d35c1e8efbe5dbfc61ce324b5440d669", func := "sideband/sidebandlaw07.RangedecNil", spec := "rangedecNil", apart := false, narrowed := true }
def RangedecNilUptoSaid : Prop := rangedecNilUptoRow.holds Try.pinned (OpenSpec.upto rangedecNilSpec)

end Rows
end Go.Proofs.Yteffkhpofiloiaa
