/-
  No cell of these rows narrows 'for every input' (looked for: loops, veiled, ifaces, maps, wideKeys, modest, calm, conditions, laid).
  DERIVED. THE GIVEN ROWS OF THIS SEAT. 4 by the template 'for every input the law returns true; each argument reads behind the call as it read before'; 0 by the template 'total and deterministic' (their statements: YtgebnaeebdeoeaaTotals.lean).
  GIVEN WITH THE SEED: the statements are not yours to turn. If you find one false, say at which input.
  Laid BY PROGRAM, IN A SANDBOX (cutbox-rows.mjs): the forced cells as the released guide's own fill.sh prints them over the translation 05b8943f5030fbac… (all of the seat's roots in one cut). By AI agents, Wed Nov 11 2026. No macro, syntax, notation, axiom, sorry.
-/
import Derived.Test.YtgebnaeebdeoeaaChecked
import GoSem.Claim
import GoSem.ClaimJoined
import GoSem.ClaimMapViews
import Derived.JoinedTies
import Derived.KernelRfl
namespace Go.Proofs.Ytgebnaeebdeoeaa
/- THE CELL 'sum', in the pinned program and in every row, IS THE sha256 OF THE DUMP (.gsa) THAT YtgebnaeebdeoeaaProg.lean LOADS. Nothing in Lean hashes anything: it is a label: what it is worth is what the hold of that sum in a sandbox is worth. -/
noncomputable def Try.pinned : Pinned := { name := "ytgebnaeebdeoeaa", sum := "05b8943f5030fbac26c0878918167495f24c632a4e048fb63e9081bce1834211", checked := Try.checked }
namespace Rows
def none {H : Type} : Left H := { results := [], args := [] }

/-- 'sidebandlaw09.OverlapLines': WHATEVER THE INPUT: true; the input reads as it did. -/
def overlapLinesSpec : ChangeSpec := { name := "overlapLines", fn := fun _ => fun
  | [d1, d2] => { results := [.lit (.bool true)], args := [d1, d2] }
  | _ => none }
def overlapLinesRow : OpenClaim := { program := "ytgebnaeebdeoeaa", sum := "05b8943f5030fbac26c0878918167495f24c632a4e048fb63e9081bce1834211", func := "sideband/sidebandlaw09.OverlapLines", spec := "overlapLines", apart := false }
def OverlapLinesSaid : Prop := overlapLinesRow.holds Try.pinned (OpenSpec.ofChange overlapLinesSpec)

/-- ITS FALSE NEIGHBOUR: 'it returns false'. Refute it at one input. -/
def overlapLinesWrong : ChangeSpec := { name := "overlapLines", fn := fun _ => fun
  | [d1, d2] => { results := [.lit (.bool false)], args := [d1, d2] }
  | _ => none }
def OverlapLinesWrongFalsely : Prop := overlapLinesRow.holds Try.pinned (OpenSpec.ofChange overlapLinesWrong)

/-- 'sidebandlaw09.OverlapSamples': WHATEVER THE INPUT: true; the input reads as it did. -/
def overlapSamplesSpec : ChangeSpec := { name := "overlapSamples", fn := fun _ => fun
  | [d1, d2] => { results := [.lit (.bool true)], args := [d1, d2] }
  | _ => none }
def overlapSamplesRow : OpenClaim := { program := "ytgebnaeebdeoeaa", sum := "05b8943f5030fbac26c0878918167495f24c632a4e048fb63e9081bce1834211", func := "sideband/sidebandlaw09.OverlapSamples", spec := "overlapSamples", apart := false }
def OverlapSamplesSaid : Prop := overlapSamplesRow.holds Try.pinned (OpenSpec.ofChange overlapSamplesSpec)

/-- ITS FALSE NEIGHBOUR: 'it returns false'. Refute it at one input. -/
def overlapSamplesWrong : ChangeSpec := { name := "overlapSamples", fn := fun _ => fun
  | [d1, d2] => { results := [.lit (.bool false)], args := [d1, d2] }
  | _ => none }
def OverlapSamplesWrongFalsely : Prop := overlapSamplesRow.holds Try.pinned (OpenSpec.ofChange overlapSamplesWrong)

/-- 'sidebandlaw09.OverlapAgain': WHATEVER THE INPUT: true; the input reads as it did. -/
def overlapAgainSpec : ChangeSpec := { name := "overlapAgain", fn := fun _ => fun
  | [d1, d2] => { results := [.lit (.bool true)], args := [d1, d2] }
  | _ => none }
def overlapAgainRow : OpenClaim := { program := "ytgebnaeebdeoeaa", sum := "05b8943f5030fbac26c0878918167495f24c632a4e048fb63e9081bce1834211", func := "sideband/sidebandlaw09.OverlapAgain", spec := "overlapAgain", apart := false }
def OverlapAgainSaid : Prop := overlapAgainRow.holds Try.pinned (OpenSpec.ofChange overlapAgainSpec)

/-- ITS FALSE NEIGHBOUR: 'it returns false'. Refute it at one input. -/
def overlapAgainWrong : ChangeSpec := { name := "overlapAgain", fn := fun _ => fun
  | [d1, d2] => { results := [.lit (.bool false)], args := [d1, d2] }
  | _ => none }
def OverlapAgainWrongFalsely : Prop := overlapAgainRow.holds Try.pinned (OpenSpec.ofChange overlapAgainWrong)

/-- 'sidebandlaw09.OverlapArgs': WHATEVER THE INPUT: true; the input reads as it did. -/
def overlapArgsSpec : ChangeSpec := { name := "overlapArgs", fn := fun _ => fun
  | [d1, d2, d3] => { results := [.lit (.bool true)], args := [d1, d2, d3] }
  | _ => none }
def overlapArgsRow : OpenClaim := { program := "ytgebnaeebdeoeaa", sum := "05b8943f5030fbac26c0878918167495f24c632a4e048fb63e9081bce1834211", func := "sideband/sidebandlaw09.OverlapArgs", spec := "overlapArgs", apart := false }
def OverlapArgsSaid : Prop := overlapArgsRow.holds Try.pinned (OpenSpec.ofChange overlapArgsSpec)

/-- ITS FALSE NEIGHBOUR: 'it returns false'. Refute it at one input. -/
def overlapArgsWrong : ChangeSpec := { name := "overlapArgs", fn := fun _ => fun
  | [d1, d2, d3] => { results := [.lit (.bool false)], args := [d1, d2, d3] }
  | _ => none }
def OverlapArgsWrongFalsely : Prop := overlapArgsRow.holds Try.pinned (OpenSpec.ofChange overlapArgsWrong)

/- THE SECOND FORM. 'bulk': how many values and letters a reading holds, each counted each time it is reached (what is shared counts as often as it is met; a slice's spare places count too). A statement '..UptoSaid' is the law's where the arguments, and the package variables that the reading takes, are together of bulk at most 1048576: NARROWER than '..Said'. Prove '..Said' where nothing that the law and all that it calls make is longer than what came in: it says more and counts as full. Else prove '..UptoSaid'. A law counts once. -/
mutual
def uptoBulk {H : Type} : DataW H → Nat
  | .lit (.string bytes) => bytes.length + 1
  | .lit _ => 1
  | .nil => 1
  | .ptr d => uptoBulk d + 1
  | .slice elems spare => uptoBulkAll elems + uptoBulkAll spare + 1
  | .agg parts => uptoBulkAll parts + 1
  | .iface _ d => uptoBulk d + 1
  | .map entries => uptoBulkEntries entries + 1
  | .held _ => 1
def uptoBulkAll {H : Type} : List (DataW H) → Nat
  | [] => 0
  | d :: r => uptoBulk d + uptoBulkAll r
def uptoBulkEntries {H : Type} : List (Lit × DataW H) → Nat
  | [] => 0
  | x :: r => uptoBulkEntry x + uptoBulkEntries r
def uptoBulkEntry {H : Type} : Lit × DataW H → Nat
  | (.string bytes, d) => bytes.length + uptoBulk d + 1
  | (_, d) => uptoBulk d + 1
 end
def uptoSmall : (H : Type) → List (DataW H) → Bool := fun _ ds => decide (uptoBulkAll ds ≤ 1048576)
def OpenSpec.upto (s : _root_.Go.ChangeSpec) : _root_.Go.OpenSpec := { _root_.Go.OpenSpec.ofChange s with cond := some uptoSmall }

/-- 'sidebandlaw09.OverlapLines', WHERE WHAT IT READS IS OF BULK AT MOST 1048576: true; the input reads as it did. -/
def overlapLinesUptoRow : OpenClaim := { program := "ytgebnaeebdeoeaa", sum := "05b8943f5030fbac26c0878918167495f24c632a4e048fb63e9081bce1834211", func := "sideband/sidebandlaw09.OverlapLines", spec := "overlapLines", apart := false, narrowed := true }
def OverlapLinesUptoSaid : Prop := overlapLinesUptoRow.holds Try.pinned (OpenSpec.upto overlapLinesSpec)

/-- 'sidebandlaw09.OverlapSamples', WHERE WHAT IT READS IS OF BULK AT MOST 1048576: true; the input reads as it did. -/
def overlapSamplesUptoRow : OpenClaim := { program := "ytgebnaeebdeoeaa", sum := "05b8943f5030fbac26c0878918167495f24c632a4e048fb63e9081bce1834211", func := "sideband/sidebandlaw09.OverlapSamples", spec := "overlapSamples", apart := false, narrowed := true }
def OverlapSamplesUptoSaid : Prop := overlapSamplesUptoRow.holds Try.pinned (OpenSpec.upto overlapSamplesSpec)

/-- 'sidebandlaw09.OverlapAgain', WHERE WHAT IT READS IS OF BULK AT MOST 1048576: true; the input reads as it did. -/
def overlapAgainUptoRow : OpenClaim := { program := "ytgebnaeebdeoeaa", sum := "05b8943f5030fbac26c0878918167495f24c632a4e048fb63e9081bce1834211", func := "sideband/sidebandlaw09.OverlapAgain", spec := "overlapAgain", apart := false, narrowed := true }
def OverlapAgainUptoSaid : Prop := overlapAgainUptoRow.holds Try.pinned (OpenSpec.upto overlapAgainSpec)

/-- 'sidebandlaw09.OverlapArgs', WHERE WHAT IT READS IS OF BULK AT MOST 1048576: true; the input reads as it did. -/
def overlapArgsUptoRow : OpenClaim := { program := "ytgebnaeebdeoeaa", sum := "05b8943f5030fbac26c0878918167495f24c632a4e048fb63e9081bce1834211", func := "sideband/sidebandlaw09.OverlapArgs", spec := "overlapArgs", apart := false, narrowed := true }
def OverlapArgsUptoSaid : Prop := overlapArgsUptoRow.holds Try.pinned (OpenSpec.upto overlapArgsSpec)

end Rows
end Go.Proofs.Ytgebnaeebdeoeaa
