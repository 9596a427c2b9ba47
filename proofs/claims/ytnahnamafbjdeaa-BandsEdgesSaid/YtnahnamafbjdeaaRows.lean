/-
  No cell of these rows narrows 'for every input' (looked for: loops, veiled, ifaces, maps, wideKeys, modest, calm, conditions, laid).
  DERIVED. THE GIVEN ROWS OF THIS SEAT. 3 by the template 'for every input the law returns true; each argument reads behind the call as it read before'; 0 by the template 'total and deterministic' (their statements: YtnahnamafbjdeaaTotals.lean).
  GIVEN WITH THE SEED: the statements are not yours to turn. If you find one false, say at which input.
  Laid BY PROGRAM, IN A SANDBOX (cutbox-rows.mjs): the forced cells as the released guide's own fill.sh prints them over the translation 95b62299066069e6… (all of the seat's roots in one cut). By AI agents, Wed Nov 11 2026. No macro, syntax, notation, axiom, sorry.
-/
import Derived.Test.YtnahnamafbjdeaaChecked
import GoSem.Claim
import GoSem.ClaimJoined
import GoSem.ClaimMapViews
import Derived.JoinedTies
import Derived.KernelRfl
namespace Go.Proofs.Ytnahnamafbjdeaa
/- THE CELL 'sum', in the pinned program and in every row, IS THE sha256 OF THE DUMP (.gsa) THAT YtnahnamafbjdeaaProg.lean LOADS. Nothing in Lean hashes anything: it is a label: what it is worth is what the hold of that sum in a sandbox is worth. -/
noncomputable def Try.pinned : Pinned := { name := "ytnahnamafbjdeaa", sum := "95b62299066069e620184530bb537c9eac976a8edc0e6ff19f8ee350f1a06243", checked := Try.checked }
namespace Rows
def none {H : Type} : Left H := { results := [], args := [] }

/-- 'sidebandlaw04.BandsCircle': WHATEVER THE INPUT: true; the input reads as it did. -/
def bandsCircleSpec : ChangeSpec := { name := "bandsCircle", fn := fun _ => fun
  | [d1, d2] => { results := [.lit (.bool true)], args := [d1, d2] }
  | _ => none }
def bandsCircleRow : OpenClaim := { program := "ytnahnamafbjdeaa", sum := "95b62299066069e620184530bb537c9eac976a8edc0e6ff19f8ee350f1a06243", func := "sideband/sidebandlaw04.BandsCircle", spec := "bandsCircle", apart := false }
def BandsCircleSaid : Prop := bandsCircleRow.holds Try.pinned (OpenSpec.ofChange bandsCircleSpec)

/-- ITS FALSE NEIGHBOUR: 'it returns false'. Refute it at one input. -/
def bandsCircleWrong : ChangeSpec := { name := "bandsCircle", fn := fun _ => fun
  | [d1, d2] => { results := [.lit (.bool false)], args := [d1, d2] }
  | _ => none }
def BandsCircleWrongFalsely : Prop := bandsCircleRow.holds Try.pinned (OpenSpec.ofChange bandsCircleWrong)

/-- 'sidebandlaw04.BandsEdges': WHATEVER THE INPUT: true; the input reads as it did. -/
def bandsEdgesSpec : ChangeSpec := { name := "bandsEdges", fn := fun _ => fun
  | [d] => { results := [.lit (.bool true)], args := [d] }
  | _ => none }
def bandsEdgesRow : OpenClaim := { program := "ytnahnamafbjdeaa", sum := "95b62299066069e620184530bb537c9eac976a8edc0e6ff19f8ee350f1a06243", func := "sideband/sidebandlaw04.BandsEdges", spec := "bandsEdges", apart := false }
def BandsEdgesSaid : Prop := bandsEdgesRow.holds Try.pinned (OpenSpec.ofChange bandsEdgesSpec)

/-- ITS FALSE NEIGHBOUR: 'it returns false'. Refute it at one input. -/
def bandsEdgesWrong : ChangeSpec := { name := "bandsEdges", fn := fun _ => fun
  | [d] => { results := [.lit (.bool false)], args := [d] }
  | _ => none }
def BandsEdgesWrongFalsely : Prop := bandsEdgesRow.holds Try.pinned (OpenSpec.ofChange bandsEdgesWrong)

/-- 'sidebandlaw04.BandsRules': WHATEVER THE INPUT: true; the input reads as it did. -/
def bandsRulesSpec : ChangeSpec := { name := "bandsRules", fn := fun _ => fun
  | [d] => { results := [.lit (.bool true)], args := [d] }
  | _ => none }
def bandsRulesRow : OpenClaim := { program := "ytnahnamafbjdeaa", sum := "95b62299066069e620184530bb537c9eac976a8edc0e6ff19f8ee350f1a06243", func := "sideband/sidebandlaw04.BandsRules", spec := "bandsRules", apart := false }
def BandsRulesSaid : Prop := bandsRulesRow.holds Try.pinned (OpenSpec.ofChange bandsRulesSpec)

/-- ITS FALSE NEIGHBOUR: 'it returns false'. Refute it at one input. -/
def bandsRulesWrong : ChangeSpec := { name := "bandsRules", fn := fun _ => fun
  | [d] => { results := [.lit (.bool false)], args := [d] }
  | _ => none }
def BandsRulesWrongFalsely : Prop := bandsRulesRow.holds Try.pinned (OpenSpec.ofChange bandsRulesWrong)

/- THE SECOND FORM. 'bulk': how many values and letters a reading holds, each counted each time it is reached (what is shared counts as often as it is met; a slice's spare places count too). A statement '..UptoSaid' is the law's where the arguments, and the package variables that the reading takes, are together of bulk at most 1048576: NARROWER than '..Said'. Prove '..Said' where nothing that the law and all that it calls make is longer than what came in: it says more and counts as full. Else prove '..UptoSaid'. A law counts once. -/
mutual
def uptoBulk {H : Type} : DataW H → Nat
  | .lit (.string bytes) => bytes.length + 1
  | .lit _ => 1
  | .nil => 1
  | .ptr d => uptoBulk d + 1
  | .slice elems spare => uptoBulkAll elems + uptoBulkAll spare + 1
  | .agg parts => uptoBulkAll parts + 1
  | .iface _ d => uptoBulk d + 1
  | .map entries => uptoBulkEntries entries + 1
  | .held _ => 1
def uptoBulkAll {H : Type} : List (DataW H) → Nat
  | [] => 0
  | d :: r => uptoBulk d + uptoBulkAll r
def uptoBulkEntries {H : Type} : List (Lit × DataW H) → Nat
  | [] => 0
  | x :: r => uptoBulkEntry x + uptoBulkEntries r
def uptoBulkEntry {H : Type} : Lit × DataW H → Nat
  | (.string bytes, d) => bytes.length + uptoBulk d + 1
  | (_, d) => uptoBulk d + 1
 end
def uptoSmall : (H : Type) → List (DataW H) → Bool := fun _ ds => decide (uptoBulkAll ds ≤ 1048576)
def OpenSpec.upto (s : _root_.Go.ChangeSpec) : _root_.Go.OpenSpec := { _root_.Go.OpenSpec.ofChange s with cond := some uptoSmall }

/-- 'sidebandlaw04.BandsCircle', WHERE WHAT IT READS IS OF BULK AT MOST 1048576: true; the input reads as it did. -/
def bandsCircleUptoRow : OpenClaim := { program := "ytnahnamafbjdeaa", sum := "95b62299066069e620184530bb537c9eac976a8edc0e6ff19f8ee350f1a06243", func := "sideband/sidebandlaw04.BandsCircle", spec := "bandsCircle", apart := false, narrowed := true }
def BandsCircleUptoSaid : Prop := bandsCircleUptoRow.holds Try.pinned (OpenSpec.upto bandsCircleSpec)

/-- 'sidebandlaw04.BandsEdges', WHERE WHAT IT READS IS OF BULK AT MOST 1048576: true; the input reads as it did. -/
def bandsEdgesUptoRow : OpenClaim := { program := "ytnahnamafbjdeaa", sum := "95b62299066069e620184530bb537c9eac976a8edc0e6ff19f8ee350f1a06243", func := "sideband/sidebandlaw04.BandsEdges", spec := "bandsEdges", apart := false, narrowed := true }
def BandsEdgesUptoSaid : Prop := bandsEdgesUptoRow.holds Try.pinned (OpenSpec.upto bandsEdgesSpec)

/-- 'sidebandlaw04.BandsRules', WHERE WHAT IT READS IS OF BULK AT MOST 1048576: true; the input reads as it did. -/
def bandsRulesUptoRow : OpenClaim := { program := "ytnahnamafbjdeaa", sum := "95b62299066069e620184530bb537c9eac976a8edc0e6ff19f8ee350f1a06243", func := "sideband/sidebandlaw04.BandsRules", spec := "bandsRules", apart := false, narrowed := true }
def BandsRulesUptoSaid : Prop := bandsRulesUptoRow.holds Try.pinned (OpenSpec.upto bandsRulesSpec)

end Rows
end Go.Proofs.Ytnahnamafbjdeaa
