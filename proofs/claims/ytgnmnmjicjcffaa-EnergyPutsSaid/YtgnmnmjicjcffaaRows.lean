/-
  No cell of these rows narrows 'for every input' (looked for: loops, veiled, ifaces, maps, wideKeys, modest, calm, conditions, laid).
  DERIVED. THE GIVEN ROWS OF THIS SEAT. 4 by the template 'for every input the law returns true; each argument reads behind the call as it read before'; 0 by the template 'total and deterministic' (their statements: YtgnmnmjicjcffaaTotals.lean).
  GIVEN WITH THE SEED: the statements are not yours to turn. If you find one false, say at which input.
  Laid BY PROGRAM, IN A SANDBOX (cutbox-rows.mjs): the forced cells as the released guide's own fill.sh prints them over the translation 33db72289db6d7d3… (all of the seat's roots in one cut). By AI agents, Wed Nov 11 2026. No macro, syntax, notation, axiom, sorry.
-/
import Derived.Test.YtgnmnmjicjcffaaChecked
import GoSem.Claim
import GoSem.ClaimJoined
import GoSem.ClaimMapViews
import Derived.JoinedTies
import Derived.KernelRfl
namespace Go.Proofs.Ytgnmnmjicjcffaa
/- THE CELL 'sum', in the pinned program and in every row, IS THE sha256 OF THE DUMP (.gsa) THAT YtgnmnmjicjcffaaProg.lean LOADS. Nothing in Lean hashes anything: it is a label: what it is worth is what the hold of that sum in a sandbox is worth. -/
noncomputable def Try.pinned : Pinned := { name := "ytgnmnmjicjcffaa", sum := "33db72289db6d7d330bc2720b0e5fa540b6bcb5907dae4e9890542e2b54a3b02", checked := Try.checked }
namespace Rows
def none {H : Type} : Left H := { results := [], args := [] }

/-- 'sidebandlaw10.EnergyCeilings': WHATEVER THE INPUT: true; the input reads as it did. -/
def energyCeilingsSpec : ChangeSpec := { name := "energyCeilings", fn := fun _ => fun
  | [d1, d2] => { results := [.lit (.bool true)], args := [d1, d2] }
  | _ => none }
def energyCeilingsRow : OpenClaim := { program := "ytgnmnmjicjcffaa", sum := "33db72289db6d7d330bc2720b0e5fa540b6bcb5907dae4e9890542e2b54a3b02", func := "sideband/sidebandlaw10.EnergyCeilings", spec := "energyCeilings", apart := false }
def EnergyCeilingsSaid : Prop := energyCeilingsRow.holds Try.pinned (OpenSpec.ofChange energyCeilingsSpec)

/-- ITS FALSE NEIGHBOUR: 'it returns false'. Refute it at one input. -/
def energyCeilingsWrong : ChangeSpec := { name := "energyCeilings", fn := fun _ => fun
  | [d1, d2] => { results := [.lit (.bool false)], args := [d1, d2] }
  | _ => none }
def EnergyCeilingsWrongFalsely : Prop := energyCeilingsRow.holds Try.pinned (OpenSpec.ofChange energyCeilingsWrong)

/-- 'sidebandlaw10.EnergyPuts': WHATEVER THE INPUT: true; the input reads as it did. -/
def energyPutsSpec : ChangeSpec := { name := "energyPuts", fn := fun _ => fun
  | [d1, d2] => { results := [.lit (.bool true)], args := [d1, d2] }
  | _ => none }
def energyPutsRow : OpenClaim := { program := "ytgnmnmjicjcffaa", sum := "33db72289db6d7d330bc2720b0e5fa540b6bcb5907dae4e9890542e2b54a3b02", func := "sideband/sidebandlaw10.EnergyPuts", spec := "energyPuts", apart := false }
def EnergyPutsSaid : Prop := energyPutsRow.holds Try.pinned (OpenSpec.ofChange energyPutsSpec)

/-- ITS FALSE NEIGHBOUR: 'it returns false'. Refute it at one input. -/
def energyPutsWrong : ChangeSpec := { name := "energyPuts", fn := fun _ => fun
  | [d1, d2] => { results := [.lit (.bool false)], args := [d1, d2] }
  | _ => none }
def EnergyPutsWrongFalsely : Prop := energyPutsRow.holds Try.pinned (OpenSpec.ofChange energyPutsWrong)

/-- 'sidebandlaw10.EnergyGets': WHATEVER THE INPUT: true; the input reads as it did. -/
def energyGetsSpec : ChangeSpec := { name := "energyGets", fn := fun _ => fun
  | [d1, d2] => { results := [.lit (.bool true)], args := [d1, d2] }
  | _ => none }
def energyGetsRow : OpenClaim := { program := "ytgnmnmjicjcffaa", sum := "33db72289db6d7d330bc2720b0e5fa540b6bcb5907dae4e9890542e2b54a3b02", func := "sideband/sidebandlaw10.EnergyGets", spec := "energyGets", apart := false }
def EnergyGetsSaid : Prop := energyGetsRow.holds Try.pinned (OpenSpec.ofChange energyGetsSpec)

/-- ITS FALSE NEIGHBOUR: 'it returns false'. Refute it at one input. -/
def energyGetsWrong : ChangeSpec := { name := "energyGets", fn := fun _ => fun
  | [d1, d2] => { results := [.lit (.bool false)], args := [d1, d2] }
  | _ => none }
def EnergyGetsWrongFalsely : Prop := energyGetsRow.holds Try.pinned (OpenSpec.ofChange energyGetsWrong)

/-- 'sidebandlaw10.EnergyArgs': WHATEVER THE INPUT: true; the input reads as it did. -/
def energyArgsSpec : ChangeSpec := { name := "energyArgs", fn := fun _ => fun
  | [d] => { results := [.lit (.bool true)], args := [d] }
  | _ => none }
def energyArgsRow : OpenClaim := { program := "ytgnmnmjicjcffaa", sum := "33db72289db6d7d330bc2720b0e5fa540b6bcb5907dae4e9890542e2b54a3b02", func := "sideband/sidebandlaw10.EnergyArgs", spec := "energyArgs", apart := false }
def EnergyArgsSaid : Prop := energyArgsRow.holds Try.pinned (OpenSpec.ofChange energyArgsSpec)

/-- ITS FALSE NEIGHBOUR: 'it returns false'. Refute it at one input. -/
def energyArgsWrong : ChangeSpec := { name := "energyArgs", fn := fun _ => fun
  | [d] => { results := [.lit (.bool false)], args := [d] }
  | _ => none }
def EnergyArgsWrongFalsely : Prop := energyArgsRow.holds Try.pinned (OpenSpec.ofChange energyArgsWrong)

/- THE SECOND FORM. 'bulk': how many values and letters a reading holds, each counted each time it is reached (what is shared counts as often as it is met; a slice's spare places count too). A statement '..UptoSaid' is the law's where the arguments, and the package variables that the reading takes, are together of bulk at most 1048576: NARROWER than '..Said'. Prove '..Said' where nothing that the law and all that it calls make is longer than what came in: it says more and counts as full. Else prove '..UptoSaid'. A law counts once. -/
mutual
def uptoBulk {H : Type} : DataW H → Nat
  | .lit (.string bytes) => bytes.length + 1
  | .lit _ => 1
  | .nil => 1
  | .ptr d => uptoBulk d + 1
  | .slice elems spare => uptoBulkAll elems + uptoBulkAll spare + 1
  | .agg parts => uptoBulkAll parts + 1
  | .iface _ d => uptoBulk d + 1
  | .map entries => uptoBulkEntries entries + 1
  | .held _ => 1
def uptoBulkAll {H : Type} : List (DataW H) → Nat
  | [] => 0
  | d :: r => uptoBulk d + uptoBulkAll r
def uptoBulkEntries {H : Type} : List (Lit × DataW H) → Nat
  | [] => 0
  | x :: r => uptoBulkEntry x + uptoBulkEntries r
def uptoBulkEntry {H : Type} : Lit × DataW H → Nat
  | (.string bytes, d) => bytes.length + uptoBulk d + 1
  | (_, d) => uptoBulk d + 1
 end
def uptoSmall : (H : Type) → List (DataW H) → Bool := fun _ ds => decide (uptoBulkAll ds ≤ 1048576)
def OpenSpec.upto (s : _root_.Go.ChangeSpec) : _root_.Go.OpenSpec := { _root_.Go.OpenSpec.ofChange s with cond := some uptoSmall }

/-- 'sidebandlaw10.EnergyCeilings', WHERE WHAT IT READS IS OF BULK AT MOST 1048576: true; the input reads as it did. -/
def energyCeilingsUptoRow : OpenClaim := { program := "ytgnmnmjicjcffaa", sum := "33db72289db6d7d330bc2720b0e5fa540b6bcb5907dae4e9890542e2b54a3b02", func := "sideband/sidebandlaw10.EnergyCeilings", spec := "energyCeilings", apart := false, narrowed := true }
def EnergyCeilingsUptoSaid : Prop := energyCeilingsUptoRow.holds Try.pinned (OpenSpec.upto energyCeilingsSpec)

/-- 'sidebandlaw10.EnergyPuts', WHERE WHAT IT READS IS OF BULK AT MOST 1048576: true; the input reads as it did. -/
def energyPutsUptoRow : OpenClaim := { program := "ytgnmnmjicjcffaa", sum := "33db72289db6d7d330bc2720b0e5fa540b6bcb5907dae4e9890542e2b54a3b02", func := "sideband/sidebandlaw10.EnergyPuts", spec := "energyPuts", apart := false, narrowed := true }
def EnergyPutsUptoSaid : Prop := energyPutsUptoRow.holds Try.pinned (OpenSpec.upto energyPutsSpec)

/-- 'sidebandlaw10.EnergyGets', WHERE WHAT IT READS IS OF BULK AT MOST 1048576: true; the input reads as it did. -/
def energyGetsUptoRow : OpenClaim := { program := "ytgnmnmjicjcffaa", sum := "33db72289db6d7d330bc2720b0e5fa540b6bcb5907dae4e9890542e2b54a3b02", func := "sideband/sidebandlaw10.EnergyGets", spec := "energyGets", apart := false, narrowed := true }
def EnergyGetsUptoSaid : Prop := energyGetsUptoRow.holds Try.pinned (OpenSpec.upto energyGetsSpec)

/-- 'sidebandlaw10.EnergyArgs', WHERE WHAT IT READS IS OF BULK AT MOST 1048576: true; the input reads as it did. -/
def energyArgsUptoRow : OpenClaim := { program := "ytgnmnmjicjcffaa", sum := "33db72289db6d7d330bc2720b0e5fa540b6bcb5907dae4e9890542e2b54a3b02", func := "sideband/sidebandlaw10.EnergyArgs", spec := "energyArgs", apart := false, narrowed := true }
def EnergyArgsUptoSaid : Prop := energyArgsUptoRow.holds Try.pinned (OpenSpec.upto energyArgsSpec)

end Rows
end Go.Proofs.Ytgnmnmjicjcffaa
