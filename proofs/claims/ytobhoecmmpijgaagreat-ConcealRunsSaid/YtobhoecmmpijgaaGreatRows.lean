/-
  No cell of these rows narrows 'for every input' (looked for: loops, veiled, ifaces, maps, wideKeys, modest, calm, conditions, laid).
  DERIVED. THE GIVEN ROWS OF THIS SEAT. 3 by the template 'for every input the law returns true; each argument reads behind the call as it read before'; 0 by the template 'total and deterministic' (their statements: YtobhoecmmpijgaaGreatTotals.lean).
  GIVEN WITH THE SEED: the statements are not yours to turn. If you find one false, say at which input.
  Laid BY PROGRAM, IN A SANDBOX (cutbox-rows.mjs): the forced cells as the released guide's own fill.sh prints them over the translation 72c77b3c639ed72b… (all of the seat's roots in one cut). By AI agents, Wed Nov 11 2026. No macro, syntax, notation, axiom, sorry.
-/
import Derived.Test.YtobhoecmmpijgaaGreatChecked
import GoSem.Claim
import GoSem.ClaimJoined
import GoSem.ClaimMapViews
import Derived.JoinedTies
import Derived.KernelRfl
namespace Go.Proofs.YtobhoecmmpijgaaGreat
/- THE CELL 'sum', in the pinned program and in every row, IS THE sha256 OF THE DUMP (.gsa) THAT YtobhoecmmpijgaaGreatProg.lean LOADS. Nothing in Lean hashes anything: it is a label: what it is worth is what the hold of that sum in a sandbox is worth. -/
noncomputable def Tryz.pinned : Pinned := { name := "ytobhoecmmpijgaagreat", sum := "72c77b3c639ed72b8e96e9617447ab0081099055eac8246733d0419829e14f4c", checked := Tryz.checked }
namespace Rows
def none {H : Type} : Left H := { results := [], args := [] }

/-- 'sidebandlaw15.ConcealHears': WHATEVER THE INPUT: true; the input reads as it did. -/
def concealHearsSpec : ChangeSpec := { name := "concealHears", fn := fun _ => fun
  | [d1, d2, d3] => { results := [.lit (.bool true)], args := [d1, d2, d3] }
  | _ => none }
def concealHearsRow : OpenClaim := { program := "ytobhoecmmpijgaagreat", sum := "72c77b3c639ed72b8e96e9617447ab0081099055eac8246733d0419829e14f4c", func := "sideband/sidebandlaw15.ConcealHears", spec := "concealHears", unfollowed := true, recurses := true, apart := false }
def ConcealHearsSaid : Prop := concealHearsRow.holds Tryz.pinned (OpenSpec.ofChange concealHearsSpec)

/-- ITS FALSE NEIGHBOUR: 'it returns false'. Refute it at one input. -/
def concealHearsWrong : ChangeSpec := { name := "concealHears", fn := fun _ => fun
  | [d1, d2, d3] => { results := [.lit (.bool false)], args := [d1, d2, d3] }
  | _ => none }
def ConcealHearsWrongFalsely : Prop := concealHearsRow.holds Tryz.pinned (OpenSpec.ofChange concealHearsWrong)

/-- 'sidebandlaw15.ConcealRuns': WHATEVER THE INPUT: true; the input reads as it did. -/
def concealRunsSpec : ChangeSpec := { name := "concealRuns", fn := fun _ => fun
  | [d1, d2, d3] => { results := [.lit (.bool true)], args := [d1, d2, d3] }
  | _ => none }
def concealRunsRow : OpenClaim := { program := "ytobhoecmmpijgaagreat", sum := "72c77b3c639ed72b8e96e9617447ab0081099055eac8246733d0419829e14f4c", func := "sideband/sidebandlaw15.ConcealRuns", spec := "concealRuns", unfollowed := true, recurses := true, apart := false }
def ConcealRunsSaid : Prop := concealRunsRow.holds Tryz.pinned (OpenSpec.ofChange concealRunsSpec)

/-- ITS FALSE NEIGHBOUR: 'it returns false'. Refute it at one input. -/
def concealRunsWrong : ChangeSpec := { name := "concealRuns", fn := fun _ => fun
  | [d1, d2, d3] => { results := [.lit (.bool false)], args := [d1, d2, d3] }
  | _ => none }
def ConcealRunsWrongFalsely : Prop := concealRunsRow.holds Tryz.pinned (OpenSpec.ofChange concealRunsWrong)

/-- 'sidebandlaw15.ConcealNil': WHATEVER THE INPUT: true; the input reads as it did. -/
def concealNilSpec : ChangeSpec := { name := "concealNil", fn := fun _ => fun
  | [d1, d2] => { results := [.lit (.bool true)], args := [d1, d2] }
  | _ => none }
def concealNilRow : OpenClaim := { program := "ytobhoecmmpijgaagreat", sum := "72c77b3c639ed72b8e96e9617447ab0081099055eac8246733d0419829e14f4c", func := "sideband/sidebandlaw15.ConcealNil", spec := "concealNil", unfollowed := true, recurses := true, apart := false }
def ConcealNilSaid : Prop := concealNilRow.holds Tryz.pinned (OpenSpec.ofChange concealNilSpec)

/-- ITS FALSE NEIGHBOUR: 'it returns false'. Refute it at one input. -/
def concealNilWrong : ChangeSpec := { name := "concealNil", fn := fun _ => fun
  | [d1, d2] => { results := [.lit (.bool false)], args := [d1, d2] }
  | _ => none }
def ConcealNilWrongFalsely : Prop := concealNilRow.holds Tryz.pinned (OpenSpec.ofChange concealNilWrong)

/- THE SECOND FORM. 'bulk': how many values and letters a reading holds, each counted each time it is reached (what is shared counts as often as it is met; a slice's spare places count too). A statement '..UptoSaid' is the law's where the arguments, and the package variables that the reading takes, are together of bulk at most 1048576: NARROWER than '..Said'. Prove '..Said' where nothing that the law and all that it calls make is longer than what came in: it says more and counts as full. Else prove '..UptoSaid'. A law counts once. -/
mutual
def uptoBulk {H : Type} : DataW H → Nat
  | .lit (.string bytes) => bytes.length + 1
  | .lit _ => 1
  | .nil => 1
  | .ptr d => uptoBulk d + 1
  | .slice elems spare => uptoBulkAll elems + uptoBulkAll spare + 1
  | .agg parts => uptoBulkAll parts + 1
  | .iface _ d => uptoBulk d + 1
  | .map entries => uptoBulkEntries entries + 1
  | .held _ => 1
def uptoBulkAll {H : Type} : List (DataW H) → Nat
  | [] => 0
  | d :: r => uptoBulk d + uptoBulkAll r
def uptoBulkEntries {H : Type} : List (Lit × DataW H) → Nat
  | [] => 0
  | x :: r => uptoBulkEntry x + uptoBulkEntries r
def uptoBulkEntry {H : Type} : Lit × DataW H → Nat
  | (.string bytes, d) => bytes.length + uptoBulk d + 1
  | (_, d) => uptoBulk d + 1
 end
def uptoSmall : (H : Type) → List (DataW H) → Bool := fun _ ds => decide (uptoBulkAll ds ≤ 1048576)
def OpenSpec.upto (s : _root_.Go.ChangeSpec) : _root_.Go.OpenSpec := { _root_.Go.OpenSpec.ofChange s with cond := some uptoSmall }

/-- 'sidebandlaw15.ConcealHears', WHERE WHAT IT READS IS OF BULK AT MOST 1048576: true; the input reads as it did. -/
def concealHearsUptoRow : OpenClaim := { program := "ytobhoecmmpijgaagreat", sum := "72c77b3c639ed72b8e96e9617447ab0081099055eac8246733d0419829e14f4c", func := "sideband/sidebandlaw15.ConcealHears", spec := "concealHears", unfollowed := true, recurses := true, apart := false, narrowed := true }
def ConcealHearsUptoSaid : Prop := concealHearsUptoRow.holds Tryz.pinned (OpenSpec.upto concealHearsSpec)

/-- 'sidebandlaw15.ConcealRuns', WHERE WHAT IT READS IS OF BULK AT MOST 1048576: true; the input reads as it did. -/
def concealRunsUptoRow : OpenClaim := { program := "ytobhoecmmpijgaagreat", sum := "72c77b3c639ed72b8e96e9617447ab0081099055eac8246733d0419829e14f4c", func := "sideband/sidebandlaw15.ConcealRuns", spec := "concealRuns", unfollowed := true, recurses := true, apart := false, narrowed := true }
def ConcealRunsUptoSaid : Prop := concealRunsUptoRow.holds Tryz.pinned (OpenSpec.upto concealRunsSpec)

/-- 'sidebandlaw15.ConcealNil', WHERE WHAT IT READS IS OF BULK AT MOST 1048576: true; the input reads as it did. -/
def concealNilUptoRow : OpenClaim := { program := "ytobhoecmmpijgaagreat", sum := "72c77b3c639ed72b8e96e9617447ab0081099055eac8246733d0419829e14f4c", func := "sideband/sidebandlaw15.ConcealNil", spec := "concealNil", unfollowed := true, recurses := true, apart := false, narrowed := true }
def ConcealNilUptoSaid : Prop := concealNilUptoRow.holds Tryz.pinned (OpenSpec.upto concealNilSpec)

end Rows
end Go.Proofs.YtobhoecmmpijgaaGreat
