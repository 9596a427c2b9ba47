/-
  No cell of these rows narrows 'for every input' (looked for: loops, veiled, ifaces, maps, wideKeys, modest, calm, conditions, laid).
  DERIVED. THE GIVEN ROWS OF THIS SEAT. 3 by the template 'for every input the law returns true; each argument reads behind the call as it read before'; 0 by the template 'total and deterministic' (their statements: YtkhhhejmbgloeaaGreatTotals.lean).
  GIVEN WITH THE SEED: the statements are not yours to turn. If you find one false, say at which input.
  Laid BY PROGRAM, IN A SANDBOX (cutbox-rows.mjs): the forced cells as the released guide's own fill.sh prints them over the translation b8047df3cfb1f165… (all of the seat's roots in one cut). By AI agents, Wed Nov 11 2026. No macro, syntax, notation, axiom, sorry.
-/
import Derived.Test.YtkhhhejmbgloeaaGreatChecked
import GoSem.Claim
import GoSem.ClaimJoined
import GoSem.ClaimMapViews
import Derived.JoinedTies
import Derived.KernelRfl
namespace Go.Proofs.YtkhhhejmbgloeaaGreat
/- THE CELL 'sum', in the pinned program and in every row, IS THE sha256 OF THE DUMP (.gsa) THAT YtkhhhejmbgloeaaGreatProg.lean LOADS. Nothing in Lean hashes anything: it is a label: what it is worth is what the hold of that sum in a sandbox is worth. -/
noncomputable def Tryz.pinned : Pinned := { name := "ytkhhhejmbgloeaagreat", sum := "b8047df3cfb1f165c1de774e32ac16ab641c98a27f3b6f748de9d9faabd95a94", checked := Tryz.checked }
namespace Rows
def none {H : Type} : Left H := { results := [], args := [] }

/-- 'sidebandlaw13.CoderPayloads': WHATEVER THE INPUT: true; the input reads as it did. -/
def coderPayloadsSpec : ChangeSpec := { name := "coderPayloads", fn := fun _ => fun
  | [d1, d2, d3] => { results := [.lit (.bool true)], args := [d1, d2, d3] }
  | _ => none }
def coderPayloadsRow : OpenClaim := { program := "ytkhhhejmbgloeaagreat", sum := "b8047df3cfb1f165c1de774e32ac16ab641c98a27f3b6f748de9d9faabd95a94", func := "sideband/sidebandlaw13.CoderPayloads", spec := "coderPayloads", unfollowed := true, recurses := true, apart := false }
def CoderPayloadsSaid : Prop := coderPayloadsRow.holds Tryz.pinned (OpenSpec.ofChange coderPayloadsSpec)

/-- ITS FALSE NEIGHBOUR: 'it returns false'. Refute it at one input. -/
def coderPayloadsWrong : ChangeSpec := { name := "coderPayloads", fn := fun _ => fun
  | [d1, d2, d3] => { results := [.lit (.bool false)], args := [d1, d2, d3] }
  | _ => none }
def CoderPayloadsWrongFalsely : Prop := coderPayloadsRow.holds Tryz.pinned (OpenSpec.ofChange coderPayloadsWrong)

/-- 'sidebandlaw13.CoderNear': WHATEVER THE INPUT: true; the input reads as it did. -/
def coderNearSpec : ChangeSpec := { name := "coderNear", fn := fun _ => fun
  | [d1, d2, d3] => { results := [.lit (.bool true)], args := [d1, d2, d3] }
  | _ => none }
def coderNearRow : OpenClaim := { program := "ytkhhhejmbgloeaagreat", sum := "b8047df3cfb1f165c1de774e32ac16ab641c98a27f3b6f748de9d9faabd95a94", func := "sideband/sidebandlaw13.CoderNear", spec := "coderNear", unfollowed := true, recurses := true, apart := false }
def CoderNearSaid : Prop := coderNearRow.holds Tryz.pinned (OpenSpec.ofChange coderNearSpec)

/-- ITS FALSE NEIGHBOUR: 'it returns false'. Refute it at one input. -/
def coderNearWrong : ChangeSpec := { name := "coderNear", fn := fun _ => fun
  | [d1, d2, d3] => { results := [.lit (.bool false)], args := [d1, d2, d3] }
  | _ => none }
def CoderNearWrongFalsely : Prop := coderNearRow.holds Tryz.pinned (OpenSpec.ofChange coderNearWrong)

/-- 'sidebandlaw13.CoderArgs': WHATEVER THE INPUT: true; the input reads as it did. -/
def coderArgsSpec : ChangeSpec := { name := "coderArgs", fn := fun _ => fun
  | [d1, d2, d3] => { results := [.lit (.bool true)], args := [d1, d2, d3] }
  | _ => none }
def coderArgsRow : OpenClaim := { program := "ytkhhhejmbgloeaagreat", sum := "b8047df3cfb1f165c1de774e32ac16ab641c98a27f3b6f748de9d9faabd95a94", func := "sideband/sidebandlaw13.CoderArgs", spec := "coderArgs", unfollowed := true, recurses := true, apart := false }
def CoderArgsSaid : Prop := coderArgsRow.holds Tryz.pinned (OpenSpec.ofChange coderArgsSpec)

/-- ITS FALSE NEIGHBOUR: 'it returns false'. Refute it at one input. -/
def coderArgsWrong : ChangeSpec := { name := "coderArgs", fn := fun _ => fun
  | [d1, d2, d3] => { results := [.lit (.bool false)], args := [d1, d2, d3] }
  | _ => none }
def CoderArgsWrongFalsely : Prop := coderArgsRow.holds Tryz.pinned (OpenSpec.ofChange coderArgsWrong)

/- THE SECOND FORM. 'bulk': how many values and letters a reading holds, each counted each time it is reached (what is shared counts as often as it is met; a slice's spare places count too). A statement '..UptoSaid' is the law's where the arguments, and the package variables that the reading takes, are together of bulk at most 1048576: NARROWER than '..Said'. Prove '..Said' where nothing that the law and all that it calls make is longer than what came in: it says more and counts as full. Else prove '..UptoSaid'. A law counts once. -/
mutual
def uptoBulk {H : Type} : DataW H → Nat
  | .lit (.string bytes) => bytes.length + 1
  | .lit _ => 1
  | .nil => 1
  | .ptr d => uptoBulk d + 1
  | .slice elems spare => uptoBulkAll elems + uptoBulkAll spare + 1
  | .agg parts => uptoBulkAll parts + 1
  | .iface _ d => uptoBulk d + 1
  | .map entries => uptoBulkEntries entries + 1
  | .held _ => 1
def uptoBulkAll {H : Type} : List (DataW H) → Nat
  | [] => 0
  | d :: r => uptoBulk d + uptoBulkAll r
def uptoBulkEntries {H : Type} : List (Lit × DataW H) → Nat
  | [] => 0
  | x :: r => uptoBulkEntry x + uptoBulkEntries r
def uptoBulkEntry {H : Type} : Lit × DataW H → Nat
  | (.string bytes, d) => bytes.length + uptoBulk d + 1
  | (_, d) => uptoBulk d + 1
 end
def uptoSmall : (H : Type) → List (DataW H) → Bool := fun _ ds => decide (uptoBulkAll ds ≤ 1048576)
def OpenSpec.upto (s : _root_.Go.ChangeSpec) : _root_.Go.OpenSpec := { _root_.Go.OpenSpec.ofChange s with cond := some uptoSmall }

/-- 'sidebandlaw13.CoderPayloads', WHERE WHAT IT READS IS OF BULK AT MOST 1048576: true; the input reads as it did. -/
def coderPayloadsUptoRow : OpenClaim := { program := "ytkhhhejmbgloeaagreat", sum := "b8047df3cfb1f165c1de774e32ac16ab641c98a27f3b6f748de9d9faabd95a94", func := "sideband/sidebandlaw13.CoderPayloads", spec := "coderPayloads", unfollowed := true, recurses := true, apart := false, narrowed := true }
def CoderPayloadsUptoSaid : Prop := coderPayloadsUptoRow.holds Tryz.pinned (OpenSpec.upto coderPayloadsSpec)

/-- 'sidebandlaw13.CoderNear', WHERE WHAT IT READS IS OF BULK AT MOST 1048576: true; the input reads as it did. -/
def coderNearUptoRow : OpenClaim := { program := "ytkhhhejmbgloeaagreat", sum := "b8047df3cfb1f165c1de774e32ac16ab641c98a27f3b6f748de9d9faabd95a94", func := "sideband/sidebandlaw13.CoderNear", spec := "coderNear", unfollowed := true, recurses := true, apart := false, narrowed := true }
def CoderNearUptoSaid : Prop := coderNearUptoRow.holds Tryz.pinned (OpenSpec.upto coderNearSpec)

/-- 'sidebandlaw13.CoderArgs', WHERE WHAT IT READS IS OF BULK AT MOST 1048576: true; the input reads as it did. -/
def coderArgsUptoRow : OpenClaim := { program := "ytkhhhejmbgloeaagreat", sum := "b8047df3cfb1f165c1de774e32ac16ab641c98a27f3b6f748de9d9faabd95a94", func := "sideband/sidebandlaw13.CoderArgs", spec := "coderArgs", unfollowed := true, recurses := true, apart := false, narrowed := true }
def CoderArgsUptoSaid : Prop := coderArgsUptoRow.holds Tryz.pinned (OpenSpec.upto coderArgsSpec)

end Rows
end Go.Proofs.YtkhhhejmbgloeaaGreat
