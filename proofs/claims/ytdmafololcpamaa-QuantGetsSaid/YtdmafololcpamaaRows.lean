/-
  No cell of these rows narrows 'for every input' (looked for: loops, veiled, ifaces, maps, wideKeys, modest, calm, conditions, laid).
  DERIVED. THE GIVEN ROWS OF THIS SEAT. 4 by the template 'for every input the law returns true; each argument reads behind the call as it read before'; 0 by the template 'total and deterministic' (their statements: YtdmafololcpamaaTotals.lean).
  GIVEN WITH THE SEED: the statements are not yours to turn. If you find one false, say at which input.
  Laid BY PROGRAM, IN A SANDBOX (cutbox-rows.mjs): the forced cells as the released guide's own fill.sh prints them over the translation de06f9649ea6c8c7… (all of the seat's roots in one cut). By AI agents, Wed Nov 11 2026. No macro, syntax, notation, axiom, sorry.
-/
import Derived.Test.YtdmafololcpamaaChecked
import GoSem.Claim
import GoSem.ClaimJoined
import GoSem.ClaimMapViews
import Derived.JoinedTies
import Derived.KernelRfl
namespace Go.Proofs.Ytdmafololcpamaa
/- THE CELL 'sum', in the pinned program and in every row, IS THE sha256 OF THE DUMP (.gsa) THAT YtdmafololcpamaaProg.lean LOADS. Nothing in Lean hashes anything: it is a label: what it is worth is what the hold of that sum in a sandbox is worth. -/
noncomputable def Try.pinned : Pinned := { name := "ytdmafololcpamaa", sum := "de06f9649ea6c8c799f45214689302af9f66ef87d824b277d5b92d47b938da3d", checked := Try.checked }
namespace Rows
def none {H : Type} : Left H := { results := [], args := [] }

/-- 'sidebandlaw12.QuantPuts': WHATEVER THE INPUT: true; the input reads as it did. -/
def quantPutsSpec : ChangeSpec := { name := "quantPuts", fn := fun _ => fun
  | [d1, d2, d3] => { results := [.lit (.bool true)], args := [d1, d2, d3] }
  | _ => none }
def quantPutsRow : OpenClaim := { program := "ytdmafololcpamaa", sum := "de06f9649ea6c8c799f45214689302af9f66ef87d824b277d5b92d47b938da3d", func := "sideband/sidebandlaw12.QuantPuts", spec := "quantPuts", unfollowed := true, recurses := true, apart := false }
def QuantPutsSaid : Prop := quantPutsRow.holds Try.pinned (OpenSpec.ofChange quantPutsSpec)

/-- ITS FALSE NEIGHBOUR: 'it returns false'. Refute it at one input. -/
def quantPutsWrong : ChangeSpec := { name := "quantPuts", fn := fun _ => fun
  | [d1, d2, d3] => { results := [.lit (.bool false)], args := [d1, d2, d3] }
  | _ => none }
def QuantPutsWrongFalsely : Prop := quantPutsRow.holds Try.pinned (OpenSpec.ofChange quantPutsWrong)

/-- 'sidebandlaw12.QuantGets': WHATEVER THE INPUT: true; the input reads as it did. -/
def quantGetsSpec : ChangeSpec := { name := "quantGets", fn := fun _ => fun
  | [d1, d2, d3] => { results := [.lit (.bool true)], args := [d1, d2, d3] }
  | _ => none }
def quantGetsRow : OpenClaim := { program := "ytdmafololcpamaa", sum := "de06f9649ea6c8c799f45214689302af9f66ef87d824b277d5b92d47b938da3d", func := "sideband/sidebandlaw12.QuantGets", spec := "quantGets", unfollowed := true, recurses := true, apart := false }
def QuantGetsSaid : Prop := quantGetsRow.holds Try.pinned (OpenSpec.ofChange quantGetsSpec)

/-- ITS FALSE NEIGHBOUR: 'it returns false'. Refute it at one input. -/
def quantGetsWrong : ChangeSpec := { name := "quantGets", fn := fun _ => fun
  | [d1, d2, d3] => { results := [.lit (.bool false)], args := [d1, d2, d3] }
  | _ => none }
def QuantGetsWrongFalsely : Prop := quantGetsRow.holds Try.pinned (OpenSpec.ofChange quantGetsWrong)

/-- 'sidebandlaw12.QuantNear': WHATEVER THE INPUT: true; the input reads as it did. -/
def quantNearSpec : ChangeSpec := { name := "quantNear", fn := fun _ => fun
  | [d1, d2, d3] => { results := [.lit (.bool true)], args := [d1, d2, d3] }
  | _ => none }
def quantNearRow : OpenClaim := { program := "ytdmafololcpamaa", sum := "de06f9649ea6c8c799f45214689302af9f66ef87d824b277d5b92d47b938da3d", func := "sideband/sidebandlaw12.QuantNear", spec := "quantNear", unfollowed := true, recurses := true, apart := false }
def QuantNearSaid : Prop := quantNearRow.holds Try.pinned (OpenSpec.ofChange quantNearSpec)

/-- ITS FALSE NEIGHBOUR: 'it returns false'. Refute it at one input. -/
def quantNearWrong : ChangeSpec := { name := "quantNear", fn := fun _ => fun
  | [d1, d2, d3] => { results := [.lit (.bool false)], args := [d1, d2, d3] }
  | _ => none }
def QuantNearWrongFalsely : Prop := quantNearRow.holds Try.pinned (OpenSpec.ofChange quantNearWrong)

/-- 'sidebandlaw12.QuantArgs': WHATEVER THE INPUT: true; the input reads as it did. -/
def quantArgsSpec : ChangeSpec := { name := "quantArgs", fn := fun _ => fun
  | [d1, d2, d3] => { results := [.lit (.bool true)], args := [d1, d2, d3] }
  | _ => none }
def quantArgsRow : OpenClaim := { program := "ytdmafololcpamaa", sum := "de06f9649ea6c8c799f45214689302af9f66ef87d824b277d5b92d47b938da3d", func := "sideband/sidebandlaw12.QuantArgs", spec := "quantArgs", unfollowed := true, recurses := true, apart := false }
def QuantArgsSaid : Prop := quantArgsRow.holds Try.pinned (OpenSpec.ofChange quantArgsSpec)

/-- ITS FALSE NEIGHBOUR: 'it returns false'. Refute it at one input. -/
def quantArgsWrong : ChangeSpec := { name := "quantArgs", fn := fun _ => fun
  | [d1, d2, d3] => { results := [.lit (.bool false)], args := [d1, d2, d3] }
  | _ => none }
def QuantArgsWrongFalsely : Prop := quantArgsRow.holds Try.pinned (OpenSpec.ofChange quantArgsWrong)

/- THE SECOND FORM. 'bulk': how many values and letters a reading holds, each counted each time it is reached (what is shared counts as often as it is met; a slice's spare places count too). A statement '..UptoSaid' is the law's where the arguments, and the package variables that the reading takes, are together of bulk at most 1048576: NARROWER than '..Said'. Prove '..Said' where nothing that the law and all that it calls make is longer than what came in: it says more and counts as full. Else prove '..UptoSaid'. A law counts once. -/
mutual
def uptoBulk {H : Type} : DataW H → Nat
  | .lit (.string bytes) => bytes.length + 1
  | .lit _ => 1
  | .nil => 1
  | .ptr d => uptoBulk d + 1
  | .slice elems spare => uptoBulkAll elems + uptoBulkAll spare + 1
  | .agg parts => uptoBulkAll parts + 1
  | .iface _ d => uptoBulk d + 1
  | .map entries => uptoBulkEntries entries + 1
  | .held _ => 1
def uptoBulkAll {H : Type} : List (DataW H) → Nat
  | [] => 0
  | d :: r => uptoBulk d + uptoBulkAll r
def uptoBulkEntries {H : Type} : List (Lit × DataW H) → Nat
  | [] => 0
  | x :: r => uptoBulkEntry x + uptoBulkEntries r
def uptoBulkEntry {H : Type} : Lit × DataW H → Nat
  | (.string bytes, d) => bytes.length + uptoBulk d + 1
  | (_, d) => uptoBulk d + 1
 end
def uptoSmall : (H : Type) → List (DataW H) → Bool := fun _ ds => decide (uptoBulkAll ds ≤ 1048576)
def OpenSpec.upto (s : _root_.Go.ChangeSpec) : _root_.Go.OpenSpec := { _root_.Go.OpenSpec.ofChange s with cond := some uptoSmall }

/-- 'sidebandlaw12.QuantPuts', WHERE WHAT IT READS IS OF BULK AT MOST 1048576: true; the input reads as it did. -/
def quantPutsUptoRow : OpenClaim := { program := "ytdmafololcpamaa", sum := "de06f9649ea6c8c799f45214689302af9f66ef87d824b277d5b92d47b938da3d", func := "sideband/sidebandlaw12.QuantPuts", spec := "quantPuts", unfollowed := true, recurses := true, apart := false, narrowed := true }
def QuantPutsUptoSaid : Prop := quantPutsUptoRow.holds Try.pinned (OpenSpec.upto quantPutsSpec)

/-- 'sidebandlaw12.QuantGets', WHERE WHAT IT READS IS OF BULK AT MOST 1048576: true; the input reads as it did. -/
def quantGetsUptoRow : OpenClaim := { program := "ytdmafololcpamaa", sum := "de06f9649ea6c8c799f45214689302af9f66ef87d824b277d5b92d47b938da3d", func := "sideband/sidebandlaw12.QuantGets", spec := "quantGets", unfollowed := true, recurses := true, apart := false, narrowed := true }
def QuantGetsUptoSaid : Prop := quantGetsUptoRow.holds Try.pinned (OpenSpec.upto quantGetsSpec)

/-- 'sidebandlaw12.QuantNear', WHERE WHAT IT READS IS OF BULK AT MOST 1048576: true; the input reads as it did. -/
def quantNearUptoRow : OpenClaim := { program := "ytdmafololcpamaa", sum := "de06f9649ea6c8c799f45214689302af9f66ef87d824b277d5b92d47b938da3d", func := "sideband/sidebandlaw12.QuantNear", spec := "quantNear", unfollowed := true, recurses := true, apart := false, narrowed := true }
def QuantNearUptoSaid : Prop := quantNearUptoRow.holds Try.pinned (OpenSpec.upto quantNearSpec)

/-- 'sidebandlaw12.QuantArgs', WHERE WHAT IT READS IS OF BULK AT MOST 1048576: true; the input reads as it did. -/
def quantArgsUptoRow : OpenClaim := { program := "ytdmafololcpamaa", sum := "de06f9649ea6c8c799f45214689302af9f66ef87d824b277d5b92d47b938da3d", func := "sideband/sidebandlaw12.QuantArgs", spec := "quantArgs", unfollowed := true, recurses := true, apart := false, narrowed := true }
def QuantArgsUptoSaid : Prop := quantArgsUptoRow.holds Try.pinned (OpenSpec.upto quantArgsSpec)

end Rows
end Go.Proofs.Ytdmafololcpamaa
