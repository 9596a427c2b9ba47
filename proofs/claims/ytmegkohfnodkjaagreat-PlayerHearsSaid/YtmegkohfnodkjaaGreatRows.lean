/-
  No cell of these rows narrows 'for every input' (looked for: loops, veiled, ifaces, maps, wideKeys, modest, calm, conditions, laid).
  DERIVED. THE GIVEN ROWS OF THIS SEAT. 3 by the template 'for every input the law returns true; each argument reads behind the call as it read before'; 0 by the template 'total and deterministic' (their statements: YtmegkohfnodkjaaGreatTotals.lean).
  GIVEN WITH THE SEED: the statements are not yours to turn. If you find one false, say at which input.
  Laid BY PROGRAM, IN A SANDBOX (cutbox-rows.mjs): the forced cells as the released guide's own fill.sh prints them over the translation 9730cf7ef613686a… (all of the seat's roots in one cut). By AI agents, Wed Nov 11 2026. No macro, syntax, notation, axiom, sorry.
-/
import Derived.Test.YtmegkohfnodkjaaGreatChecked
import GoSem.Claim
import GoSem.ClaimJoined
import GoSem.ClaimMapViews
import Derived.JoinedTies
import Derived.KernelRfl
namespace Go.Proofs.YtmegkohfnodkjaaGreat
/- THE CELL 'sum', in the pinned program and in every row, IS THE sha256 OF THE DUMP (.gsa) THAT YtmegkohfnodkjaaGreatProg.lean LOADS. Nothing in Lean hashes anything: it is a label: what it is worth is what the hold of that sum in a sandbox is worth. -/
noncomputable def Tryz.pinned : Pinned := { name := "ytmegkohfnodkjaagreat", sum := "9730cf7ef613686a795c310c869db4662a9773bd6eae76ad12aaf5a8db3bd558", checked := Tryz.checked }
namespace Rows
def none {H : Type} : Left H := { results := [], args := [] }

/-- 'sidebandlaw14.PlayerActs': WHATEVER THE INPUT: true; the input reads as it did. -/
def playerActsSpec : ChangeSpec := { name := "playerActs", fn := fun _ => fun
  | [d1, d2, d3] => { results := [.lit (.bool true)], args := [d1, d2, d3] }
  | _ => none }
def playerActsRow : OpenClaim := { program := "ytmegkohfnodkjaagreat", sum := "9730cf7ef613686a795c310c869db4662a9773bd6eae76ad12aaf5a8db3bd558", func := "sideband/sidebandlaw14.PlayerActs", spec := "playerActs", unfollowed := true, recurses := true, apart := false }
def PlayerActsSaid : Prop := playerActsRow.holds Tryz.pinned (OpenSpec.ofChange playerActsSpec)

/-- ITS FALSE NEIGHBOUR: 'it returns false'. Refute it at one input. -/
def playerActsWrong : ChangeSpec := { name := "playerActs", fn := fun _ => fun
  | [d1, d2, d3] => { results := [.lit (.bool false)], args := [d1, d2, d3] }
  | _ => none }
def PlayerActsWrongFalsely : Prop := playerActsRow.holds Tryz.pinned (OpenSpec.ofChange playerActsWrong)

/-- 'sidebandlaw14.PlayerHears': WHATEVER THE INPUT: true; the input reads as it did. -/
def playerHearsSpec : ChangeSpec := { name := "playerHears", fn := fun _ => fun
  | [d1, d2, d3] => { results := [.lit (.bool true)], args := [d1, d2, d3] }
  | _ => none }
def playerHearsRow : OpenClaim := { program := "ytmegkohfnodkjaagreat", sum := "9730cf7ef613686a795c310c869db4662a9773bd6eae76ad12aaf5a8db3bd558", func := "sideband/sidebandlaw14.PlayerHears", spec := "playerHears", unfollowed := true, recurses := true, apart := false }
def PlayerHearsSaid : Prop := playerHearsRow.holds Tryz.pinned (OpenSpec.ofChange playerHearsSpec)

/-- ITS FALSE NEIGHBOUR: 'it returns false'. Refute it at one input. -/
def playerHearsWrong : ChangeSpec := { name := "playerHears", fn := fun _ => fun
  | [d1, d2, d3] => { results := [.lit (.bool false)], args := [d1, d2, d3] }
  | _ => none }
def PlayerHearsWrongFalsely : Prop := playerHearsRow.holds Tryz.pinned (OpenSpec.ofChange playerHearsWrong)

/-- 'sidebandlaw14.PlayerNil': WHATEVER THE INPUT: true; the input reads as it did. -/
def playerNilSpec : ChangeSpec := { name := "playerNil", fn := fun _ => fun
  | [d1, d2] => { results := [.lit (.bool true)], args := [d1, d2] }
  | _ => none }
def playerNilRow : OpenClaim := { program := "ytmegkohfnodkjaagreat", sum := "9730cf7ef613686a795c310c869db4662a9773bd6eae76ad12aaf5a8db3bd558", func := "sideband/sidebandlaw14.PlayerNil", spec := "playerNil", unfollowed := true, recurses := true, apart := false }
def PlayerNilSaid : Prop := playerNilRow.holds Tryz.pinned (OpenSpec.ofChange playerNilSpec)

/-- ITS FALSE NEIGHBOUR: 'it returns false'. Refute it at one input. -/
def playerNilWrong : ChangeSpec := { name := "playerNil", fn := fun _ => fun
  | [d1, d2] => { results := [.lit (.bool false)], args := [d1, d2] }
  | _ => none }
def PlayerNilWrongFalsely : Prop := playerNilRow.holds Tryz.pinned (OpenSpec.ofChange playerNilWrong)

/- THE SECOND FORM. 'bulk': how many values and letters a reading holds, each counted each time it is reached (what is shared counts as often as it is met; a slice's spare places count too). A statement '..UptoSaid' is the law's where the arguments, and the package variables that the reading takes, are together of bulk at most 1048576: NARROWER than '..Said'. Prove '..Said' where nothing that the law and all that it calls make is longer than what came in: it says more and counts as full. Else prove '..UptoSaid'. A law counts once. -/
mutual
def uptoBulk {H : Type} : DataW H → Nat
  | .lit (.string bytes) => bytes.length + 1
  | .lit _ => 1
  | .nil => 1
  | .ptr d => uptoBulk d + 1
  | .slice elems spare => uptoBulkAll elems + uptoBulkAll spare + 1
  | .agg parts => uptoBulkAll parts + 1
  | .iface _ d => uptoBulk d + 1
  | .map entries => uptoBulkEntries entries + 1
  | .held _ => 1
def uptoBulkAll {H : Type} : List (DataW H) → Nat
  | [] => 0
  | d :: r => uptoBulk d + uptoBulkAll r
def uptoBulkEntries {H : Type} : List (Lit × DataW H) → Nat
  | [] => 0
  | x :: r => uptoBulkEntry x + uptoBulkEntries r
def uptoBulkEntry {H : Type} : Lit × DataW H → Nat
  | (.string bytes, d) => bytes.length + uptoBulk d + 1
  | (_, d) => uptoBulk d + 1
 end
def uptoSmall : (H : Type) → List (DataW H) → Bool := fun _ ds => decide (uptoBulkAll ds ≤ 1048576)
def OpenSpec.upto (s : _root_.Go.ChangeSpec) : _root_.Go.OpenSpec := { _root_.Go.OpenSpec.ofChange s with cond := some uptoSmall }

/-- 'sidebandlaw14.PlayerActs', WHERE WHAT IT READS IS OF BULK AT MOST 1048576: true; the input reads as it did. -/
def playerActsUptoRow : OpenClaim := { program := "ytmegkohfnodkjaagreat", sum := "9730cf7ef613686a795c310c869db4662a9773bd6eae76ad12aaf5a8db3bd558", func := "sideband/sidebandlaw14.PlayerActs", spec := "playerActs", unfollowed := true, recurses := true, apart := false, narrowed := true }
def PlayerActsUptoSaid : Prop := playerActsUptoRow.holds Tryz.pinned (OpenSpec.upto playerActsSpec)

/-- 'sidebandlaw14.PlayerHears', WHERE WHAT IT READS IS OF BULK AT MOST 1048576: true; the input reads as it did. -/
def playerHearsUptoRow : OpenClaim := { program := "ytmegkohfnodkjaagreat", sum := "9730cf7ef613686a795c310c869db4662a9773bd6eae76ad12aaf5a8db3bd558", func := "sideband/sidebandlaw14.PlayerHears", spec := "playerHears", unfollowed := true, recurses := true, apart := false, narrowed := true }
def PlayerHearsUptoSaid : Prop := playerHearsUptoRow.holds Tryz.pinned (OpenSpec.upto playerHearsSpec)

/-- 'sidebandlaw14.PlayerNil', WHERE WHAT IT READS IS OF BULK AT MOST 1048576: true; the input reads as it did. -/
def playerNilUptoRow : OpenClaim := { program := "ytmegkohfnodkjaagreat", sum := "9730cf7ef613686a795c310c869db4662a9773bd6eae76ad12aaf5a8db3bd558", func := "sideband/sidebandlaw14.PlayerNil", spec := "playerNil", unfollowed := true, recurses := true, apart := false, narrowed := true }
def PlayerNilUptoSaid : Prop := playerNilUptoRow.holds Tryz.pinned (OpenSpec.upto playerNilSpec)

end Rows
end Go.Proofs.YtmegkohfnodkjaaGreat
