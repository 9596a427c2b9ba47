/- What package packet's small functions give: bytes by themselves; a number's bytes, one by one. -/
import Derived.Test.YtfnmdaoehnafcaaRows
import Derived.Test.YtfnmdaoehnafcaaPktR
import Derived.IntWalk
import Derived.Test.YtfnmdaoehnafcaaPktQ
import Derived.Shelf.Abstract
import Derived.Shelf.RegionOpen
import Derived.WalkKit
import Derived.OwnWalkIn
import Derived.TacticsInMore
import Derived.LoopNIn
import Derived.LoopIn
namespace Go.Proofs.Ytfnmdaoehnafcaa
open Go.RowKit Go.Shelf
set_option linter.unusedVariables false
set_option linter.unusedSimpArgs false

theorem info19_u8 : (Try.prog.info? 5).map (fun i => (i.zero, i.size, i.bytes)) = some (some (.int .u8 0), 1, 1) := by kernel_rfl
/-- Bytes in memory of the call's own. -/
def OwnPost (b : List Int) (w : World) (x : Ending) (w' : World) : Prop :=
  ∃ v, x = .returned v ∧ w'.ownsRow w.heap.size 5 1 v b.length (b.map (Value.int .u8)) ∧ Below w.heap.size w w'
/-! ### A number's bytes, one by one -/
section
attribute [local go_sem] Oper.semAt_some
theorem numL_split {n : Int} {k N : Nat} (h : k < N) : numL n N = numL n k ++ (n / P8 k % 256) :: (numL n N).drop (k + 1) := by
  have e : ∀ N, k < N → (numL n N).take (k + 1) = numL n (k + 1) := by
    intro N
    induction N with
    | zero => intro h; omega
    | succ N ih =>
      intro h
      by_cases hk : k = N
      · subst hk; exact List.take_of_length_le (by rw [numL_len]; omega)
      · rw [numL_snoc, List.take_append_of_le_length (by rw [numL_len]; omega)]
        exact ih (by omega)
  have := List.take_append_drop (k + 1) (numL n N)
  rw [e N h, numL_snoc, List.append_assoc] at this
  exact this.symm
theorem two_pow8 (k : Nat) : (2 : Int) ^ (8 * k) = P8 k := by unfold P8; rw [Int.pow_mul]; rfl
/-! ### Bytes of a number, behind others -/
/-- What a row of bytes becomes: others behind it. -/
def JoinPost (base : Nat) (b : List Int) (w : World) (x : Ending) (w' : World) : Prop :=
  ∃ v, x = .returned v ∧ w'.ownsRow base 5 1 v b.length (b.map (Value.int .u8)) ∧ Below base w w'
end
end Go.Proofs.Ytfnmdaoehnafcaa
