/- What the document's encoder of layer 6 gives: a new one, its bytes. -/
import Derived.Test.YteffkhpofiloiaaRngF
namespace Go.Proofs.Yteffkhpofiloiaa
open Go.RowKit
set_option linter.unusedVariables false

/-! ### Bytes -/
/-- The last of the first k digits that isn't 0. -/
def lastK (D : List Int) : Nat → Int
  | 0 => -1
  | k + 1 => if D.getD k 0 = 0 then lastK D k else k
theorem lastK_bd (D : List Int) (k : Nat) : -1 ≤ lastK D k ∧ lastK D k < k := by
  induction k with
  | zero => exact ⟨Int.le_refl _, by show (-1 : Int) < 0; decide⟩
  | succ k ih => unfold lastK; split <;> omega
theorem lastK_over {D : List Int} : ∀ k j : Nat, lastK D k < j → j < k → D.getD j 0 = 0 := by
  intro k
  induction k with
  | zero => intro j _ h; omega
  | succ k ih =>
    intro j h1 h2
    unfold lastK at h1
    by_cases e : D.getD k 0 = 0
    · rw [if_pos e] at h1
      by_cases ej : j = k
      · subst ej; exact e
      · exact ih j h1 (by omega)
    · rw [if_neg e] at h1; omega
/-- Digits as bytes: without noughts behind. -/
def bytesL (D : List Int) : List Int := D.take (lastK D D.length + 1).toNat
theorem bytesL_len (D : List Int) : (bytesL D).length = (lastK D D.length + 1).toNat := by
  have := lastK_bd D D.length
  unfold bytesL; simp; omega
theorem info_u806 : (Try.prog.info? 5).map (fun i => (i.zero, i.size, i.bytes)) = some (some (.int .u8 0), 1, 1) := by kernel_rfl

def BytesPost (b : List Int) (w : World) (x : Ending) (w' : World) : Prop := ∃ a c, x = .returned (.slice a b.length c) ∧ IntsAt w' w'.heap.size .u8 a b.length b ∧ Below w.heap.size w w'

end Go.Proofs.Yteffkhpofiloiaa
