/- What the document's answer for layer 3 gives: the check sum of any bytes. -/
import Derived.Test.YtfnmdaoehnafcaaRows
import Derived.Test.YtfnmdaoehnafcaaCheP
import Derived.Test.YtfnmdaoehnafcaaMem
import Derived.IntWalk
namespace Go.Proofs.Ytfnmdaoehnafcaa
open Go.RowKit
set_option linter.unusedVariables false

theorem u32_turn {n : Nat} (h : n < 4294967296) : bits .xor .u32 ((n : Int)) 2197175160 = ((n ^^^ 2197175160 : Nat) : Int) := by
  have := u32_xor_nat n 2197175160 h (by decide)
  exact this
theorem bitAt_in {l : List Int} {k j : Nat} {x : Int} (hx : x = l.getD k 0) (h0 : 0 ≤ x) (hj : j < 8) : ((bitAt l (8 * k + j) : Nat) : Int) = x / 2 ^ j % 2 := by
  unfold bitAt
  rw [show (8 * k + j) / 8 = k by omega, show (8 * k + j) % 8 = j by omega, ← hx]
  obtain ⟨m, rfl⟩ : ∃ m : Nat, x = m := ⟨x.toNat, by omega⟩
  rw [Int.toNat_natCast, Int.natCast_emod, Int.natCast_ediv]
  simp
/-- One bit's turn, as the document's answer reckons it. -/
theorem turn_yes {r b : Nat} (hr : r < 4294967296) (hb : b < 2) (h : ((r : Int) % 2 != (b : Int)) = true) : bits .xor .u32 ((r : Int) / 2) 2197175160 = ((stepR r b : Nat) : Int) := by
  have e : (r : Int) / 2 = ((r / 2 : Nat) : Int) := by omega
  rw [e, u32_turn (by omega), stepR_eq hb, if_neg]
  intro c
  simp at h
  omega
theorem turn_no {r b : Nat} (hb : b < 2) (h : ((r : Int) % 2 != (b : Int)) = false) : (r : Int) / 2 = ((stepR r b : Nat) : Int) := by
  rw [stepR_eq hb, if_pos]
  · omega
  · simp at h; omega

end Go.Proofs.Ytfnmdaoehnafcaa
