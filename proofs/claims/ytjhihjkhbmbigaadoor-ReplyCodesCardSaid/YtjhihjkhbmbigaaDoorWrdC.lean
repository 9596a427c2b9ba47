/- What names and mounts are, by the document's answers and by package word, for whatever texts. -/
import Derived.Test.YtjhihjkhbmbigaaDoorWrdB
import Derived.Test.YtjhihjkhbmbigaaDoorShelf
namespace Go.Proofs.YtjhihjkhbmbigaaDoor
open Go.RowKit Go.PlainAid
set_option linter.unusedVariables false

/-! ### Mounts, by the document's answer -/
def mountP (c : Int) : Bool := plainB c || (c == 46 || c == 45 || c == 95)
theorem mountP_yes {b : Nat} (h : plainB b = true) : mountP b = true := by unfold mountP; rw [h]; rfl
theorem mountP_no {b : Nat} (h : plainB b = false) (h1 : ¬ b = 46) (h2 : ¬ b = 45) (h3 : ¬ b = 95) : mountP b = false := by
  unfold mountP
  rw [h]
  have a1 : ¬ (b : Int) = 46 := by omega
  have a2 : ¬ (b : Int) = 45 := by omega
  have a3 : ¬ (b : Int) = 95 := by omega
  simp [a1, a2, a3]
theorem mountP_46 {b : Nat} (h : b = 46) : mountP b = true := by subst h; decide
theorem mountP_45 {b : Nat} (h : b = 45) : mountP b = true := by subst h; decide
theorem mountP_95 {b : Nat} (h : b = 95) : mountP b = true := by subst h; decide
def mountF (l : List UInt8) : Bool := (decide (2 ≤ l.length) && decide (l.length ≤ 20) && decide ((l.getD 0 0).toNat = 47)) && okTo mountP (l.drop 1)
theorem bneN {b k : Nat} (h : ¬ b = k) : ((b : Int) != (k : Nat)) = true := by
  have : ¬ (b : Int) = (k : Nat) := by omega
  simpa using this
theorem drop_getD (l : List UInt8) (k : Nat) : (l.drop 1).getD k 0 = l.getD (k + 1) 0 := by
  rw [List.getD_eq_getElem?_getD, List.getD_eq_getElem?_getD, List.getElem?_drop, Nat.add_comm]
/-! ### Letters, figures, and some others -/
def isP (o : ByteArray) (c : Int) : Bool := plainB c || decide (0 ≤ Lib.indexByte o.data.toList c.toNat.toUInt8)
theorem plain_cases (c : Int) (h : plainB c = true) : (97 ≤ c ∧ c ≤ 122) ∨ (65 ≤ c ∧ c ≤ 90) ∨ (48 ≤ c ∧ c ≤ 57) := by
  unfold plainB at h
  exact of_decide_eq_true h
theorem plain_not (c : Int) (h : plainB c = false) : ¬ ((97 ≤ c ∧ c ≤ 122) ∨ (65 ≤ c ∧ c ≤ 90) ∨ (48 ≤ c ∧ c ≤ 57)) := by
  unfold plainB at h
  exact of_decide_eq_false h
end Go.Proofs.YtjhihjkhbmbigaaDoor
