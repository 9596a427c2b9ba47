/- What the document's answers for names and mounts give, for whatever texts. -/
import Derived.Test.YtjhihjkhbmbigaaDoorRows
import Derived.Test.YtjhihjkhbmbigaaDoorWrdW
import Derived.WalkKit
import Derived.WalkLawsBesides
import Derived.WalkSpells
import Derived.Handy
namespace Go.Proofs.YtjhihjkhbmbigaaDoor
open Go.RowKit Go.PlainAid
set_option linter.unusedVariables false

theorem ret_boolE {a b : Bool} (h : a = b) : Ending.returned (.bool a) = .returned (.bool b) := by rw [h]
def plainB (c : Int) : Bool := decide ((97 ≤ c ∧ c ≤ 122) ∨ (65 ≤ c ∧ c ≤ 90) ∨ (48 ≤ c ∧ c ≤ 57))
def okTo (p : Int → Bool) (l : List UInt8) : Bool := l.all fun c => p c.toNat
theorem okTo_take (p : Int → Bool) (l : List UInt8) (i : Nat) (h : i < l.length) : okTo p (l.take (i + 1)) = (okTo p (l.take i) && p (l.getD i 0).toNat) := by
  unfold okTo
  rw [List.take_succ_eq_append_getElem h, List.all_append]
  simp [List.getD_eq_getElem?_getD, List.getElem?_eq_getElem h]
theorem okTo_no (p : Int → Bool) (l : List UInt8) (i : Nat) (h : i < l.length) (hp : p (l.getD i 0).toNat = false) : okTo p l = false := by
  unfold okTo
  rw [List.all_eq_false]
  refine ⟨l[i], List.getElem_mem h, ?_⟩
  rw [List.getD_eq_getElem?_getD, List.getElem?_eq_getElem h] at hp
  simpa using hp
theorem okTo_all (p : Int → Bool) (l : List UInt8) (i : Nat) (h : l.length ≤ i) : okTo p (l.take i) = okTo p l := by rw [List.take_of_length_le h]
theorem okTo_nil (p : Int → Bool) : okTo p [] = true := rfl

/-! ### Names -/
def nameP (c : Int) : Bool := plainB c || c == 45
theorem nameP_yes {b : Nat} (h : plainB b = true) : nameP b = true := by unfold nameP; rw [h]; rfl
theorem nameP_45 {b : Nat} (h : b = 45) : nameP b = true := by subst h; decide
theorem nameP_no {b : Nat} (h : plainB b = false) (h2 : ¬ b = 45) : nameP b = false := by
  unfold nameP
  rw [h]
  have : ¬ (b : Int) = 45 := by omega
  simpa using this
theorem n45 {b : Nat} (h : ¬ b = 45) : ((b : Int) != 45) = true := by
  have : ¬ (b : Int) = 45 := by omega
  simpa using this
def nameF (l : List UInt8) : Bool := okTo nameP l && (decide (1 ≤ l.length) && decide (l.length ≤ 40))
end Go.Proofs.YtjhihjkhbmbigaaDoor
