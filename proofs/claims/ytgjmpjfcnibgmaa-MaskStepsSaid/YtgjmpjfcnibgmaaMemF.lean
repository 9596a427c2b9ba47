/- Words of mine for memory: a block of n numbers, told by a function of the place. -/
import Derived.Test.YtgjmpjfcnibgmaaMem
namespace Go.Proofs.Ytgjmpjfcnibgmaa
open Go.RowKit
set_option linter.unusedVariables false

def tabF (n : Nat) (f : Nat → Int) : List Int := (List.range n).map f
theorem tabF_len (n : Nat) (f : Nat → Int) : (tabF n f).length = n := by simp [tabF]
theorem tabF_getD {n : Nat} (f : Nat → Int) {j : Nat} (h : j < n) : (tabF n f).getD j 0 = f j := by simp [tabF, List.getD, h]
theorem tabF_ext {n : Nat} {f g : Nat → Int} (h : ∀ j, j < n → f j = g j) : tabF n f = tabF n g := by
  unfold tabF
  exact List.map_congr_left fun j hj => h j (List.mem_range.1 hj)
theorem tabF_set {n : Nat} (f : Nat → Int) {j : Nat} (h : j < n) (x : Int) : (tabF n f).set j x = tabF n (fun i => if i = j then x else f i) := by
  apply List.ext_getElem?
  intro i
  unfold tabF
  rw [List.getElem?_set]
  by_cases hij : j = i
  · subst hij; simp [h]
  · rw [if_neg hij]
    by_cases hi : i < n
    · simp [hi, show ¬ i = j from fun e => hij e.symm]
    · simp [hi]
theorem tabF_of (l : List Int) : tabF l.length (fun j => l.getD j 0) = l := by
  apply List.ext_getElem?
  intro i
  unfold tabF
  by_cases hi : i < l.length
  · simp [List.getD, hi]
  · simp [hi]
/-- Block g is just the n numbers f 0 .. -/
def IFun (w : World) (g : Nat) (t : TypeId) (k : IntKind) (n : Nat) (f : Nat → Int) : Prop := IRow w g t k (tabF n f)
section
variable {w w' : World} {g : Nat} {t : TypeId} {k : IntKind} {n : Nat} {f f' : Nat → Int}
theorem IFun.lt (h : IFun w g t k n f) : g < w.heap.size := IRow.lt h
theorem IFun.cell (h : IFun w g t k n f) {j : Nat} (hj : j < n) : w.cell? ⟨g, j, none⟩ = some (.int k (f j)) := by
  have := IRow.cell h (j := j) (by rw [tabF_len]; exact hj)
  rwa [tabF_getD f hj] at this
theorem IFun.frozen (h : IFun w g t k n f) (j : Nat) : w.frozen? ⟨g, j, none⟩ = false := IRow.frozen h j
theorem IFun.ext (h : IFun w g t k n f) (he : ∀ j, j < n → f j = f' j) : IFun w g t k n f' := by unfold IFun; rw [← tabF_ext he]; exact h
theorem IFun.set (h : IFun w g t k n f) {j : Nat} (hj : j < n) (x : Int) : IFun (w.setCell ⟨g, j, none⟩ (.int k x)) g t k n (fun i => if i = j then x else f i) := by
  have := IRow.set h j x
  rwa [tabF_set f hj] at this
theorem IFun.drewN (h : IFun w g t k n f) (i : Nat) : IFun (w.drewN i) g t k n f := h
theorem IFun.alloc (h : IFun w g t k n f) (o : Obj) : IFun (w.alloc o) g t k n f := IRow.alloc h o
theorem IFun.far (h : IFun w g t k n f) {p : Addr} (hp : g ≠ p.block) (u : Value) : IFun (w.setCell p u) g t k n f := IRow.far h hp u
theorem IFun.below {B : Nat} (h : IFun w g t k n f) (hb : Below B w w') (hg : g < B) : IFun w' g t k n f := IRow.below h hb hg
theorem IFun.zeros (w : World) (t : TypeId) (k : IntKind) (n : Nat) : IFun (w.alloc (.cells (madeCells #[.int k 0] n) t)) w.heap.size t k n (fun _ => 0) := by
  have := IRow.zeros w t k n
  have e : List.replicate n (0 : Int) = tabF n (fun _ => 0) := by
    apply List.ext_getElem?
    intro i
    unfold tabF
    by_cases hi : i < n
    · simp [hi]
    · simp [hi]
  rw [e] at this
  exact this
end
end Go.Proofs.Ytgjmpjfcnibgmaa
