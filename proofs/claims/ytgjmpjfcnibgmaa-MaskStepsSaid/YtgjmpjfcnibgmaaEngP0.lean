/- Plain facts of layer 10 that want no range coder: how many bits a number has, the ceilings of lines, which ceilings are right, lists that are filled. Nothing here speaks of the program. -/
import Derived.Test.YtgjmpjfcnibgmaaBandS
import Derived.Test.YtgjmpjfcnibgmaaMemF
import Derived.Laws.MathBits
namespace Go.Proofs.Ytgjmpjfcnibgmaa
open Go Go.RowKit
set_option linter.unusedVariables false

/-! ### Bits -/
/-- How many bits a number has, without its sign. -/
def bitsI (x : Int) : Nat := bitLen x.natAbs
theorem bitLen_zero : bitLen 0 = 0 := rfl
theorem bitLen_half {n : Nat} (h : n ≠ 0) : bitLen n = bitLen (n / 2) + 1 := by
  by_cases h1 : n / 2 = 0
  · obtain rfl : n = 1 := by omega
    decide
  · have := bitLen_shift n 1 (by simpa using h1)
    rw [this]; simp only [Nat.pow_one]; omega
theorem bitLen_le {n k : Nat} (h : n < 2 ^ k) : bitLen n ≤ k := by
  by_cases h0 : n = 0
  · subst h0; rw [bitLen_zero]; omega
  · have h1 := (bitLen_spec n).2 h0
    have h2 : 2 ^ (bitLen n - 1) < 2 ^ k := by omega
    have h3 := (Nat.pow_lt_pow_iff_right (by decide : 1 < 2)).1 h2
    omega
theorem bitsI_le {x : Int} (h0 : -2147483648 ≤ x) (h1 : x ≤ 2147483648) : bitsI x ≤ 32 := bitLen_le (by omega)
theorem bitsI_zero : bitsI 0 = 0 := rfl

/-! ### Ceilings -/
/-- The greatest of n numbers from a on, and of nought. -/
def maxTo (f : Nat → Int) (a : Nat) : Nat → Int
  | 0 => 0
  | n + 1 => max (maxTo f a n) (f (a + n))
theorem maxTo_zero (f : Nat → Int) (a : Nat) : maxTo f a 0 = 0 := rfl
theorem maxTo_succ (f : Nat → Int) (a n : Nat) : maxTo f a (n + 1) = max (maxTo f a n) (f (a + n)) := rfl
theorem maxTo_bd {f : Nat → Int} {a : Nat} {m : Int} (h : 0 ≤ m) : ∀ n, (∀ i, i < n → f (a + i) ≤ m) → 0 ≤ maxTo f a n ∧ maxTo f a n ≤ m := by
  intro n
  induction n with
  | zero => intro _; exact ⟨Int.le_refl _, h⟩
  | succ n ih =>
    intro hf
    have := ih fun i hi => hf i (by omega)
    have := hf n (by omega)
    rw [maxTo_succ]; omega
theorem maxTo_ext {f g : Nat → Int} {a : Nat} : ∀ n, (∀ i, i < n → f (a + i) = g (a + i)) → maxTo f a n = maxTo g a n := by
  intro n
  induction n with
  | zero => intro _; rfl
  | succ n ih => intro h; rw [maxTo_succ, maxTo_succ, ih fun i hi => h i (by omega), h n (by omega)]
/-- The edges as counts. -/
def edgeK (k : Nat) : Nat := (edgeN k).toNat
theorem edgeK_eq {k : Nat} (h : k < 22) : edgeN k = (edgeK k : Int) := by have := edge_bd k h; unfold edgeK; omega
theorem edgeK_lt : ∀ k : Nat, k < 21 → edgeK k < edgeK (k + 1) ∧ edgeK (k + 1) ≤ 512 := by decide
/-- The bits of each of some numbers. -/
def bitF (x : Nat → Int) (i : Nat) : Int := bitsI (x i)
/-- The ceilings of lines. -/
def ceilF (x : Nat → Int) (b : Nat) : Int := maxTo (bitF x) (edgeK b) (edgeK (b + 1) - edgeK b)
theorem bitF_bd {x : Nat → Int} (h : ∀ i, i < 512 → -2147483648 ≤ x i ∧ x i ≤ 2147483647) {i : Nat} (hi : i < 512) : 0 ≤ bitF x i ∧ bitF x i ≤ 32 := by
  have := bitsI_le (x := x i) (by have := h i hi; omega) (by have := h i hi; omega)
  unfold bitF; omega
theorem ceilF_bd {x : Nat → Int} (h : ∀ i, i < 512 → -2147483648 ≤ x i ∧ x i ≤ 2147483647) {b : Nat} (hb : b < 21) : 0 ≤ ceilF x b ∧ ceilF x b ≤ 32 := by
  have := edgeK_lt b hb
  exact maxTo_bd (by decide) _ fun i hi => (bitF_bd h (by omega)).2
theorem ceilF_ext {x y : Nat → Int} (h : ∀ i, i < 512 → x i = y i) {b : Nat} (hb : b < 21) : ceilF x b = ceilF y b := by
  have := edgeK_lt b hb
  exact maxTo_ext _ fun i hi => by unfold bitF; rw [h _ (by omega)]

/-! ### Which are right -/
def rightB (zs : List Int) : Bool := decide (zs.length = 21) && zs.all fun z => decide (0 ≤ z) && decide (z ≤ 26)
theorem rightB_true {zs : List Int} (h : rightB zs = true) : zs.length = 21 ∧ ∀ j, j < 21 → 0 ≤ zs.getD j 0 ∧ zs.getD j 0 ≤ 26 := by
  unfold rightB at h
  rw [Bool.and_eq_true, decide_eq_true_eq, List.all_eq_true] at h
  refine ⟨h.1, fun j hj => ?_⟩
  have hj' : j < zs.length := by omega
  have := h.2 (zs.getD j 0) (by simp [List.getD, hj'])
  simpa using this
theorem rightB_of {zs : List Int} (hl : zs.length = 21) (h : ∀ j, j < 21 → 0 ≤ zs.getD j 0 ∧ zs.getD j 0 ≤ 26) : rightB zs = true := by
  unfold rightB
  rw [Bool.and_eq_true, decide_eq_true_eq, List.all_eq_true]
  refine ⟨hl, fun z hz => ?_⟩
  obtain ⟨j, hj, rfl⟩ := List.getElem_of_mem hz
  have := h j (by omega)
  simpa [List.getD, hj] using this
theorem rightB_len {zs : List Int} (h : zs.length ≠ 21) : rightB zs = false := by unfold rightB; simp [h]
theorem rightB_at {zs : List Int} {j : Nat} (hj : j < zs.length) (h : zs.getD j 0 < 0 ∨ 26 < zs.getD j 0) : rightB zs = false := by
  cases hr : rightB zs with
  | false => rfl
  | true =>
    have h1 := rightB_true hr
    have := h1.2 j (by omega)
    omega

/-! ### Lists that are filled -/
/-- The first k of some numbers, noughts behind. -/
def preF (F : Nat → Int) (k i : Nat) : Int := if i < k then F i else 0
theorem preF_zero (F : Nat → Int) (i : Nat) : preF F 0 i = 0 := if_neg (by omega)
theorem preF_next (F : Nat → Int) (k i : Nat) : (if i = k then F k else preF F k i) = preF F (k + 1) i := by
  unfold preF
  by_cases h : i = k
  · subst h; rw [if_pos rfl, if_pos (by omega)]
  · rw [if_neg h]; split
    · rw [if_pos (by omega)]
    · rw [if_neg (by omega)]
theorem preF_end (F : Nat → Int) {k i : Nat} (h : i < k) : preF F k i = F i := if_pos h
/-- The ceilings of the first k bands, the greatest of m lines of the next, noughts behind. -/
def accF (x : Nat → Int) (k m i : Nat) : Int := if i < k then ceilF x i else if i = k then maxTo (bitF x) (edgeK k) m else 0
theorem accF_zero (x : Nat → Int) (k i : Nat) : accF x k 0 i = preF (ceilF x) k i := by
  unfold accF preF
  split
  · rfl
  · split <;> rfl
theorem accF_here (x : Nat → Int) (k m : Nat) : accF x k m k = maxTo (bitF x) (edgeK k) m := by unfold accF; rw [if_neg (by omega), if_pos rfl]
theorem accF_next (x : Nat → Int) (k m i : Nat) {y : Int} (h : y = maxTo (bitF x) (edgeK k) (m + 1)) : (if i = k then y else accF x k m i) = accF x k (m + 1) i := by
  subst h
  unfold accF
  by_cases h : i = k
  · subst h; rw [if_pos rfl, if_neg (by omega), if_pos rfl]
  · rw [if_neg h]; split
    · rfl
    · rfl
theorem accF_end (x : Nat → Int) {k n : Nat} (i : Nat) (h : n = edgeK (k + 1) - edgeK k) : accF x k n i = preF (ceilF x) (k + 1) i := by
  subst h
  unfold accF preF
  by_cases h : i = k
  · subst h; rw [if_neg (by omega), if_pos rfl, if_pos (by omega)]; rfl
  · split
    · rw [if_pos (by omega)]
    · rw [if_neg (by omega)]
end Go.Proofs.Ytgjmpjfcnibgmaa
