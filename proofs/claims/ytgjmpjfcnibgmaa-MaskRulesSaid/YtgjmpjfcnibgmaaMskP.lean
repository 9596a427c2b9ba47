/- Plain facts of layer 11: thresholds, steps, which bands are told, how far lines may be. Nothing here speaks of the program. -/
import Derived.Test.YtgjmpjfcnibgmaaEngP0
namespace Go.Proofs.Ytgjmpjfcnibgmaa
open Go Go.RowKit
set_option linter.unusedVariables false

/-! ### Thresholds -/
/-- How many bits band j masks less in band b than in itself. -/
def fadeF (j b : Nat) : Int := if j < b then 2 * ((b : Int) - j) else 3 * ((j : Int) - b)
theorem fadeF_same (b : Nat) : fadeF b b = 0 := by unfold fadeF; rw [if_neg (by omega)]; omega
theorem fadeF_below {j b : Nat} (h : j < b) : fadeF j b = 2 * ((b : Int) - j) := if_pos h
theorem fadeF_above {j b : Nat} (h : ¬ j < b) : fadeF j b = 3 * ((j : Int) - b) := if_neg h
theorem fadeF_bd {j b : Nat} (hj : j < 21) (hb : b < 21) : 0 ≤ fadeF j b ∧ fadeF j b ≤ 60 := by unfold fadeF; split <;> omega
/-- The greatest of nought and what the first n bands mask in band b. -/
def thrTo (l : Nat → Int) (b : Nat) : Nat → Int
  | 0 => 0
  | n + 1 => max (thrTo l b n) (l n - fadeF n b)
theorem thrTo_succ (l : Nat → Int) (b n : Nat) : thrTo l b (n + 1) = max (thrTo l b n) (l n - fadeF n b) := rfl
theorem thrTo_bd {l : Nat → Int} {b : Nat} (hb : b < 21) : ∀ n, n ≤ 21 → (∀ j, j < n → 0 ≤ l j ∧ l j ≤ 26) → 0 ≤ thrTo l b n ∧ thrTo l b n ≤ 26 := by
  intro n
  induction n with
  | zero => intro _ _; exact ⟨Int.le_refl 0, by show (0 : Int) ≤ 26; decide⟩
  | succ n ih =>
    intro hn h
    have h1 := ih (by omega) fun j hj => h j (by omega)
    have h2 := h n (by omega)
    have h3 := fadeF_bd (j := n) (by omega) hb
    rw [thrTo_succ]; omega
theorem thrTo_ge {l : Nat → Int} {b : Nat} : ∀ n j, j < n → l j - fadeF j b ≤ thrTo l b n := by
  intro n
  induction n with
  | zero => intro j hj; omega
  | succ n ih =>
    intro j hj
    rw [thrTo_succ]
    by_cases e : j = n
    · subst e; omega
    · have := ih j (by omega); omega
theorem thrTo_own {l : Nat → Int} {b : Nat} (hb : b < 21) : l b ≤ thrTo l b 21 := by
  have := thrTo_ge (l := l) (b := b) 21 b hb
  rw [fadeF_same] at this; omega
theorem thrTo_ext {l m : Nat → Int} {b : Nat} : ∀ n, (∀ j, j < n → l j = m j) → thrTo l b n = thrTo m b n := by
  intro n
  induction n with
  | zero => intro _; rfl
  | succ n ih => intro h; rw [thrTo_succ, thrTo_succ, ih fun j hj => h j (by omega), h n (by omega)]

/-! ### Steps -/
/-- A band's step. -/
def stepF (l : Nat → Int) (q x : Int) (b : Nat) : Int := min (max (max (thrTo l b 21 - q + x) (l b - 12)) 0) (l b)
theorem stepF_bd {l : Nat → Int} (q x : Int) {b : Nat} (h : 0 ≤ l b) : 0 ≤ stepF l q x b ∧ stepF l q x b ≤ l b ∧ l b - 12 ≤ stepF l q x b := by unfold stepF; omega
theorem stepF_quality (l : Nat → Int) (q x : Int) (b : Nat) : stepF l (q + 1) x b ≤ stepF l q x b := by unfold stepF; omega
theorem stepF_loss (l : Nat → Int) (q x : Int) (b : Nat) : stepF l q x b ≤ stepF l q (x + 1) b := by unfold stepF; omega
theorem stepF_worst {l : Nat → Int} {q : Int} {b : Nat} (h : 0 ≤ l b) (hb : b < 21) (hq : q ≤ 10) : stepF l q 31 b = l b := by
  have := thrTo_own (l := l) hb
  unfold stepF; omega
theorem stepF_ext {l m : Nat → Int} (q x : Int) {b : Nat} (hb : b < 21) (h : ∀ j, j < 21 → l j = m j) : stepF l q x b = stepF m q x b := by
  unfold stepF; rw [thrTo_ext 21 h, h b hb]
theorem steps_right {l : Nat → Int} (q x : Int) (h : ∀ j, j < 21 → 0 ≤ l j ∧ l j ≤ 26) : rightB (tabF 21 (stepF l q x)) = true := rightB_of (tabF_len _ _) fun j hj => by
  rw [tabF_getD _ hj]
  have h1 := h j hj
  have h2 := stepF_bd (l := l) q x h1.1
  omega

/-! ### How far lines may be -/
/-- How far one line may be. -/
def oneF (n s : Int) : Int := if s < n then 2 ^ s.toNat else 2 ^ (n.toNat + 1)
theorem oneF_told {n s : Int} (h : s < n) : oneF n s = 2 ^ s.toNat := if_pos h
theorem oneF_not {n s : Int} (h : ¬ s < n) : oneF n s = 2 ^ (n.toNat + 1) := if_neg h
theorem pow_bd27 {k : Nat} (h : k ≤ 27) : (1 : Int) ≤ 2 ^ k ∧ (2 : Int) ^ k ≤ 134217728 := by
  constructor
  · exact Int.le_of_lt_add_one (by have := Int.pow_pos (n := 2) (m := k) (by decide); omega)
  · have h1 : (2 : Nat) ^ k ≤ 2 ^ 27 := Nat.pow_le_pow_right (by decide) h
    have h2 : ((2 ^ k : Nat) : Int) = (2 : Int) ^ k := by rw [Int.natCast_pow]; rfl
    have h3 : (2 : Nat) ^ 27 = 134217728 := by decide
    omega
theorem oneF_bd {n s : Int} (hn : n ≤ 26) (hs : s ≤ 26) : 1 ≤ oneF n s ∧ oneF n s ≤ 134217728 := by
  unfold oneF; split
  · exact pow_bd27 (by omega)
  · exact pow_bd27 (by omega)
/-- The first n bands' lines. -/
def reachTo (l s : Nat → Int) : Nat → Int
  | 0 => 0
  | n + 1 => reachTo l s n + ((edgeK (n + 1) : Int) - edgeK n) * oneF (l n) (s n)
theorem reachTo_succ (l s : Nat → Int) (n : Nat) : reachTo l s (n + 1) = reachTo l s n + ((edgeK (n + 1) : Int) - edgeK n) * oneF (l n) (s n) := rfl
theorem reachTo_bd {l s : Nat → Int} : ∀ n, n ≤ 21 → (∀ j, j < n → l j ≤ 26 ∧ s j ≤ 26) → 0 ≤ reachTo l s n ∧ reachTo l s n ≤ 68719476736 * n := by
  intro n
  induction n with
  | zero => intro _ _; exact ⟨Int.le_refl 0, by show (0 : Int) ≤ _; decide⟩
  | succ n ih =>
    intro hn h
    have h1 := ih (by omega) fun j hj => h j (by omega)
    have h2 := h n (by omega)
    obtain ⟨e1, e2⟩ := edgeK_lt n (by omega)
    obtain ⟨o1, o2⟩ := oneF_bd (n := l n) (s := s n) h2.1 h2.2
    rw [reachTo_succ]
    generalize oneF (l n) (s n) = y at o1 o2
    have m1 : ((edgeK (n + 1) : Int) - edgeK n) * y ≤ 512 * 134217728 := Int.mul_le_mul (by omega) o2 (by omega) (by decide)
    have m0 : 0 ≤ ((edgeK (n + 1) : Int) - edgeK n) * y := Int.mul_nonneg (by omega) (by omega)
    omega
theorem reachTo_ext {l s l' s' : Nat → Int} : ∀ n, (∀ j, j < n → l j = l' j ∧ s j = s' j) → reachTo l s n = reachTo l' s' n := by
  intro n
  induction n with
  | zero => intro _; rfl
  | succ n ih => intro h; rw [reachTo_succ, reachTo_succ, ih fun j hj => h j (by omega), (h n (by omega)).1, (h n (by omega)).2]
end Go.Proofs.Ytgjmpjfcnibgmaa
