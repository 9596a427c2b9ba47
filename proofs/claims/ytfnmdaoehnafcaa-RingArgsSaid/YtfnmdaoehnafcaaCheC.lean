/- What the functions of package check give, for whatever bytes. -/
import Derived.Test.YtfnmdaoehnafcaaCheR
import Derived.Test.YtfnmdaoehnafcaaMemA
namespace Go.Proofs.Ytfnmdaoehnafcaa
open Go.RowKit
set_option linter.unusedVariables false

/-! ### A byte at once -/
/-- The register with all bits of a byte against it, k of them gone out. -/
def regA (l : List Int) (j k : Nat) : Nat := regN l (8 * j + k) ^^^ ((l.getD j 0).toNat / 2 ^ k)
theorem regA_lt {l : List Int} {j k : Nat} (h0 : 0 ≤ l.getD j 0) (h1 : l.getD j 0 ≤ 255) : regA l j k < 4294967296 := by
  have := Nat.div_le_self (l.getD j 0).toNat (2 ^ k)
  exact Nat.xor_lt_two_pow (n := 32) (regN_lt _ _) (by omega)
theorem regA_zero (l : List Int) (j : Nat) : regA l j 0 = regN l (8 * j) ^^^ (l.getD j 0).toNat := by unfold regA; simp
theorem regA_succ {l : List Int} {j k : Nat} (hk : k < 8) : regA l j (k + 1) = turnR (regA l j k) := by
  unfold regA
  have e : regN l (8 * j + (k + 1)) = turnR (regN l (8 * j + k) ^^^ bitAt l (8 * j + k)) := rfl
  have b : bitAt l (8 * j + k) = (l.getD j 0).toNat / 2 ^ k % 2 := by
    unfold bitAt
    rw [show (8 * j + k) / 8 = j by omega, show (8 * j + k) % 8 = k by omega]
  have s : (l.getD j 0).toNat / 2 ^ (k + 1) = (l.getD j 0).toNat / 2 ^ k / 2 := by rw [Nat.pow_succ, Nat.div_div_eq_div_mul]
  rw [e, b, s]
  generalize (l.getD j 0).toNat / 2 ^ k = y
  conv => rhs; rw [low_high y, ← Nat.xor_assoc, turnR_xor, turn_double]
theorem regA_eight {l : List Int} {j : Nat} (h0 : 0 ≤ l.getD j 0) (h1 : l.getD j 0 ≤ 255) : regA l j 8 = regN l (8 * (j + 1)) := by
  unfold regA
  rw [show (l.getD j 0).toNat / 2 ^ 8 = 0 by omega, Nat.xor_zero, show 8 * (j + 1) = 8 * j + 8 by omega]
theorem turnA_yes {r : Nat} (hr : r < 4294967296) (h : (bits .and .u32 (r : Int) 1 == 1) = true) : bits .xor .u32 ((r : Int) / 2) 2197175160 = ((turnR r : Nat) : Int) := by
  have e : (r : Int) / 2 = ((r / 2 : Nat) : Int) := by omega
  have a := u32_and_nat r 1 hr (by decide)
  have a' : bits .and .u32 (r : Int) 1 = ((r &&& 1 : Nat) : Int) := a
  rw [a', nat_mask1] at h
  have := eq_of_beq h
  unfold turnR
  rw [e, u32_turn (by omega), if_pos (by omega)]
theorem turnA_no {r : Nat} (hr : r < 4294967296) (h : (bits .and .u32 (r : Int) 1 == 1) = false) : (r : Int) / 2 = ((turnR r : Nat) : Int) := by
  have a := u32_and_nat r 1 hr (by decide)
  have a' : bits .and .u32 (r : Int) 1 = ((r &&& 1 : Nat) : Int) := a
  rw [a', nat_mask1] at h
  have h2 : ¬ r % 2 = 1 := by
    intro c
    rw [c] at h
    simp at h
  unfold turnR
  rw [if_neg h2]
  omega

/-! ### A sum -/
theorem regN_app (xs ys : List Int) : regN (xs ++ ys) (8 * xs.length) = regN xs (8 * xs.length) := by
  refine regN_same _ fun k hk => ?_
  unfold bitAt
  have : k / 8 < xs.length := by omega
  simp [List.getD, List.getElem?_append, this]
theorem getD_app {xs ys : List Int} {k : Nat} : (xs ++ ys).getD (xs.length + k) 0 = ys.getD k 0 := by
  have e : ¬ xs.length + k < xs.length := by omega
  simp [List.getD, List.getElem?_append, e]
/-- All bits turned. -/
theorem u32_not {c : Int} (h0 : 0 ≤ c) (h1 : c ≤ 4294967295) : bits .xor .u32 4294967295 c = 4294967295 - c := by
  obtain ⟨m, rfl⟩ : ∃ m : Nat, c = m := ⟨c.toNat, by omega⟩
  have a := u32_xor_nat 4294967295 m (by decide) (by omega)
  refine Eq.trans a ?_
  have e : 4294967295 ^^^ m = 4294967295 - m := by
    apply Nat.eq_of_testBit_eq
    intro i
    have s := Nat.testBit_two_pow_sub_succ (n := 32) (x := m) (by omega) i
    rw [show 2 ^ 32 - (m + 1) = 4294967295 - m by omega] at s
    rw [s, Nat.testBit_xor, show (4294967295 : Nat) = 2 ^ 32 - 1 by rfl, Nat.testBit_two_pow_sub_one]
    by_cases hi : i < 32
    · simp [hi]
    · have : m.testBit i = false := Nat.testBit_lt_two_pow (Nat.lt_of_lt_of_le (show m < 2 ^ 32 by omega) (Nat.pow_le_pow_right (by decide) (by omega)))
      simp [hi, this]
  rw [e]; omega
theorem u32_not' {c : Int} (h0 : 0 ≤ c) (h1 : c ≤ 4294967295) : bits .xor .u32 IntKind.u32.max c = 4294967295 - c := u32_not h0 h1
/-- A new sum's cells. -/
abbrev sumZ : Array Value := #[.int .u32 0, .int .i64 0]
theorem crcP_nil : crcP [] = 0 := by rw [crcP_eq]; rfl
theorem crcP_app (xs ys : List Int) : (regN (xs ++ ys) (8 * (xs.length + ys.length)) : Int) = 4294967295 - crcP (xs ++ ys) := by
  rw [crcP_eq, List.length_append]; omega
theorem crcP_reg (xs ys : List Int) : 4294967295 - crcP xs = (regN (xs ++ ys) (8 * xs.length) : Nat) := by
  rw [crcP_eq, regN_app]; omega
theorem grown_two {w : World} {g : Nat} (u v : Value) : w.grownBy ((w.setCell ⟨g, 0, none⟩ u).setCell ⟨g, 1, none⟩ v) (some g) := by
  refine ⟨rfl, rfl, rfl, by simp [World.setCell], fun k hk hn => ?_⟩
  have hne : k ≠ g := by rintro rfl; exact hn rfl
  exact (Below.heap_setCell _ ⟨g, 1, none⟩ v k hne).trans (Below.heap_setCell w ⟨g, 0, none⟩ u k hne)
end Go.Proofs.Ytfnmdaoehnafcaa
