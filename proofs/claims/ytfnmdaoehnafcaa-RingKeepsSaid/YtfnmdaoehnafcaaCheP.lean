/- Plain facts of the check sum, bit by bit, for the statements of layer 3: what it is, and that a burst of bits changes it. Nothing here speaks of the program. -/
import Derived.Test.YtfnmdaoehnafcaaAriP
namespace Go.Proofs.Ytfnmdaoehnafcaa
open Go
set_option linter.unusedVariables false

/-- The word that is turned in. -/
def polyN : Nat := 2197175160
theorem polyN_eq : polyN = 2197175160 := rfl
/-- What turns a register when its lowest bit goes out unlike. -/
def turnR (x : Nat) : Nat := if x % 2 = 1 then (x / 2) ^^^ 2197175160 else x / 2
/-- One bit, set against the lowest one. -/
def stepR (c b : Nat) : Nat := turnR (c ^^^ b)
theorem turnR_lt {x : Nat} (h : x < 4294967296) : turnR x < 4294967296 := by
  unfold turnR
  split
  · exact Nat.xor_lt_two_pow (n := 32) (by omega) (by decide)
  · omega
theorem stepR_lt {c b : Nat} (h : c < 4294967296) (hb : b < 2) : stepR c b < 4294967296 := turnR_lt (Nat.xor_lt_two_pow (n := 32) (by omega) (by omega))
theorem xor_half (x y : Nat) : (x ^^^ y) / 2 = x / 2 ^^^ y / 2 := by
  have := Nat.shiftRight_xor_distrib (a := x) (b := y) (i := 1)
  simpa [Nat.shiftRight_eq_div_pow] using this
theorem xor_low (x y : Nat) : (x ^^^ y) % 2 = (x % 2 + y % 2) % 2 := by
  have := Nat.xor_mod_two_pow (a := x) (b := y) (n := 1)
  simp only [Nat.pow_one] at this
  rw [this]
  have hx : x % 2 = 0 ∨ x % 2 = 1 := by omega
  have hy : y % 2 = 0 ∨ y % 2 = 1 := by omega
  rcases hx with hx | hx <;> rcases hy with hy | hy <;> rw [hx, hy] <;> decide
theorem xor_four (a b c d : Nat) : (a ^^^ b) ^^^ (c ^^^ d) = (a ^^^ c) ^^^ (b ^^^ d) := by
  rw [Nat.xor_assoc, Nat.xor_assoc, ← Nat.xor_assoc b c d, Nat.xor_comm b c, Nat.xor_assoc c b d]
theorem turnR_xor (x y : Nat) : turnR (x ^^^ y) = turnR x ^^^ turnR y := by
  unfold turnR
  rw [xor_half, xor_low]
  have hx : x % 2 = 0 ∨ x % 2 = 1 := by omega
  have hy : y % 2 = 0 ∨ y % 2 = 1 := by omega
  rcases hx with hx | hx <;> rcases hy with hy | hy <;> simp only [hx, hy]
  · simp
  · simp [Nat.xor_assoc]
  · simp only [if_true, Nat.zero_ne_one, if_false]
    rw [Nat.xor_assoc, Nat.xor_assoc, Nat.xor_comm (y / 2)]
  · simp only [Nat.reduceAdd, Nat.mod_self, Nat.zero_ne_one, if_false, if_true]
    rw [xor_four, Nat.xor_self, Nat.xor_zero]
theorem turnR_pos {x : Nat} (h : x < 4294967296) (h0 : x ≠ 0) : turnR x ≠ 0 := by
  unfold turnR
  split
  · intro e
    have e1 : x / 2 = 2197175160 := by
      have := congrArg (· ^^^ 2197175160) e
      simpa [Nat.xor_assoc] using this
    omega
  · omega
/-- As the document tells it: the lowest bit is set against the bit; unlike ones turn the rest. -/
theorem stepR_eq {c b : Nat} (hb : b < 2) : stepR c b = if c % 2 = b then c / 2 else (c / 2) ^^^ 2197175160 := by
  unfold stepR turnR
  rw [xor_half, xor_low, show b / 2 = 0 by omega, Nat.xor_zero]
  by_cases h : c % 2 = b
  · rw [if_neg (by omega), if_pos h]
  · rw [if_pos (by omega), if_neg h]

/-- The n-th bit of some bytes, each byte's lowest one first. -/
def bitAt (l : List Int) (n : Nat) : Nat := (l.getD (n / 8) 0).toNat / 2 ^ (n % 8) % 2
theorem bitAt_lt (l : List Int) (n : Nat) : bitAt l n < 2 := Nat.mod_lt _ (by decide)
/-- The register behind n bits. -/
def regN (l : List Int) : Nat → Nat
  | 0 => 4294967295
  | n + 1 => stepR (regN l n) (bitAt l n)
theorem regN_lt (l : List Int) (n : Nat) : regN l n < 4294967296 := by
  induction n with
  | zero => show (4294967295 : Nat) < 4294967296; decide
  | succ n ih => exact stepR_lt ih (bitAt_lt l n)
/-- The sum. -/
noncomputable def crcP (l : List Int) : Int := hideI (4294967295 - (regN l (8 * l.length) : Int))
theorem crcP_eq (l : List Int) : crcP l = 4294967295 - (regN l (8 * l.length) : Int) := hideI_eq _
theorem crcP_bd (l : List Int) : 0 ≤ crcP l ∧ crcP l ≤ 4294967295 := by
  have := regN_lt l (8 * l.length)
  rw [crcP_eq]; omega
/-- Only the bits up to the n-th one count. -/
theorem regN_same {l m : List Int} : ∀ n, (∀ k, k < n → bitAt l k = bitAt m k) → regN l n = regN m n := by
  intro n
  induction n with
  | zero => intro _; rfl
  | succ n ih =>
    intro h
    show stepR _ _ = stepR _ _
    rw [ih (fun k hk => h k (by omega)), h n (by omega)]

/-! ### A burst -/
/-- Bytes of which the bits of a burst are turned, from the i-th one on. -/
def Burst (b c : List Int) (i u : Nat) : Prop := ∀ n, bitAt c n = (bitAt b n + if i ≤ n then u / 2 ^ (n - i) % 2 else 0) % 2
theorem xor_bit {x y : Nat} (hx : x < 2) (hy : y < 2) : x ^^^ y = (x + y) % 2 := by
  have h1 : x = 0 ∨ x = 1 := by omega
  have h2 : y = 0 ∨ y = 1 := by omega
  rcases h1 with rfl | rfl <;> rcases h2 with rfl | rfl <;> decide
theorem diff_step {b c : List Int} {n e : Nat} (he : e < 2) (h : bitAt c n = (bitAt b n + e) % 2) : regN b (n + 1) ^^^ regN c (n + 1) = turnR ((regN b n ^^^ regN c n) ^^^ e) := by
  show turnR _ ^^^ turnR _ = _
  rw [← turnR_xor]
  congr 1
  rw [h, ← xor_bit (bitAt_lt b n) he, xor_four, ← Nat.xor_assoc (bitAt b n), Nat.xor_self, Nat.zero_xor]
theorem diff_before {b c : List Int} {i u : Nat} (h : Burst b c i u) : ∀ n, n ≤ i → regN b n ^^^ regN c n = 0 := by
  intro n
  induction n with
  | zero => intro _; exact Nat.xor_self _
  | succ n ih =>
    intro hn
    have hb := h n
    rw [if_neg (by omega)] at hb
    rw [diff_step (by decide) hb, ih (by omega)]
    decide
theorem turn_double (y : Nat) : turnR (2 * y) = y := by
  unfold turnR
  rw [if_neg (by omega)]; omega
theorem low_high (y : Nat) : y = (y % 2) ^^^ (2 * (y / 2)) := by
  apply Nat.eq_of_testBit_eq
  intro i
  cases i with
  | zero =>
    simp only [Nat.testBit_zero, xor_low]
    congr 1; simp
  | succ i =>
    rw [Nat.testBit_succ, Nat.testBit_succ, xor_half, show y % 2 / 2 = 0 by omega, Nat.zero_xor, show 2 * (y / 2) / 2 = y / 2 by omega]
theorem diff_behind {b c : List Int} {i u : Nat} (h : Burst b c i u) (hu : u < 4294967296) (h0 : u ≠ 0) : ∀ k, (regN b (i + k) ^^^ regN c (i + k)) ^^^ (u / 2 ^ k) ≠ 0 := by
  intro k
  induction k with
  | zero =>
    rw [Nat.add_zero, diff_before h i (Nat.le_refl _), Nat.zero_xor, Nat.pow_zero, Nat.div_one]
    exact h0
  | succ k ih =>
    have hb := h (i + k)
    rw [if_pos (by omega), show i + k - i = k by omega] at hb
    have e : (regN b (i + (k + 1)) ^^^ regN c (i + (k + 1))) ^^^ (u / 2 ^ (k + 1)) = turnR ((regN b (i + k) ^^^ regN c (i + k)) ^^^ (u / 2 ^ k)) := by
      rw [show i + (k + 1) = (i + k) + 1 by omega, diff_step (Nat.mod_lt _ (by decide)) hb]
      have s : u / 2 ^ (k + 1) = u / 2 ^ k / 2 := by rw [Nat.pow_succ, Nat.div_div_eq_div_mul]
      rw [s]
      conv => rhs; rw [low_high (u / 2 ^ k), ← Nat.xor_assoc, turnR_xor, turn_double]
    rw [e]
    refine turnR_pos ?_ ih
    have l : u / 2 ^ k < 2 ^ 32 := by have := Nat.div_le_self u (2 ^ k); omega
    exact Nat.xor_lt_two_pow (n := 32) (Nat.xor_lt_two_pow (n := 32) (regN_lt _ _) (regN_lt _ _)) l
/-- A burst of up to thirty-two bits changes the sum. -/
theorem burst_changes {b c : List Int} {i u : Nat} (h : Burst b c i u) (hu : u < 4294967296) (h0 : u ≠ 0) (hl : b.length = c.length) (hi : i + 32 ≤ 8 * b.length) : crcP c ≠ crcP b := by
  have hd := diff_behind h hu h0 (8 * b.length - i)
  have z : u / 2 ^ (8 * b.length - i) = 0 := by
    refine Nat.div_eq_of_lt (Nat.lt_of_lt_of_le (show u < 2 ^ 32 by omega) (Nat.pow_le_pow_right (by decide) (by omega)))
  rw [z, Nat.xor_zero, show i + (8 * b.length - i) = 8 * b.length by omega] at hd
  intro e
  rw [crcP_eq, crcP_eq, ← hl] at e
  have : regN c (8 * b.length) = regN b (8 * b.length) := by omega
  rw [this, Nat.xor_self] at hd
  exact hd rfl

/-! ### Turning a burst's bits, one by one -/
/-- A byte of which bit q is turned. -/
def byteX (x : Int) (q : Nat) : Int := ((x.toNat ^^^ 2 ^ q : Nat) : Int)
theorem byteX_bd {x : Int} {q : Nat} (h0 : 0 ≤ x) (h1 : x ≤ 255) (hq : q < 8) : 0 ≤ byteX x q ∧ byteX x q ≤ 255 := by
  unfold byteX
  have : x.toNat ^^^ 2 ^ q < 2 ^ 8 := Nat.xor_lt_two_pow (by omega) (Nat.pow_lt_pow_right (by decide) hq)
  omega
def flipK (l : List Int) (i u : Nat) : Nat → List Int
  | 0 => l
  | k + 1 => if u / 2 ^ k % 2 = 1 then (flipK l i u k).set ((i + k) / 8) (byteX ((flipK l i u k).getD ((i + k) / 8) 0) ((i + k) % 8)) else flipK l i u k
theorem flipK_len (l : List Int) (i u k : Nat) : (flipK l i u k).length = l.length := by
  induction k with
  | zero => rfl
  | succ k ih => unfold flipK; split <;> simp [ih]
theorem getD_set (l : List Int) (j k : Nat) (x : Int) (h : j < l.length) : (l.set j x).getD k 0 = if k = j then x else l.getD k 0 := by
  simp only [List.getD, List.getElem?_set]
  by_cases e : j = k
  · subst e; simp [h]
  · rw [if_neg e, if_neg (fun c => e c.symm)]
theorem flipK_bd {l : List Int} (hl : ∀ j, j < l.length → 0 ≤ l.getD j 0 ∧ l.getD j 0 ≤ 255) (i u : Nat) : ∀ k, i + k ≤ 8 * l.length → ∀ j, j < l.length → 0 ≤ (flipK l i u k).getD j 0 ∧ (flipK l i u k).getD j 0 ≤ 255 := by
  intro k
  induction k with
  | zero => intro _; exact hl
  | succ k ih =>
    intro hk j hj
    unfold flipK
    split
    · rw [getD_set _ _ _ _ (by rw [flipK_len]; omega)]
      split
      · obtain ⟨a, b⟩ := ih (by omega) ((i + k) / 8) (by omega)
        exact byteX_bd a b (Nat.mod_lt _ (by decide))
      · exact ih (by omega) j hj
    · exact ih (by omega) j hj
theorem bit_div (x q : Nat) : x / 2 ^ q % 2 = (x.testBit q).toNat := by
  rw [Nat.testBit_eq_decide_div_mod_eq]
  have : x / 2 ^ q % 2 = 0 ∨ x / 2 ^ q % 2 = 1 := by omega
  rcases this with h | h <;> rw [h] <;> rfl
theorem bit_byteX (x : Int) (q r : Nat) : (byteX x q).toNat / 2 ^ r % 2 = (x.toNat / 2 ^ r % 2 + if r = q then 1 else 0) % 2 := by
  unfold byteX
  rw [Int.toNat_natCast, bit_div, bit_div, Nat.testBit_xor, Nat.testBit_two_pow]
  by_cases h : r = q
  · subst h; cases x.toNat.testBit r <;> simp
  · rw [if_neg h, decide_eq_false (fun e => h e.symm)]; cases x.toNat.testBit r <;> simp
theorem flipK_bits (l : List Int) (i u : Nat) : ∀ k, i + k ≤ 8 * l.length → ∀ n, bitAt (flipK l i u k) n = (bitAt l n + if i ≤ n ∧ n < i + k then u / 2 ^ (n - i) % 2 else 0) % 2 := by
  intro k
  induction k with
  | zero =>
    intro _ n
    rw [if_neg (by omega)]
    have := bitAt_lt l n
    show bitAt l n = _
    omega
  | succ k ih =>
    intro hk n
    have ihn := ih (by omega) n
    by_cases hb : u / 2 ^ k % 2 = 1
    · have e : bitAt (flipK l i u (k + 1)) n = (bitAt (flipK l i u k) n + if n = i + k then 1 else 0) % 2 := by
        unfold bitAt
        conv => lhs; unfold flipK
        rw [if_pos hb, getD_set _ _ _ _ (by rw [flipK_len]; omega)]
        by_cases hp : n / 8 = (i + k) / 8
        · rw [if_pos hp, bit_byteX, ← hp]
          by_cases hq : n = i + k
          · rw [if_pos (by rw [hq]), if_pos hq]
          · rw [if_neg (by omega), if_neg hq]
        · rw [if_neg hp, if_neg (by intro c; exact hp (by rw [c]))]
          omega
      rw [e, ihn]
      by_cases hq : n = i + k
      · subst hq
        rw [if_neg (by omega), if_pos rfl, if_pos (by omega), show i + k - i = k by omega, hb]
        omega
      · rw [if_neg hq]
        by_cases hr : i ≤ n ∧ n < i + k
        · rw [if_pos hr, if_pos (by omega)]; omega
        · rw [if_neg hr, if_neg (by omega)]; omega
    · have e : flipK l i u (k + 1) = flipK l i u k := by conv => lhs; unfold flipK
                                                         rw [if_neg hb]
      rw [e, ihn]
      by_cases hq : n = i + k
      · subst hq
        rw [if_neg (by omega), if_pos (by omega), show i + k - i = k by omega]
        have : u / 2 ^ k % 2 = 0 := by omega
        rw [this]
      · by_cases hr : i ≤ n ∧ n < i + k
        · rw [if_pos hr, if_pos (by omega)]
        · rw [if_neg hr, if_neg (by omega)]
theorem flip_burst {l : List Int} {i u : Nat} (hu : u < 4294967296) (hi : i + 32 ≤ 8 * l.length) : Burst l (flipK l i u 32) i u := by
  intro n
  rw [flipK_bits l i u 32 hi n]
  by_cases h1 : i ≤ n
  · rw [if_pos h1]
    by_cases h2 : n < i + 32
    · rw [if_pos ⟨h1, h2⟩]
    · rw [if_neg (by omega)]
      have : u / 2 ^ (n - i) = 0 := Nat.div_eq_of_lt (Nat.lt_of_lt_of_le (show u < 2 ^ 32 by omega) (Nat.pow_le_pow_right (by decide) (by omega)))
      rw [this]
  · rw [if_neg h1, if_neg (by omega)]
theorem flip_changes {l : List Int} {i u : Nat} (hu : u < 4294967296) (h0 : u ≠ 0) (hi : i + 32 ≤ 8 * l.length) : crcP (flipK l i u 32) ≠ crcP l :=
  burst_changes (flip_burst hu hi) hu h0 (flipK_len _ _ _ _).symm hi
end Go.Proofs.Ytfnmdaoehnafcaa
