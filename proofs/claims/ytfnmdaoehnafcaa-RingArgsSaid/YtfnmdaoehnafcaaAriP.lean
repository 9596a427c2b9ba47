/- Plain facts of numbers, for the statements of layer 1: what is held, what is rounded, what a root is. Nothing here speaks of the program. -/
import Derived.IntWalk
import Derived.Laws.BitsAllLaws
namespace Go.Proofs.Ytfnmdaoehnafcaa
open Go

/-- A number that is not reckoned by unfolding. -/
noncomputable def hideI (x : Int) : Int := @Classical.epsilon Int ⟨0⟩ (fun y => y = x)
theorem hideI_eq (x : Int) : hideI x = x := Classical.epsilon_spec (p := fun y => y = x) ⟨x, rfl⟩

/-- 2 to the k. -/
def P2 (k : Nat) : Int := 2 ^ k
theorem P2_zero : P2 0 = 1 := rfl
theorem P2_succ (k : Nat) : P2 (k + 1) = P2 k * 2 := by unfold P2; rw [Int.pow_succ]
theorem P2_pos (k : Nat) : 1 ≤ P2 k := by
  induction k with
  | zero => decide
  | succ k ih => rw [P2_succ]; omega
theorem P2_mono {a b : Nat} (h : a ≤ b) : P2 a ≤ P2 b := by
  induction b with
  | zero => obtain rfl : a = 0 := by omega
            exact Int.le_refl _
  | succ b ih =>
    rcases Nat.lt_or_ge a (b + 1) with h' | h'
    · have := ih (by omega); have := P2_pos b; rw [P2_succ]; omega
    · obtain rfl : a = b + 1 := by omega
      exact Int.le_refl _
theorem P2_62 : P2 62 = 4611686018427387904 := by decide
theorem P2_63 : P2 63 = 9223372036854775808 := by decide
theorem P2_le61 {k : Nat} (h : k ≤ 61) : P2 k ≤ 2305843009213693952 := by have := P2_mono h; rw [show P2 61 = 2305843009213693952 by decide] at this; exact this
theorem P2_le62 {k : Nat} (h : k ≤ 62) : P2 k ≤ 4611686018427387904 := by have := P2_mono h; rw [P2_62] at this; exact this
theorem P2_le63 {k : Nat} (h : k ≤ 63) : P2 k ≤ 9223372036854775808 := by have := P2_mono h; rw [P2_63] at this; exact this

/-! ### held -/
/-- n, held to b bits. -/
def satP (n b : Int) : Int := if b < 1 ∨ 64 < b then 0 else if n < -(P2 (b.toNat - 1)) then -(P2 (b.toNat - 1)) else if P2 (b.toNat - 1) - 1 < n then P2 (b.toNat - 1) - 1 else n
theorem satP_out {n b : Int} (h : b < 1 ∨ 64 < b) : satP n b = 0 := if_pos h
theorem greatest_all : ∀ k : Nat, k < 64 → (9223372036854775807 : Nat) / 2 ^ (63 - k) = 2 ^ k - 1 := by decide
theorem greatest_eq {b : Int} (h1 : 1 ≤ b) (h2 : b ≤ 64) : (9223372036854775807 : Int) / 2 ^ (64 - b).toNat = P2 (b.toNat - 1) - 1 := by
  have h := greatest_all (b.toNat - 1) (by omega)
  have e : (64 - b).toNat = 63 - (b.toNat - 1) := by omega
  have p := P2_pos (b.toNat - 1)
  have c : ((2 ^ (b.toNat - 1) : Nat) : Int) = P2 (b.toNat - 1) := by simp [P2]
  have q : (1 : Nat) ≤ 2 ^ (b.toNat - 1) := Nat.one_le_two_pow
  rw [e]
  have h' : ((9223372036854775807 / 2 ^ (63 - (b.toNat - 1)) : Nat) : Int) = ((2 ^ (b.toNat - 1) - 1 : Nat) : Int) := by rw [h]
  rw [Int.natCast_ediv, Int.ofNat_sub q, c] at h'
  simpa using h'
theorem satP_in {n b : Int} (h1 : 1 ≤ b) (h2 : b ≤ 64) : satP n b = if n < -(P2 (b.toNat - 1)) then -(P2 (b.toNat - 1)) else if P2 (b.toNat - 1) - 1 < n then P2 (b.toNat - 1) - 1 else n := by
  unfold satP; rw [if_neg (by omega)]
theorem satP_bd (n b : Int) : -9223372036854775808 ≤ satP n b ∧ satP n b ≤ 9223372036854775807 := by
  unfold satP
  split
  · omega
  · rename_i h
    have p := P2_pos (b.toNat - 1)
    have q := P2_le63 (k := b.toNat - 1) (by omega)
    split
    · omega
    · split <;> omega
theorem satP_bd32 (n : Int) : -2147483648 ≤ satP n 32 ∧ satP n 32 ≤ 2147483647 := by
  have e : P2 ((32 : Int).toNat - 1) = 2147483648 := by decide
  rw [satP_in (by decide) (by decide), e]
  split
  · omega
  · split <;> omega
theorem satP_self {n b : Int} (h1 : 1 ≤ b) (h2 : b ≤ 64) (h3 : -(P2 (b.toNat - 1)) ≤ n) (h4 : n ≤ P2 (b.toNat - 1) - 1) : satP n b = n := by
  rw [satP_in h1 h2, if_neg (by omega), if_neg (by omega)]

/-! ### sums, each held -/
def addH (a b : Int) : Int := if 9223372036854775807 < a + b then 9223372036854775807 else if a + b < -9223372036854775808 then -9223372036854775808 else a + b
theorem addH_bd (a b : Int) : -9223372036854775808 ≤ addH a b ∧ addH a b ≤ 9223372036854775807 := by unfold addH; split; · omega
                                                                                                     split <;> omega
def addP (l : List Int) : Int := l.foldl addH 0
theorem addP_nil : addP [] = 0 := rfl
theorem addP_snoc (l : List Int) (x : Int) : addP (l ++ [x]) = addH (addP l) x := by simp [addP, List.foldl_append]
theorem addP_bd (l : List Int) : -9223372036854775808 ≤ addP l ∧ addP l ≤ 9223372036854775807 := by
  rcases List.eq_nil_or_concat l with h | ⟨l', x, h⟩
  · subst h; decide
  · subst h; rw [List.concat_eq_append, addP_snoc]; exact addH_bd _ _
theorem take_snocI (zs : List Int) (k : Nat) (h : k < zs.length) : zs.take (k + 1) = zs.take k ++ [zs.getD k 0] := by
  rw [List.take_succ_eq_append_getElem h]; simp [List.getD, h]
theorem addP_take (zs : List Int) (k : Nat) (h : k < zs.length) : addP (zs.take (k + 1)) = addH (addP (zs.take k)) (zs.getD k 0) := by
  rw [take_snocI zs k h, addP_snoc]

/-! ### rounded -/
/-- n divided by 2 to the b, to the nearest, halves upwards. -/
def rndP (n b : Int) : Int := if b < 0 ∨ 62 < b then 0 else (n + P2 b.toNat / 2) / P2 b.toNat
theorem rndP_out {n b : Int} (h : b < 0 ∨ 62 < b) : rndP n b = 0 := if_pos h
theorem rndP_zero (n : Int) : rndP n 0 = n := by unfold rndP; simp [P2]
theorem rndP_in {n b : Int} (h1 : 0 ≤ b) (h2 : b ≤ 62) : rndP n b = (n + P2 b.toNat / 2) / P2 b.toNat := by unfold rndP; rw [if_neg (by omega)]
/-- The floor, and the highest bit that is lost. -/
theorem rndP_bits {n b : Int} (h1 : 1 ≤ b) (h2 : b ≤ 62) : rndP n b = n / 2 ^ b.toNat + n / 2 ^ (b.toNat - 1) % 2 := by
  obtain ⟨k, hk⟩ : ∃ k : Nat, b.toNat = k + 1 := ⟨b.toNat - 1, by omega⟩
  rw [rndP_in (by omega) h2, hk, P2_succ]
  have e : (2 : Int) ^ (k + 1) = P2 k * 2 := P2_succ k
  have e' : (2 : Int) ^ (k + 1 - 1) = P2 k := rfl
  have p := P2_pos k
  rw [e, e', Int.mul_ediv_cancel _ (by decide), ← Int.ediv_ediv_of_nonneg (by omega), ← Int.ediv_ediv_of_nonneg (by omega)]
  have a : (n + P2 k) / P2 k = n / P2 k + 1 := by rw [Int.add_ediv_of_dvd_right ⟨1, by omega⟩, Int.ediv_self (by omega)]
  rw [a]; omega
theorem half_bits {n : Int} {k : Nat} (h : -9223372036854775808 ≤ n) (h' : n ≤ 9223372036854775807) : -9223372036854775808 ≤ n / 2 ^ k ∧ n / 2 ^ k ≤ 9223372036854775807 := by
  have e : (2 : Int) ^ k = P2 k := rfl
  have p := P2_pos k
  rw [e]
  refine ⟨Int.le_ediv_of_mul_le (by omega) ?_, ?_⟩
  · have : -9223372036854775808 * P2 k ≤ -9223372036854775808 * 1 := Int.mul_le_mul_of_nonpos_left (by decide) p
    omega
  · by_cases h0 : n < 0
    · have := Int.ediv_neg_of_neg_of_pos h0 (show 0 < P2 k by omega); omega
    · have := Int.ediv_le_self (P2 k) (show 0 ≤ n by omega); omega
theorem rndP_bd {n b : Int} (h : -9223372036854775808 ≤ n) (h' : n ≤ 9223372036854775807) : -9223372036854775808 ≤ rndP n b ∧ rndP n b ≤ 9223372036854775807 := by
  by_cases h0 : b < 0 ∨ 62 < b
  · rw [rndP_out h0]; omega
  · by_cases h1 : b = 0
    · subst h1; rw [rndP_zero]; omega
    · have hk : 1 ≤ b.toNat := by omega
      obtain ⟨k, hk⟩ : ∃ k : Nat, b.toNat = k + 1 := ⟨b.toNat - 1, by omega⟩
      rw [rndP_bits (by omega) (by omega)]
      have := half_bits (k := b.toNat - 1) h h'
      have e : n / 2 ^ b.toNat = n / 2 ^ (b.toNat - 1) / 2 := by
        have e1 : (2 : Int) ^ (b.toNat) = 2 ^ (b.toNat - 1) * 2 := by rw [hk, Int.pow_succ]; rfl
        have p := P2_pos (b.toNat - 1)
        unfold P2 at p
        rw [e1, Int.ediv_ediv_of_nonneg (by omega)]
      rw [e]; omega
theorem i64_and1 (n : Int) : bits .and .i64 n 1 = n % 2 := by
  have h1 : (BitVec.ofInt 64 1).toNat = 2 ^ 1 - 1 := by decide
  have key : (BitVec.ofInt 64 n &&& BitVec.ofInt 64 1).toNat = (n % ((2 ^ 64 : Nat) : Int)).toNat % 2 ^ 1 := by
    rw [BitVec.toNat_and, BitVec.toNat_ofInt, h1, Nat.and_two_pow_sub_one_eq_mod]
  show IntKind.i64.wrap ((BitVec.ofInt 64 n &&& BitVec.ofInt 64 1).toNat : Nat) = n % 2
  rw [key, IntKind.wrap_i64]
  omega
/-- By quotient and remainder towards nought, as the document's answer reckons. -/
theorem rnd_quo {n d q r : Int} (hd : 1 ≤ d) (hq : q = n.tdiv d) (hr : r = n.tmod d) :
    n / d = (if r < 0 then q - 1 else q) ∧ n % d = (if r < 0 then r + d else r) := by
  have hs := Int.mul_tdiv_add_tmod n d
  rw [← hq, ← hr] at hs
  have hlt : r < d := by rw [hr]; exact Int.tmod_lt_of_pos _ (by omega)
  have hgt : -d < r := by
    rw [hr]
    have := Int.tmod_lt_of_pos (-n) (show 0 < d by omega)
    rw [Int.neg_tmod] at this; omega
  split
  · rename_i h0
    have e : n = (r + d) + d * (q - 1) := by rw [Int.mul_sub, Int.mul_one]; omega
    have := (Int.ediv_emod_unique (a := n) (b := d) (r := r + d) (q := q - 1) (by omega)).mpr ⟨e.symm, by omega, by omega⟩
    exact this
  · have := (Int.ediv_emod_unique (a := n) (b := d) (r := r) (q := q) (by omega)).mpr ⟨by omega, by omega, by omega⟩
    exact this
theorem rnd_floor {n d : Int} (hd : 1 ≤ d) (he : d % 2 = 0) : (n + d / 2) / d = n / d + if d ≤ 2 * (n % d) then 1 else 0 := by
  have hs := Int.mul_ediv_add_emod n d
  have h0 := Int.emod_nonneg n (show d ≠ 0 by omega)
  have h1 := Int.emod_lt_of_pos n (show 0 < d by omega)
  split
  · rename_i h2
    refine ((Int.ediv_emod_unique (a := n + d / 2) (b := d) (r := n % d + d / 2 - d) (q := n / d + 1) (by omega)).mpr ⟨?_, by omega, by omega⟩).1
    rw [Int.mul_add, Int.mul_one]; omega
  · rename_i h2
    refine ((Int.ediv_emod_unique (a := n + d / 2) (b := d) (r := n % d + d / 2) (q := n / d + 0) (by omega)).mpr ⟨?_, by omega, by omega⟩).1
    rw [Int.add_zero]; omega
theorem rndP_even {b : Int} (h : 1 ≤ b) : P2 b.toNat % 2 = 0 := by
  obtain ⟨k, hk⟩ : ∃ k : Nat, b.toNat = k + 1 := ⟨b.toNat - 1, by omega⟩
  rw [hk, P2_succ]; omega
theorem P2_two {b : Int} (h : 1 ≤ b) : 2 ≤ P2 b.toNat := by
  obtain ⟨k, hk⟩ : ∃ k : Nat, b.toNat = k + 1 := ⟨b.toNat - 1, by omega⟩
  rw [hk, P2_succ]; have := P2_pos k; omega

theorem tmod_bd {n d : Int} (hd : 1 ≤ d) : -d < n.tmod d ∧ n.tmod d < d := by
  refine ⟨?_, Int.tmod_lt_of_pos _ (by omega)⟩
  have := Int.tmod_lt_of_pos (-n) (show 0 < d by omega)
  rw [Int.neg_tmod] at this; omega
theorem tdiv_bd2 {n d : Int} (hd : 2 ≤ d) (h : -9223372036854775808 ≤ n) (h' : n ≤ 9223372036854775807) : -4611686018427387904 ≤ n.tdiv d ∧ n.tdiv d ≤ 4611686018427387904 := by
  have e : (n.tdiv d).natAbs = n.natAbs / d.natAbs := Int.natAbs_tdiv n d
  have a : n.natAbs / d.natAbs ≤ n.natAbs / 2 := Nat.div_le_div_left (by omega) (by decide)
  omega
theorem rnd_close {n b : Int} {k : Nat} (h1 : 1 ≤ k) (h2 : k ≤ 62) (hk : (k : Int) = b) :
    rndP n b = (if n.tmod (P2 k) < 0 then n.tdiv (P2 k) - 1 else n.tdiv (P2 k)) + if P2 k ≤ 2 * (if n.tmod (P2 k) < 0 then n.tmod (P2 k) + P2 k else n.tmod (P2 k)) then 1 else 0 := by
  subst hk
  have p := P2_pos k
  rw [rndP_in (by omega) (by omega), Int.toNat_natCast]
  have e := rndP_even (b := (k : Int)) (by omega)
  rw [Int.toNat_natCast] at e
  rw [rnd_floor p e, (rnd_quo p rfl rfl).1, (rnd_quo p rfl rfl).2]

/-- A product, rounded, held to thirty-two bits. -/
def mulP (a b by' : Int) : Int := satP (rndP (a * b) by') 32
theorem mulP_bd (a b c : Int) : -2147483648 ≤ mulP a b c ∧ mulP a b c ≤ 2147483647 := satP_bd32 _
theorem prod_bd {a b : Int} (ha : -2147483648 ≤ a) (ha' : a ≤ 2147483647) (hb : -2147483648 ≤ b) (hb' : b ≤ 2147483647) : -4611686018427387904 ≤ a * b ∧ a * b ≤ 4611686018427387904 := by
  have h : (a * b).natAbs ≤ 2147483648 * 2147483648 := by
    rw [Int.natAbs_mul]; exact Nat.mul_le_mul (by omega) (by omega)
  omega

/-! ### roots -/
/-- x is the greatest number of thirty-two bits whose square isn't above n. -/
def IsRoot (n x : Int) : Prop := 0 ≤ x ∧ x ≤ 4294967295 ∧ x * x ≤ n ∧ n < (x + 1) * (x + 1)
theorem sq_mono {a b : Int} (ha : 0 ≤ a) (h : a ≤ b) : a * a ≤ b * b := Int.mul_le_mul h h ha (by omega)
theorem isRoot_unique {n x y : Int} (hx : IsRoot n x) (hy : IsRoot n y) : x = y := by
  obtain ⟨x0, _, x1, x2⟩ := hx
  obtain ⟨y0, _, y1, y2⟩ := hy
  rcases Int.lt_trichotomy x y with h | h | h
  · have := sq_mono (a := x + 1) (b := y) (by omega) (by omega); omega
  · exact h
  · have := sq_mono (a := y + 1) (b := x) (by omega) (by omega); omega
noncomputable def rootP (n : Int) : Int := @Classical.epsilon Int ⟨0⟩ (IsRoot n)
theorem rootP_eq {n x : Int} (h : IsRoot n x) : x = rootP n := isRoot_unique h (Classical.epsilon_spec ⟨x, h⟩)
theorem rootP_is_of {n x : Int} (h : IsRoot n x) : IsRoot n (rootP n) := by rw [← rootP_eq h]; exact h
/-- There is one, by trying the bits one by one. -/
theorem isRoot_some {n : Int} (h : 0 ≤ n) (h' : n ≤ 18446744073709551615) : ∃ x, IsRoot n x := by
  have base : ∀ m : Nat, (m : Int) ≤ 4294967295 → n < ((m : Int) + 1) * ((m : Int) + 1) → ∃ x, IsRoot n x := by
    intro m
    induction m with
    | zero => intro _ hlt; exact ⟨0, by decide, by decide, by omega, by simpa using hlt⟩
    | succ m ih =>
      intro hm hlt
      by_cases hq : ((m : Int) + 1) * ((m : Int) + 1) ≤ n
      · exact ⟨(m : Int) + 1, by omega, by omega, hq, by simpa using hlt⟩
      · exact ih (by omega) (by omega)
  exact base 4294967295 (by decide) (by
    have e : (((4294967295 : Nat) : Int) + 1) * (((4294967295 : Nat) : Int) + 1) = 18446744073709551616 := by decide
    rw [e]; omega)
theorem rootP_is {n : Int} (h : 0 ≤ n) (h' : n ≤ 18446744073709551615) : IsRoot n (rootP n) := by
  obtain ⟨x, hx⟩ := isRoot_some h h'; exact rootP_is_of hx
theorem or_join {r : Int} {j : Nat} (h0 : 0 ≤ r) (h1 : r + P2 (j + 1) ≤ 4294967296) (h2 : r % P2 (j + 1) = 0) : bits .or .u64 r (P2 j) = r + P2 j := by
  have p := P2_pos j
  rw [P2_succ] at h1
  rw [u64_or r (P2 j) h0 (by omega) (by omega) (by omega)]
  have c : ((2 ^ (j + 1) : Nat) : Int) = P2 (j + 1) := by simp [P2]
  have c' : (P2 j).toNat = 2 ^ j := by
    have : ((2 ^ j : Nat) : Int) = P2 j := by simp [P2]
    omega
  have hm : r.toNat % 2 ^ (j + 1) = 0 := by
    have e : ((r.toNat % 2 ^ (j + 1) : Nat) : Int) = r % P2 (j + 1) := by rw [Int.natCast_emod, c, Int.toNat_of_nonneg h0]
    omega
  rw [nat_join (j + 1) _ _ hm (by rw [c', Nat.pow_succ]; have := Nat.one_le_two_pow (n := j); omega)]
  omega
theorem sq_lt32 {x : Int} (h0 : 0 ≤ x) (h : x ≤ 4294967295) : 0 ≤ x * x ∧ x * x ≤ 18446744073709551615 := by
  have a := sq_mono h0 h
  have b := sq_mono (a := 0) (b := x) (by decide) h0
  omega
theorem P2_32 : P2 32 = 4294967296 := by decide
/-- What holds of the root's highest bits: r, a multiple of 2 to the k, is the greatest such one whose square isn't above n. -/
def RootUpTo (n r : Int) (k : Nat) : Prop := 0 ≤ r ∧ r + P2 k ≤ 4294967296 ∧ r % P2 k = 0 ∧ r * r ≤ n ∧ n < (r + P2 k) * (r + P2 k)
theorem rootUpTo_32 {n : Int} (h : 0 ≤ n) (h' : n ≤ 18446744073709551615) : RootUpTo n 0 32 := by
  refine ⟨by decide, by decide, by decide, by omega, ?_⟩
  rw [P2_32]; omega
theorem mod_half {r : Int} {j : Nat} (h : r % P2 (j + 1) = 0) : r % P2 j = 0 := by
  have d : P2 (j + 1) ∣ r := Int.dvd_of_emod_eq_zero h
  exact Int.emod_eq_zero_of_dvd (Int.dvd_trans ⟨2, P2_succ j⟩ d)
theorem rootUpTo_low {n r : Int} {j : Nat} (h : RootUpTo n r (j + 1)) (hn : n < (r + P2 j) * (r + P2 j)) : RootUpTo n r j := by
  obtain ⟨a, b, c, d, _⟩ := h
  have p := P2_pos j
  rw [P2_succ] at b
  exact ⟨a, by omega, mod_half c, d, hn⟩
theorem rootUpTo_high {n r : Int} {j : Nat} (h : RootUpTo n r (j + 1)) (hn : (r + P2 j) * (r + P2 j) ≤ n) : RootUpTo n (r + P2 j) j := by
  obtain ⟨a, b, c, _, e⟩ := h
  have p := P2_pos j
  rw [P2_succ] at b
  refine ⟨by omega, by omega, ?_, hn, ?_⟩
  · rw [Int.add_emod_right]; exact mod_half c
  · have s : r + P2 j + P2 j = r + P2 (j + 1) := by rw [P2_succ]; omega
    rw [s]; exact e
theorem rootUpTo_end {n r : Int} (h : RootUpTo n r 0) : r = rootP n := by
  obtain ⟨a, b, _, d, e⟩ := h
  have z : P2 0 = 1 := rfl
  rw [z] at b e
  exact rootP_eq ⟨a, by omega, d, e⟩
theorem rootUpTo_bd {n r : Int} {k : Nat} (h : RootUpTo n r k) : 0 ≤ r ∧ r ≤ 4294967295 := by
  have p := P2_pos k; obtain ⟨a, b, _⟩ := h; omega
theorem rootUpTo_or {n r : Int} {j : Nat} (h : RootUpTo n r (j + 1)) : bits .or .u64 r (P2 j) = r + P2 j ∧ 0 ≤ r + P2 j ∧ r + P2 j ≤ 4294967295 := by
  obtain ⟨a, b, c, _, _⟩ := h
  have p := P2_pos j
  refine ⟨or_join a b c, by omega, ?_⟩
  rw [P2_succ] at b; omega
theorem P2_half (j : Nat) : P2 (j + 1) / 2 = P2 j := by rw [P2_succ]; omega
end Go.Proofs.Ytfnmdaoehnafcaa
