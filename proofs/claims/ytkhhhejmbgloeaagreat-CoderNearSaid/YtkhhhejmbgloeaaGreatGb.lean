/- Plain facts, and what functions give, for the proofs of this seat: several texts in one, each with its own first remark. -/
import Derived.IntWalk
import Derived.Laws.BitsAllLaws

/- Plain facts of numbers, for the statements of layer 1: what is held, what is rounded, what a root is. Nothing here speaks of the program. -/
namespace Go.Proofs.YtkhhhejmbgloeaaGreat
open Go

/-- A number that is not reckoned by unfolding. -/
noncomputable def hideI (x : Int) : Int := @Classical.epsilon Int ⟨0⟩ (fun y => y = x)
theorem hideI_eq (x : Int) : hideI x = x := Classical.epsilon_spec (p := fun y => y = x) ⟨x, rfl⟩

/-- 2 to the k. -/
def P2 (k : Nat) : Int := 2 ^ k
theorem P2_zero : P2 0 = 1 := rfl
theorem P2_succ (k : Nat) : P2 (k + 1) = P2 k * 2 := by unfold P2; rw [Int.pow_succ]
theorem P2_pos (k : Nat) : 1 ≤ P2 k := by
  induction k with
  | zero => decide
  | succ k ih => rw [P2_succ]; omega
theorem P2_mono {a b : Nat} (h : a ≤ b) : P2 a ≤ P2 b := by
  induction b with
  | zero => obtain rfl : a = 0 := by omega
            exact Int.le_refl _
  | succ b ih =>
    rcases Nat.lt_or_ge a (b + 1) with h' | h'
    · have := ih (by omega); have := P2_pos b; rw [P2_succ]; omega
    · obtain rfl : a = b + 1 := by omega
      exact Int.le_refl _
theorem P2_62 : P2 62 = 4611686018427387904 := by decide
theorem P2_63 : P2 63 = 9223372036854775808 := by decide
theorem P2_le61 {k : Nat} (h : k ≤ 61) : P2 k ≤ 2305843009213693952 := by have := P2_mono h; rw [show P2 61 = 2305843009213693952 by decide] at this; exact this
theorem P2_le62 {k : Nat} (h : k ≤ 62) : P2 k ≤ 4611686018427387904 := by have := P2_mono h; rw [P2_62] at this; exact this
theorem P2_le63 {k : Nat} (h : k ≤ 63) : P2 k ≤ 9223372036854775808 := by have := P2_mono h; rw [P2_63] at this; exact this

/-! ### held -/
/-- n, held to b bits. -/
def satP (n b : Int) : Int := if b < 1 ∨ 64 < b then 0 else if n < -(P2 (b.toNat - 1)) then -(P2 (b.toNat - 1)) else if P2 (b.toNat - 1) - 1 < n then P2 (b.toNat - 1) - 1 else n
theorem satP_out {n b : Int} (h : b < 1 ∨ 64 < b) : satP n b = 0 := if_pos h
theorem greatest_all : ∀ k : Nat, k < 64 → (9223372036854775807 : Nat) / 2 ^ (63 - k) = 2 ^ k - 1 := by decide
theorem greatest_eq {b : Int} (h1 : 1 ≤ b) (h2 : b ≤ 64) : (9223372036854775807 : Int) / 2 ^ (64 - b).toNat = P2 (b.toNat - 1) - 1 := by
  have h := greatest_all (b.toNat - 1) (by omega)
  have e : (64 - b).toNat = 63 - (b.toNat - 1) := by omega
  have p := P2_pos (b.toNat - 1)
  have c : ((2 ^ (b.toNat - 1) : Nat) : Int) = P2 (b.toNat - 1) := by simp [P2]
  have q : (1 : Nat) ≤ 2 ^ (b.toNat - 1) := Nat.one_le_two_pow
  rw [e]
  have h' : ((9223372036854775807 / 2 ^ (63 - (b.toNat - 1)) : Nat) : Int) = ((2 ^ (b.toNat - 1) - 1 : Nat) : Int) := by rw [h]
  rw [Int.natCast_ediv, Int.ofNat_sub q, c] at h'
  simpa using h'
theorem satP_in {n b : Int} (h1 : 1 ≤ b) (h2 : b ≤ 64) : satP n b = if n < -(P2 (b.toNat - 1)) then -(P2 (b.toNat - 1)) else if P2 (b.toNat - 1) - 1 < n then P2 (b.toNat - 1) - 1 else n := by
  unfold satP; rw [if_neg (by omega)]
theorem satP_bd (n b : Int) : -9223372036854775808 ≤ satP n b ∧ satP n b ≤ 9223372036854775807 := by
  unfold satP
  split
  · omega
  · rename_i h
    have p := P2_pos (b.toNat - 1)
    have q := P2_le63 (k := b.toNat - 1) (by omega)
    split
    · omega
    · split <;> omega
theorem satP_bd32 (n : Int) : -2147483648 ≤ satP n 32 ∧ satP n 32 ≤ 2147483647 := by
  have e : P2 ((32 : Int).toNat - 1) = 2147483648 := by decide
  rw [satP_in (by decide) (by decide), e]
  split
  · omega
  · split <;> omega
theorem satP_self {n b : Int} (h1 : 1 ≤ b) (h2 : b ≤ 64) (h3 : -(P2 (b.toNat - 1)) ≤ n) (h4 : n ≤ P2 (b.toNat - 1) - 1) : satP n b = n := by
  rw [satP_in h1 h2, if_neg (by omega), if_neg (by omega)]

/-! ### sums, each held -/
def addH (a b : Int) : Int := if 9223372036854775807 < a + b then 9223372036854775807 else if a + b < -9223372036854775808 then -9223372036854775808 else a + b
theorem addH_bd (a b : Int) : -9223372036854775808 ≤ addH a b ∧ addH a b ≤ 9223372036854775807 := by unfold addH; split; · omega
                                                                                                     split <;> omega
def addP (l : List Int) : Int := l.foldl addH 0
theorem addP_nil : addP [] = 0 := rfl
theorem addP_snoc (l : List Int) (x : Int) : addP (l ++ [x]) = addH (addP l) x := by simp [addP, List.foldl_append]
theorem addP_bd (l : List Int) : -9223372036854775808 ≤ addP l ∧ addP l ≤ 9223372036854775807 := by
  rcases List.eq_nil_or_concat l with h | ⟨l', x, h⟩
  · subst h; decide
  · subst h; rw [List.concat_eq_append, addP_snoc]; exact addH_bd _ _
theorem take_snocI (zs : List Int) (k : Nat) (h : k < zs.length) : zs.take (k + 1) = zs.take k ++ [zs.getD k 0] := by
  rw [List.take_succ_eq_append_getElem h]; simp [List.getD, h]
theorem addP_take (zs : List Int) (k : Nat) (h : k < zs.length) : addP (zs.take (k + 1)) = addH (addP (zs.take k)) (zs.getD k 0) := by
  rw [take_snocI zs k h, addP_snoc]

/-! ### rounded -/
/-- n divided by 2 to the b, to the nearest, halves upwards. -/
def rndP (n b : Int) : Int := if b < 0 ∨ 62 < b then 0 else (n + P2 b.toNat / 2) / P2 b.toNat
theorem rndP_out {n b : Int} (h : b < 0 ∨ 62 < b) : rndP n b = 0 := if_pos h
theorem rndP_zero (n : Int) : rndP n 0 = n := by unfold rndP; simp [P2]
theorem rndP_in {n b : Int} (h1 : 0 ≤ b) (h2 : b ≤ 62) : rndP n b = (n + P2 b.toNat / 2) / P2 b.toNat := by unfold rndP; rw [if_neg (by omega)]
/-- The floor, and the highest bit that is lost. -/
theorem rndP_bits {n b : Int} (h1 : 1 ≤ b) (h2 : b ≤ 62) : rndP n b = n / 2 ^ b.toNat + n / 2 ^ (b.toNat - 1) % 2 := by
  obtain ⟨k, hk⟩ : ∃ k : Nat, b.toNat = k + 1 := ⟨b.toNat - 1, by omega⟩
  rw [rndP_in (by omega) h2, hk, P2_succ]
  have e : (2 : Int) ^ (k + 1) = P2 k * 2 := P2_succ k
  have e' : (2 : Int) ^ (k + 1 - 1) = P2 k := rfl
  have p := P2_pos k
  rw [e, e', Int.mul_ediv_cancel _ (by decide), ← Int.ediv_ediv_of_nonneg (by omega), ← Int.ediv_ediv_of_nonneg (by omega)]
  have a : (n + P2 k) / P2 k = n / P2 k + 1 := by rw [Int.add_ediv_of_dvd_right ⟨1, by omega⟩, Int.ediv_self (by omega)]
  rw [a]; omega
theorem half_bits {n : Int} {k : Nat} (h : -9223372036854775808 ≤ n) (h' : n ≤ 9223372036854775807) : -9223372036854775808 ≤ n / 2 ^ k ∧ n / 2 ^ k ≤ 9223372036854775807 := by
  have e : (2 : Int) ^ k = P2 k := rfl
  have p := P2_pos k
  rw [e]
  refine ⟨Int.le_ediv_of_mul_le (by omega) ?_, ?_⟩
  · have : -9223372036854775808 * P2 k ≤ -9223372036854775808 * 1 := Int.mul_le_mul_of_nonpos_left (by decide) p
    omega
  · by_cases h0 : n < 0
    · have := Int.ediv_neg_of_neg_of_pos h0 (show 0 < P2 k by omega); omega
    · have := Int.ediv_le_self (P2 k) (show 0 ≤ n by omega); omega
theorem rndP_bd {n b : Int} (h : -9223372036854775808 ≤ n) (h' : n ≤ 9223372036854775807) : -9223372036854775808 ≤ rndP n b ∧ rndP n b ≤ 9223372036854775807 := by
  by_cases h0 : b < 0 ∨ 62 < b
  · rw [rndP_out h0]; omega
  · by_cases h1 : b = 0
    · subst h1; rw [rndP_zero]; omega
    · have hk : 1 ≤ b.toNat := by omega
      obtain ⟨k, hk⟩ : ∃ k : Nat, b.toNat = k + 1 := ⟨b.toNat - 1, by omega⟩
      rw [rndP_bits (by omega) (by omega)]
      have := half_bits (k := b.toNat - 1) h h'
      have e : n / 2 ^ b.toNat = n / 2 ^ (b.toNat - 1) / 2 := by
        have e1 : (2 : Int) ^ (b.toNat) = 2 ^ (b.toNat - 1) * 2 := by rw [hk, Int.pow_succ]; rfl
        have p := P2_pos (b.toNat - 1)
        unfold P2 at p
        rw [e1, Int.ediv_ediv_of_nonneg (by omega)]
      rw [e]; omega
theorem i64_and1 (n : Int) : bits .and .i64 n 1 = n % 2 := by
  have h1 : (BitVec.ofInt 64 1).toNat = 2 ^ 1 - 1 := by decide
  have key : (BitVec.ofInt 64 n &&& BitVec.ofInt 64 1).toNat = (n % ((2 ^ 64 : Nat) : Int)).toNat % 2 ^ 1 := by
    rw [BitVec.toNat_and, BitVec.toNat_ofInt, h1, Nat.and_two_pow_sub_one_eq_mod]
  show IntKind.i64.wrap ((BitVec.ofInt 64 n &&& BitVec.ofInt 64 1).toNat : Nat) = n % 2
  rw [key, IntKind.wrap_i64]
  omega
/-- By quotient and remainder towards nought, as the document's answer reckons. -/
theorem rnd_quo {n d q r : Int} (hd : 1 ≤ d) (hq : q = n.tdiv d) (hr : r = n.tmod d) :
    n / d = (if r < 0 then q - 1 else q) ∧ n % d = (if r < 0 then r + d else r) := by
  have hs := Int.mul_tdiv_add_tmod n d
  rw [← hq, ← hr] at hs
  have hlt : r < d := by rw [hr]; exact Int.tmod_lt_of_pos _ (by omega)
  have hgt : -d < r := by
    rw [hr]
    have := Int.tmod_lt_of_pos (-n) (show 0 < d by omega)
    rw [Int.neg_tmod] at this; omega
  split
  · rename_i h0
    have e : n = (r + d) + d * (q - 1) := by rw [Int.mul_sub, Int.mul_one]; omega
    have := (Int.ediv_emod_unique (a := n) (b := d) (r := r + d) (q := q - 1) (by omega)).mpr ⟨e.symm, by omega, by omega⟩
    exact this
  · have := (Int.ediv_emod_unique (a := n) (b := d) (r := r) (q := q) (by omega)).mpr ⟨by omega, by omega, by omega⟩
    exact this
theorem rnd_floor {n d : Int} (hd : 1 ≤ d) (he : d % 2 = 0) : (n + d / 2) / d = n / d + if d ≤ 2 * (n % d) then 1 else 0 := by
  have hs := Int.mul_ediv_add_emod n d
  have h0 := Int.emod_nonneg n (show d ≠ 0 by omega)
  have h1 := Int.emod_lt_of_pos n (show 0 < d by omega)
  split
  · rename_i h2
    refine ((Int.ediv_emod_unique (a := n + d / 2) (b := d) (r := n % d + d / 2 - d) (q := n / d + 1) (by omega)).mpr ⟨?_, by omega, by omega⟩).1
    rw [Int.mul_add, Int.mul_one]; omega
  · rename_i h2
    refine ((Int.ediv_emod_unique (a := n + d / 2) (b := d) (r := n % d + d / 2) (q := n / d + 0) (by omega)).mpr ⟨?_, by omega, by omega⟩).1
    rw [Int.add_zero]; omega
theorem rndP_even {b : Int} (h : 1 ≤ b) : P2 b.toNat % 2 = 0 := by
  obtain ⟨k, hk⟩ : ∃ k : Nat, b.toNat = k + 1 := ⟨b.toNat - 1, by omega⟩
  rw [hk, P2_succ]; omega
theorem P2_two {b : Int} (h : 1 ≤ b) : 2 ≤ P2 b.toNat := by
  obtain ⟨k, hk⟩ : ∃ k : Nat, b.toNat = k + 1 := ⟨b.toNat - 1, by omega⟩
  rw [hk, P2_succ]; have := P2_pos k; omega

theorem tmod_bd {n d : Int} (hd : 1 ≤ d) : -d < n.tmod d ∧ n.tmod d < d := by
  refine ⟨?_, Int.tmod_lt_of_pos _ (by omega)⟩
  have := Int.tmod_lt_of_pos (-n) (show 0 < d by omega)
  rw [Int.neg_tmod] at this; omega
theorem tdiv_bd2 {n d : Int} (hd : 2 ≤ d) (h : -9223372036854775808 ≤ n) (h' : n ≤ 9223372036854775807) : -4611686018427387904 ≤ n.tdiv d ∧ n.tdiv d ≤ 4611686018427387904 := by
  have e : (n.tdiv d).natAbs = n.natAbs / d.natAbs := Int.natAbs_tdiv n d
  have a : n.natAbs / d.natAbs ≤ n.natAbs / 2 := Nat.div_le_div_left (by omega) (by decide)
  omega
theorem rnd_close {n b : Int} {k : Nat} (h1 : 1 ≤ k) (h2 : k ≤ 62) (hk : (k : Int) = b) :
    rndP n b = (if n.tmod (P2 k) < 0 then n.tdiv (P2 k) - 1 else n.tdiv (P2 k)) + if P2 k ≤ 2 * (if n.tmod (P2 k) < 0 then n.tmod (P2 k) + P2 k else n.tmod (P2 k)) then 1 else 0 := by
  subst hk
  have p := P2_pos k
  rw [rndP_in (by omega) (by omega), Int.toNat_natCast]
  have e := rndP_even (b := (k : Int)) (by omega)
  rw [Int.toNat_natCast] at e
  rw [rnd_floor p e, (rnd_quo p rfl rfl).1, (rnd_quo p rfl rfl).2]

/-- A product, rounded, held to thirty-two bits. -/
def mulP (a b by' : Int) : Int := satP (rndP (a * b) by') 32
theorem mulP_bd (a b c : Int) : -2147483648 ≤ mulP a b c ∧ mulP a b c ≤ 2147483647 := satP_bd32 _
theorem prod_bd {a b : Int} (ha : -2147483648 ≤ a) (ha' : a ≤ 2147483647) (hb : -2147483648 ≤ b) (hb' : b ≤ 2147483647) : -4611686018427387904 ≤ a * b ∧ a * b ≤ 4611686018427387904 := by
  have h : (a * b).natAbs ≤ 2147483648 * 2147483648 := by
    rw [Int.natAbs_mul]; exact Nat.mul_le_mul (by omega) (by omega)
  omega

/-! ### roots -/
/-- x is the greatest number of thirty-two bits whose square isn't above n. -/
def IsRoot (n x : Int) : Prop := 0 ≤ x ∧ x ≤ 4294967295 ∧ x * x ≤ n ∧ n < (x + 1) * (x + 1)
theorem sq_mono {a b : Int} (ha : 0 ≤ a) (h : a ≤ b) : a * a ≤ b * b := Int.mul_le_mul h h ha (by omega)
theorem isRoot_unique {n x y : Int} (hx : IsRoot n x) (hy : IsRoot n y) : x = y := by
  obtain ⟨x0, _, x1, x2⟩ := hx
  obtain ⟨y0, _, y1, y2⟩ := hy
  rcases Int.lt_trichotomy x y with h | h | h
  · have := sq_mono (a := x + 1) (b := y) (by omega) (by omega); omega
  · exact h
  · have := sq_mono (a := y + 1) (b := x) (by omega) (by omega); omega
noncomputable def rootP (n : Int) : Int := @Classical.epsilon Int ⟨0⟩ (IsRoot n)
theorem rootP_eq {n x : Int} (h : IsRoot n x) : x = rootP n := isRoot_unique h (Classical.epsilon_spec ⟨x, h⟩)
theorem rootP_is_of {n x : Int} (h : IsRoot n x) : IsRoot n (rootP n) := by rw [← rootP_eq h]; exact h
/-- There is one, by trying the bits one by one. -/
theorem isRoot_some {n : Int} (h : 0 ≤ n) (h' : n ≤ 18446744073709551615) : ∃ x, IsRoot n x := by
  have base : ∀ m : Nat, (m : Int) ≤ 4294967295 → n < ((m : Int) + 1) * ((m : Int) + 1) → ∃ x, IsRoot n x := by
    intro m
    induction m with
    | zero => intro _ hlt; exact ⟨0, by decide, by decide, by omega, by simpa using hlt⟩
    | succ m ih =>
      intro hm hlt
      by_cases hq : ((m : Int) + 1) * ((m : Int) + 1) ≤ n
      · exact ⟨(m : Int) + 1, by omega, by omega, hq, by simpa using hlt⟩
      · exact ih (by omega) (by omega)
  exact base 4294967295 (by decide) (by
    have e : (((4294967295 : Nat) : Int) + 1) * (((4294967295 : Nat) : Int) + 1) = 18446744073709551616 := by decide
    rw [e]; omega)
theorem rootP_is {n : Int} (h : 0 ≤ n) (h' : n ≤ 18446744073709551615) : IsRoot n (rootP n) := by
  obtain ⟨x, hx⟩ := isRoot_some h h'; exact rootP_is_of hx
theorem or_join {r : Int} {j : Nat} (h0 : 0 ≤ r) (h1 : r + P2 (j + 1) ≤ 4294967296) (h2 : r % P2 (j + 1) = 0) : bits .or .u64 r (P2 j) = r + P2 j := by
  have p := P2_pos j
  rw [P2_succ] at h1
  rw [u64_or r (P2 j) h0 (by omega) (by omega) (by omega)]
  have c : ((2 ^ (j + 1) : Nat) : Int) = P2 (j + 1) := by simp [P2]
  have c' : (P2 j).toNat = 2 ^ j := by
    have : ((2 ^ j : Nat) : Int) = P2 j := by simp [P2]
    omega
  have hm : r.toNat % 2 ^ (j + 1) = 0 := by
    have e : ((r.toNat % 2 ^ (j + 1) : Nat) : Int) = r % P2 (j + 1) := by rw [Int.natCast_emod, c, Int.toNat_of_nonneg h0]
    omega
  rw [nat_join (j + 1) _ _ hm (by rw [c', Nat.pow_succ]; have := Nat.one_le_two_pow (n := j); omega)]
  omega
theorem sq_lt32 {x : Int} (h0 : 0 ≤ x) (h : x ≤ 4294967295) : 0 ≤ x * x ∧ x * x ≤ 18446744073709551615 := by
  have a := sq_mono h0 h
  have b := sq_mono (a := 0) (b := x) (by decide) h0
  omega
theorem P2_32 : P2 32 = 4294967296 := by decide
/-- What holds of the root's highest bits: r, a multiple of 2 to the k, is the greatest such one whose square isn't above n. -/
def RootUpTo (n r : Int) (k : Nat) : Prop := 0 ≤ r ∧ r + P2 k ≤ 4294967296 ∧ r % P2 k = 0 ∧ r * r ≤ n ∧ n < (r + P2 k) * (r + P2 k)
theorem rootUpTo_32 {n : Int} (h : 0 ≤ n) (h' : n ≤ 18446744073709551615) : RootUpTo n 0 32 := by
  refine ⟨by decide, by decide, by decide, by omega, ?_⟩
  rw [P2_32]; omega
theorem mod_half {r : Int} {j : Nat} (h : r % P2 (j + 1) = 0) : r % P2 j = 0 := by
  have d : P2 (j + 1) ∣ r := Int.dvd_of_emod_eq_zero h
  exact Int.emod_eq_zero_of_dvd (Int.dvd_trans ⟨2, P2_succ j⟩ d)
theorem rootUpTo_low {n r : Int} {j : Nat} (h : RootUpTo n r (j + 1)) (hn : n < (r + P2 j) * (r + P2 j)) : RootUpTo n r j := by
  obtain ⟨a, b, c, d, _⟩ := h
  have p := P2_pos j
  rw [P2_succ] at b
  exact ⟨a, by omega, mod_half c, d, hn⟩
theorem rootUpTo_high {n r : Int} {j : Nat} (h : RootUpTo n r (j + 1)) (hn : (r + P2 j) * (r + P2 j) ≤ n) : RootUpTo n (r + P2 j) j := by
  obtain ⟨a, b, c, _, e⟩ := h
  have p := P2_pos j
  rw [P2_succ] at b
  refine ⟨by omega, by omega, ?_, hn, ?_⟩
  · rw [Int.add_emod_right]; exact mod_half c
  · have s : r + P2 j + P2 j = r + P2 (j + 1) := by rw [P2_succ]; omega
    rw [s]; exact e
theorem rootUpTo_end {n r : Int} (h : RootUpTo n r 0) : r = rootP n := by
  obtain ⟨a, b, _, d, e⟩ := h
  have z : P2 0 = 1 := rfl
  rw [z] at b e
  exact rootP_eq ⟨a, by omega, d, e⟩
theorem rootUpTo_bd {n r : Int} {k : Nat} (h : RootUpTo n r k) : 0 ≤ r ∧ r ≤ 4294967295 := by
  have p := P2_pos k; obtain ⟨a, b, _⟩ := h; omega
theorem rootUpTo_or {n r : Int} {j : Nat} (h : RootUpTo n r (j + 1)) : bits .or .u64 r (P2 j) = r + P2 j ∧ 0 ≤ r + P2 j ∧ r + P2 j ≤ 4294967295 := by
  obtain ⟨a, b, c, _, _⟩ := h
  have p := P2_pos j
  refine ⟨or_join a b c, by omega, ?_⟩
  rw [P2_succ] at b; omega
theorem P2_half (j : Nat) : P2 (j + 1) / 2 = P2 j := by rw [P2_succ]; omega
end Go.Proofs.YtkhhhejmbgloeaaGreat

/- Plain facts of the circle's table, for the statements of layer 4. Nothing here speaks of the program. -/
namespace Go.Proofs.YtkhhhejmbgloeaaGreat
open Go
set_option linter.unusedVariables false

/-- The cosines of 0 to 1024 units. -/
def cosL : List Int := [
  16777216, 16777195, 16777136, 16777038, 16776899, 16776723, 16776505, 16776249, 16775952, 16775618, 16775243, 16774829,
  16774374, 16773882, 16773348, 16772776, 16772162, 16771512, 16770821, 16770092, 16769321, 16768513, 16767664, 16766776,
  16765847, 16764882, 16763875, 16762830, 16761743, 16760619, 16759454, 16758251, 16757006, 16755725, 16754403, 16753043,
  16751641, 16750202, 16748722, 16747203, 16745643, 16744047, 16742409, 16740733, 16739016, 16737262, 16735466, 16733632,
  16731757, 16729846, 16727893, 16725902, 16723870, 16721801, 16719691, 16717542, 16715352, 16713126, 16710859, 16708553,
  16706206, 16703822, 16701397, 16698933, 16696428, 16693888, 16691306, 16688686, 16686025, 16683327, 16680588, 16677811,
  16674992, 16672138, 16669242, 16666308, 16663333, 16660321, 16657268, 16654177, 16651044, 16647876, 16644667, 16641420,
  16638131, 16634806, 16631439, 16628035, 16624589, 16621108, 16617585, 16614024, 16610422, 16606784, 16603104, 16599387,
  16595628, 16591834, 16587999, 16584126, 16580212, 16576262, 16572270, 16568241, 16564170, 16560064, 16555917, 16551732,
  16547506, 16543244, 16538940, 16534599, 16530217, 16525800, 16521341, 16516845, 16512307, 16507734, 16503119, 16498467,
  16493774, 16489046, 16484276, 16479469, 16474621, 16469737, 16464812, 16459850, 16454846, 16449808, 16444729, 16439613,
  16434455, 16429262, 16424027, 16418756, 16413443, 16408096, 16402707, 16397282, 16391815, 16386313, 16380769, 16375188,
  16369567, 16363911, 16358214, 16352480, 16346705, 16340894, 16335043, 16329155, 16323226, 16317262, 16311257, 16305215,
  16299133, 16293015, 16286857, 16280661, 16274425, 16268155, 16261844, 16255496, 16249107, 16242683, 16236218, 16229717,
  16223175, 16216599, 16209982, 16203328, 16196634, 16189905, 16183135, 16176328, 16169481, 16162600, 16155678, 16148720,
  16141721, 16134687, 16127613, 16120503, 16113352, 16106167, 16098941, 16091679, 16084377, 16077040, 16069663, 16062249,
  16054795, 16047308, 16039780, 16032216, 16024612, 16016973, 16009294, 16001579, 15993823, 15986034, 15978205, 15970339,
  15962434, 15954494, 15946514, 15938497, 15930441, 15922351, 15914222, 15906056, 15897851, 15889611, 15881331, 15873015,
  15864660, 15856271, 15847843, 15839378, 15830874, 15822335, 15813757, 15805143, 15796489, 15787802, 15779076, 15770314,
  15761513, 15752677, 15743802, 15734891, 15725941, 15716957, 15707934, 15698876, 15689778, 15680646, 15671475, 15662269,
  15653023, 15643745, 15634427, 15625074, 15615681, 15606255, 15596789, 15587288, 15577748, 15568175, 15558564, 15548917,
  15539231, 15529511, 15519753, 15509959, 15500126, 15490261, 15480358, 15470419, 15460442, 15450431, 15440381, 15430296,
  15420173, 15410017, 15399822, 15389593, 15379325, 15369024, 15358684, 15348309, 15337896, 15327451, 15316967, 15306449,
  15295892, 15285302, 15274674, 15264011, 15253310, 15242577, 15231805, 15220999, 15210155, 15199278, 15188362, 15177412,
  15166425, 15155405, 15144348, 15133256, 15122127, 15110965, 15099765, 15088530, 15077258, 15065954, 15054612, 15043236,
  15031823, 15020377, 15008893, 14997375, 14985819, 14974232, 14962607, 14950949, 14939253, 14927525, 14915759, 14903960,
  14892123, 14880255, 14868349, 14856410, 14844434, 14832426, 14820380, 14808301, 14796184, 14784037, 14771852, 14759634,
  14747380, 14735093, 14722770, 14710413, 14698019, 14685594, 14673132, 14660637, 14648106, 14635542, 14622942, 14610309,
  14597639, 14584938, 14572201, 14559431, 14546625, 14533787, 14520912, 14508005, 14495061, 14482087, 14469076, 14456033,
  14442953, 14429842, 14416695, 14403515, 14390299, 14377053, 14363771, 14350456, 14337106, 14323724, 14310307, 14296857,
  14283372, 14269856, 14256304, 14242720, 14229101, 14215450, 14201764, 14188046, 14174292, 14160508, 14146689, 14132838,
  14118952, 14105035, 14091082, 14077098, 14063078, 14049029, 14034944, 14020828, 14006676, 13992494, 13978277, 13964028,
  13949745, 13935432, 13921085, 13906706, 13892292, 13877848, 13863369, 13848859, 13834314, 13819740, 13805131, 13790491,
  13775816, 13761112, 13746373, 13731603, 13716798, 13701965, 13687097, 13672199, 13657266, 13642303, 13627306, 13612279,
  13597217, 13582127, 13567002, 13551847, 13536658, 13521439, 13506187, 13490904, 13475587, 13460242, 13444863, 13429454,
  13414011, 13398539, 13383034, 13367498, 13351929, 13336332, 13320701, 13305040, 13289346, 13273623, 13257866, 13242080,
  13226260, 13210413, 13194532, 13178621, 13162678, 13146706, 13130701, 13114666, 13098599, 13082504, 13066376, 13050218,
  13034028, 13017809, 13001558, 12985277, 12968964, 12952624, 12936251, 12919849, 12903415, 12886953, 12870458, 12853934,
  12837378, 12820795, 12804180, 12787536, 12770859, 12754155, 12737419, 12720654, 12703858, 12687034, 12670179, 12653295,
  12636380, 12619437, 12602463, 12585460, 12568425, 12551364, 12534271, 12517150, 12499998, 12482818, 12465607, 12448368,
  12431098, 12413802, 12396475, 12379119, 12361733, 12344320, 12326876, 12309404, 12291901, 12274372, 12256812, 12239225,
  12221607, 12203962, 12186287, 12168584, 12150851, 12133092, 12115303, 12097487, 12079640, 12061767, 12043863, 12025933,
  12007972, 11989986, 11971970, 11953926, 11935853, 11917754, 11899625, 11881469, 11863283, 11845072, 11826832, 11808565,
  11790269, 11771947, 11753596, 11735218, 11716810, 11698378, 11679916, 11661428, 11642911, 11624369, 11605797, 11587199,
  11568572, 11549920, 11531240, 11512534, 11493799, 11475039, 11456250, 11437435, 11418592, 11399724, 11380828, 11361906,
  11342956, 11323981, 11304977, 11285948, 11266891, 11247810, 11228701, 11209567, 11190404, 11171217, 11152003, 11132763,
  11113495, 11094203, 11074884, 11055540, 11036168, 11016772, 10997348, 10977900, 10958424, 10938925, 10919399, 10899848,
  10880269, 10860667, 10841038, 10821384, 10801703, 10781999, 10762268, 10742513, 10722731, 10702925, 10683093, 10663237,
  10643354, 10623449, 10603517, 10583561, 10563579, 10543574, 10523542, 10503486, 10483404, 10463300, 10443170, 10423016,
  10402836, 10382633, 10362405, 10342153, 10321875, 10301575, 10281250, 10260901, 10240526, 10220129, 10199707, 10179262,
  10158791, 10138299, 10117781, 10097240, 10076674, 10056086, 10035473, 10014838, 9994177, 9973495, 9952788, 9932059,
  9911305, 9890529, 9869729, 9848906, 9828059, 9807191, 9786298, 9765383, 9744444, 9723483, 9702498, 9681491,
  9660460, 9639409, 9618333, 9597236, 9576114, 9554971, 9533805, 9512617, 9491406, 9470174, 9448919, 9427642,
  9406342, 9385021, 9363677, 9342311, 9320922, 9299514, 9278082, 9256629, 9235153, 9213657, 9192138, 9170598,
  9149036, 9127454, 9105849, 9084223, 9062575, 9040907, 9019217, 8997506, 8975772, 8954020, 8932245, 8910450,
  8888632, 8866795, 8844936, 8823057, 8801156, 8779236, 8757295, 8735333, 8713350, 8691347, 8669323, 8647279,
  8625214, 8603130, 8581025, 8558901, 8536755, 8514591, 8492405, 8470200, 8447974, 8425730, 8403465, 8381180,
  8358875, 8336552, 8314208, 8291845, 8269461, 8247060, 8224638, 8202198, 8179737, 8157258, 8134759, 8112241,
  8089703, 8067148, 8044573, 8021980, 7999366, 7976735, 7954084, 7931415, 7908726, 7886020, 7863295, 7840552,
  7817790, 7795011, 7772212, 7749395, 7726559, 7703707, 7680835, 7657946, 7635038, 7612113, 7589169, 7566208,
  7543228, 7520232, 7497217, 7474185, 7451135, 7428068, 7404983, 7381881, 7358761, 7335625, 7312470, 7289299,
  7266110, 7242905, 7219682, 7196443, 7173185, 7149912, 7126622, 7103315, 7079991, 7056651, 7033294, 7009921,
  6986530, 6963124, 6939701, 6916262, 6892806, 6869335, 6845847, 6822343, 6798822, 6775287, 6751735, 6728167,
  6704583, 6680984, 6657369, 6633738, 6610091, 6586430, 6562752, 6539059, 6515350, 6491627, 6467887, 6444133,
  6420363, 6396580, 6372780, 6348966, 6325136, 6301292, 6277433, 6253559, 6229670, 6205767, 6181849, 6157917,
  6133970, 6110009, 6086033, 6062043, 6038038, 6014021, 5989988, 5965941, 5941880, 5917806, 5893717, 5869614,
  5845497, 5821368, 5797224, 5773067, 5748895, 5724711, 5700512, 5676301, 5652075, 5627838, 5603586, 5579322,
  5555044, 5530754, 5506450, 5482133, 5457803, 5433461, 5409106, 5384738, 5360357, 5335964, 5311558, 5287140,
  5262708, 5238266, 5213810, 5189342, 5164862, 5140370, 5115866, 5091350, 5066821, 5042281, 5017729, 4993165,
  4968589, 4944002, 4919403, 4894793, 4870170, 4845537, 4820892, 4796237, 4771569, 4746891, 4722201, 4697500,
  4672787, 4648064, 4623330, 4598585, 4573829, 4549063, 4524286, 4499498, 4474699, 4449891, 4425071, 4400242,
  4375401, 4350551, 4325690, 4300819, 4275938, 4251047, 4226146, 4201235, 4176314, 4151384, 4126443, 4101493,
  4076532, 4051563, 4026584, 4001596, 3976598, 3951591, 3926574, 3901548, 3876513, 3851469, 3826416, 3801354,
  3776283, 3751203, 3726114, 3701017, 3675910, 3650796, 3625672, 3600540, 3575399, 3550250, 3525093, 3499927,
  3474753, 3449571, 3424381, 3399183, 3373977, 3348763, 3323541, 3298311, 3273073, 3247828, 3222575, 3197315,
  3172046, 3146771, 3121488, 3096198, 3070900, 3045596, 3020284, 2994965, 2969639, 2944306, 2918966, 2893619,
  2868265, 2842905, 2817538, 2792164, 2766784, 2741397, 2716004, 2690604, 2665198, 2639786, 2614367, 2588943,
  2563512, 2538075, 2512632, 2487184, 2461729, 2436269, 2410803, 2385331, 2359854, 2334371, 2308883, 2283389,
  2257890, 2232386, 2206876, 2181361, 2155841, 2130316, 2104786, 2079251, 2053711, 2028167, 2002617, 1977062,
  1951503, 1925940, 1900372, 1874799, 1849222, 1823641, 1798056, 1772466, 1746872, 1721274, 1695672, 1670066,
  1644455, 1618842, 1593224, 1567602, 1541977, 1516348, 1490716, 1465080, 1439440, 1413798, 1388152, 1362503,
  1336850, 1311195, 1285536, 1259874, 1234209, 1208542, 1182871, 1157198, 1131522, 1105843, 1080162, 1054478,
  1028792, 1003103, 977412, 951719, 926023, 900325, 874625, 848923, 823219, 797513, 771806, 746096,
  720385, 694672, 668957, 643241, 617523, 591804, 566083, 540361, 514638, 488914, 463188, 437462,
  411734, 386005, 360276, 334545, 308814, 283082, 257350, 231617, 205883, 180149, 154414, 128679,
  102943, 77208, 51472, 25736, 0]
theorem cosL_len : cosL.length = 1025 := by decide +kernel
def cosN (i : Nat) : Int := cosL.getD i 0
/-- What is asked of the middle one of a step h, from a on. -/
def midOK (h a : Nat) : Bool :=
  let n := (cosN a + cosN (a + h)) * 8388608
  let d := cosN (h / 2)
  let q := n / d
  cosN (a + h / 2) == if 2 * (n % d) ≥ d then q + 1 else q
def rootOK (h : Nat) : Bool :=
  let n := (16777216 + cosN h) * 8388608
  let x := cosN (h / 2)
  decide (0 ≤ x) && decide (x * x ≤ n) && decide (n < (x + 1) * (x + 1))
def levelOK (h : Nat) : Bool := rootOK h && (List.range (1024 / h)).all fun k => k == 0 || midOK h (k * h)
theorem levels : [1024, 512, 256, 128, 64, 32, 16, 8, 4, 2].all levelOK = true := by decide +kernel
theorem cos_falls : (cosL.zip (cosL.drop 1)).all (fun p => decide (p.2 < p.1)) = true := by decide +kernel
theorem cos_legs : (cosL.zip cosL.reverse).all (fun p => decide (p.1 * p.1 + p.2 * p.2 - 281474976710656 < 4294967296) && decide (-4294967296 < p.1 * p.1 + p.2 * p.2 - 281474976710656)) = true := by decide +kernel
theorem cos_bds : cosL.all (fun x => decide (0 ≤ x) && decide (x ≤ 16777216)) = true := by decide +kernel
end Go.Proofs.YtkhhhejmbgloeaaGreat

/- Plain facts of the circle, for the statements of layer 4, out of its table. Nothing here speaks of the program. -/
namespace Go.Proofs.YtkhhhejmbgloeaaGreat
open Go
set_option linter.unusedVariables false

theorem cosN_get {i : Nat} (h : i ≤ 1024) : cosL[i]? = some (cosN i) := by
  have hl : i < cosL.length := by rw [cosL_len]; omega
  unfold cosN
  simp [List.getD, List.getElem?_eq_getElem hl]
theorem cosN_bd {i : Nat} (h : i ≤ 1024) : 0 ≤ cosN i ∧ cosN i ≤ 16777216 := by
  have hm : cosN i ∈ cosL := List.mem_of_getElem? (cosN_get h)
  have := List.all_eq_true.1 cos_bds _ hm
  simpa using this
theorem cosN_falls {i : Nat} (h : i < 1024) : cosN (i + 1) < cosN i := by
  have hm : (cosN i, cosN (i + 1)) ∈ cosL.zip (cosL.drop 1) := by
    refine List.mem_of_getElem? (i := i) ?_
    rw [List.getElem?_zip_eq_some]
    refine ⟨cosN_get (by omega), ?_⟩
    rw [List.getElem?_drop, Nat.add_comm]
    exact cosN_get (by omega)
  have := List.all_eq_true.1 cos_falls _ hm
  simpa using this
theorem cosN_legs {i : Nat} (h : i ≤ 1024) : cosN i * cosN i + cosN (1024 - i) * cosN (1024 - i) - 281474976710656 < 4294967296 ∧ -4294967296 < cosN i * cosN i + cosN (1024 - i) * cosN (1024 - i) - 281474976710656 := by
  have hm : (cosN i, cosN (1024 - i)) ∈ cosL.zip cosL.reverse := by
    refine List.mem_of_getElem? (i := i) ?_
    rw [List.getElem?_zip_eq_some]
    refine ⟨cosN_get (by omega), ?_⟩
    rw [List.getElem?_reverse (by rw [cosL_len]; omega), cosL_len]
    exact cosN_get (by omega)
  have := List.all_eq_true.1 cos_legs _ hm
  simpa using this
theorem level_at {k : Nat} (h : k < 10) : levelOK (2 ^ (k + 1)) = true := by
  have := List.all_eq_true.1 levels (2 ^ (k + 1)) (by
    have : k = 0 ∨ k = 1 ∨ k = 2 ∨ k = 3 ∨ k = 4 ∨ k = 5 ∨ k = 6 ∨ k = 7 ∨ k = 8 ∨ k = 9 := by omega
    rcases this with rfl | rfl | rfl | rfl | rfl | rfl | rfl | rfl | rfl | rfl <;> decide)
  exact this
theorem half_pow (k : Nat) : 2 ^ (k + 1) / 2 = 2 ^ k := by rw [Nat.pow_succ]; omega
/-- The root of step 2 to the k + 1. -/
theorem cos_root {k : Nat} (h : k < 10) : IsRoot ((16777216 + cosN (2 ^ (k + 1))) * 8388608) (cosN (2 ^ k)) := by
  have := level_at h
  unfold levelOK at this
  rw [Bool.and_eq_true] at this
  have hr := this.1
  unfold rootOK at hr
  rw [half_pow] at hr
  simp only [Bool.and_eq_true, decide_eq_true_eq] at hr
  have hb := cosN_bd (i := 2 ^ k) (by have := Nat.pow_le_pow_right (n := 2) (by decide) (show k ≤ 10 by omega); omega)
  exact ⟨hr.1.1, by omega, hr.1.2, hr.2⟩
/-- The middle one of step 2 to the k + 1 from a on. -/
theorem cos_mid {k a : Nat} (h : k < 10) (ha0 : 0 < a) (ha : a % 2 ^ (k + 1) = 0) (hl : a < 1024) :
    cosN (a + 2 ^ k) = if 2 * (((cosN a + cosN (a + 2 ^ (k + 1))) * 8388608) % cosN (2 ^ k)) ≥ cosN (2 ^ k) then ((cosN a + cosN (a + 2 ^ (k + 1))) * 8388608) / cosN (2 ^ k) + 1 else ((cosN a + cosN (a + 2 ^ (k + 1))) * 8388608) / cosN (2 ^ k) := by
  have := level_at h
  unfold levelOK at this
  rw [Bool.and_eq_true] at this
  have hq : a / 2 ^ (k + 1) * 2 ^ (k + 1) = a := Nat.div_mul_cancel (Nat.dvd_of_mod_eq_zero ha)
  have hp : 0 < 2 ^ (k + 1) := Nat.two_pow_pos _
  have h1024 : 1024 % 2 ^ (k + 1) = 0 := by
    have : k = 0 ∨ k = 1 ∨ k = 2 ∨ k = 3 ∨ k = 4 ∨ k = 5 ∨ k = 6 ∨ k = 7 ∨ k = 8 ∨ k = 9 := by omega
    rcases this with rfl | rfl | rfl | rfl | rfl | rfl | rfl | rfl | rfl | rfl <;> decide
  have hm := List.all_eq_true.1 this.2 (a / 2 ^ (k + 1)) (List.mem_range.2 (by
    have e : 1024 / 2 ^ (k + 1) * 2 ^ (k + 1) = 1024 := Nat.div_mul_cancel (Nat.dvd_of_mod_eq_zero h1024)
    refine Nat.lt_of_mul_lt_mul_right (a := 2 ^ (k + 1)) ?_
    rw [hq, e]; exact hl))
  rw [Bool.or_eq_true] at hm
  rcases hm with hm | hm
  · have : a / 2 ^ (k + 1) = 0 := by simpa using hm
    rw [this] at hq; omega
  · rw [hq] at hm
    unfold midOK at hm
    rw [half_pow] at hm
    simpa using hm

/-! ### The whole circle -/
def cosQ (i : Int) : Int :=
  let m := i % 4096
  let m' := if 2048 < m then 4096 - m else m
  if 1024 < m' then -(cosN (2048 - m').toNat) else cosN m'.toNat
noncomputable def cosP (i : Int) : Int := hideI (cosQ i)
theorem cosP_q (i : Int) : cosP i = cosQ i := hideI_eq _
theorem cosQ_in {i : Int} {n : Nat} (h : i % 4096 = n) (hn : n ≤ 1024) : cosQ i = cosN n := by
  unfold cosQ
  simp only [h]
  rw [if_neg (by omega), if_neg (by omega)]
  simp
theorem cosQ_2 {i : Int} {n : Nat} (h : i % 4096 = 2048 - n) (hn : n < 1024) : cosQ i = -(cosN n) := by
  unfold cosQ
  simp only [h]
  rw [if_neg (show ¬ (2048 : Int) < 2048 - n by omega), if_pos (by omega)]
  congr 2; omega
theorem cosQ_3 {i : Int} {n : Nat} (h : i % 4096 = 2048 + n) (hn0 : 0 < n) (hn : n < 1024) : cosQ i = -(cosN n) := by
  unfold cosQ
  simp only [h]
  rw [if_pos (show (2048 : Int) < 2048 + n by omega), if_pos (by omega)]
  congr 2; omega
theorem cosQ_4 {i : Int} {n : Nat} (h : i % 4096 = 4096 - n) (hn0 : 0 < n) (hn : n ≤ 1024) : cosQ i = cosN n := by
  unfold cosQ
  simp only [h]
  rw [if_pos (show (2048 : Int) < 4096 - n by omega), if_neg (by omega)]
  congr 1; omega
/-- Each place of the circle is one of four. -/
theorem circle_at (i : Int) : (∃ n : Nat, i % 4096 = n ∧ n ≤ 1024) ∨ (∃ n : Nat, i % 4096 = 2048 - n ∧ n < 1024) ∨ (∃ n : Nat, i % 4096 = 2048 + n ∧ 0 < n ∧ n < 1024) ∨ (∃ n : Nat, i % 4096 = 4096 - n ∧ 0 < n ∧ n ≤ 1024) := by
  have h0 := Int.emod_nonneg i (b := 4096) (by decide)
  have h1 := Int.emod_lt_of_pos i (b := 4096) (by decide)
  by_cases a : i % 4096 ≤ 1024
  · exact .inl ⟨(i % 4096).toNat, by omega, by omega⟩
  · by_cases b : i % 4096 ≤ 2048
    · exact .inr (.inl ⟨(2048 - i % 4096).toNat, by omega, by omega⟩)
    · by_cases c : i % 4096 < 3072
      · exact .inr (.inr (.inl ⟨(i % 4096 - 2048).toNat, by omega, by omega, by omega⟩))
      · exact .inr (.inr (.inr ⟨(4096 - i % 4096).toNat, by omega, by omega, by omega⟩))
theorem cosP_bd (i : Int) : -16777216 ≤ cosP i ∧ cosP i ≤ 16777216 := by
  rw [cosP_q]
  rcases circle_at i with ⟨n, h, l⟩ | ⟨n, h, l⟩ | ⟨n, h, l0, l⟩ | ⟨n, h, l0, l⟩
  · rw [cosQ_in h l]; have := cosN_bd l; omega
  · rw [cosQ_2 h l]; have := cosN_bd (i := n) (by omega); omega
  · rw [cosQ_3 h l0 l]; have := cosN_bd (i := n) (by omega); omega
  · rw [cosQ_4 h l0 l]; have := cosN_bd l; omega
theorem cosP_neg (i : Int) : cosP (-i) = cosP i := by
  rw [cosP_q, cosP_q]
  rcases circle_at i with ⟨n, h, l⟩ | ⟨n, h, l⟩ | ⟨n, h, l0, l⟩ | ⟨n, h, l0, l⟩
  · by_cases n0 : n = 0
    · subst n0; rw [cosQ_in h l, cosQ_in (n := 0) (by omega) (by omega)]
    · rw [cosQ_in h l, cosQ_4 (n := n) (by omega) (by omega) (by omega)]
  · by_cases n0 : n = 0
    · subst n0; rw [cosQ_2 h l, cosQ_2 (n := 0) (by omega) (by omega)]
    · rw [cosQ_2 h l, cosQ_3 (n := n) (by omega) (by omega) (by omega)]
  · rw [cosQ_3 h l0 l, cosQ_2 (n := n) (by omega) (by omega)]
  · rw [cosQ_4 h l0 l, cosQ_in (n := n) (by omega) (by omega)]
theorem cosN_last : cosN 1024 = 0 := by decide +kernel
theorem cosN_first : cosN 0 = 16777216 := by decide +kernel
theorem cosP_half (i : Int) : cosP (i + 2048) = -(cosP i) := by
  rw [cosP_q, cosP_q]
  rcases circle_at i with ⟨n, h, l⟩ | ⟨n, h, l⟩ | ⟨n, h, l0, l⟩ | ⟨n, h, l0, l⟩
  · rw [cosQ_in h l]
    by_cases n0 : n = 0
    · subst n0; rw [cosQ_2 (n := 0) (by omega) (by omega)]
    · by_cases n1 : n = 1024
      · subst n1; rw [cosQ_4 (n := 1024) (by omega) (by omega) (by omega), cosN_last]; rfl
      · rw [cosQ_3 (n := n) (by omega) (by omega) (by omega)]
  · rw [cosQ_2 h l]
    by_cases n0 : n = 0
    · subst n0; rw [cosQ_in (n := 0) (by omega) (by omega)]; omega
    · rw [cosQ_4 (n := n) (by omega) (by omega) (by omega)]; omega
  · rw [cosQ_3 h l0 l, cosQ_in (n := n) (by omega) (by omega)]; omega
  · rw [cosQ_4 h l0 l]
    by_cases n1 : n = 1024
    · subst n1; rw [cosQ_in (n := 1024) (by omega) (by omega), cosN_last]; rfl
    · rw [cosQ_2 (n := n) (by omega) (by omega)]
theorem cosP_whole (i : Int) : cosP (i + 4096) = cosP i := by
  have := cosP_half (i + 2048)
  rw [cosP_half i] at this
  rw [show i + 4096 = i + 2048 + 2048 by omega, this]; omega
theorem sq_neg (x : Int) : -x * -x = x * x := by rw [Int.neg_mul_neg]
/-- Both legs' squares come together to one, but for a little. -/
theorem cosP_legs (i : Int) : cosP i * cosP i + cosP (i - 1024) * cosP (i - 1024) - 281474976710656 < 4294967296 ∧ -4294967296 < cosP i * cosP i + cosP (i - 1024) * cosP (i - 1024) - 281474976710656 := by
  rw [cosP_q, cosP_q]
  rcases circle_at i with ⟨n, h, l⟩ | ⟨n, h, l⟩ | ⟨n, h, l0, l⟩ | ⟨n, h, l0, l⟩
  · rw [cosQ_in h l]
    by_cases n1 : n = 1024
    · subst n1; rw [cosQ_in (n := 0) (by omega) (by omega)]; exact cosN_legs (i := 1024) (by omega)
    · rw [cosQ_4 (n := 1024 - n) (by omega) (by omega) (by omega)]; exact cosN_legs (i := n) (by omega)
  · rw [cosQ_2 h l, cosQ_in (n := 1024 - n) (by omega) (by omega), sq_neg]; exact cosN_legs (i := n) (by omega)
  · rw [cosQ_3 h l0 l, cosQ_2 (n := 1024 - n) (by omega) (by omega), sq_neg, sq_neg]; exact cosN_legs (i := n) (by omega)
  · rw [cosQ_4 h l0 l]
    by_cases n1 : n = 1024
    · subst n1; rw [cosQ_2 (n := 0) (by omega) (by omega), sq_neg]; exact cosN_legs (i := 1024) (by omega)
    · rw [cosQ_3 (n := 1024 - n) (by omega) (by omega) (by omega), sq_neg]; exact cosN_legs (i := n) (by omega)
theorem cosP_falls {q : Int} (h0 : 0 ≤ q) (h1 : q < 1024) : cosP (q + 1) < cosP q := by
  have e1 : cosQ (q + 1) = cosN (q.toNat + 1) := cosQ_in (by omega) (by omega)
  have e2 : cosQ q = cosN q.toNat := cosQ_in (by omega) (by omega)
  rw [cosP_q, cosP_q, e1, e2]
  exact cosN_falls (by omega)
theorem cosP_512 : cosP 512 = 11863283 := by rw [cosP_q]; decide +kernel
/-- A place of a slope. -/
noncomputable def riseP (i : Int) : Int := if i < 0 then 0 else if 128 ≤ i then 16777216 else cosP (1024 - 4 * (2 * i + 1))
theorem riseP_neg {i : Int} (h : i < 0) : riseP i = 0 := if_pos h
theorem riseP_big {i : Int} (h : 128 ≤ i) : riseP i = 16777216 := by unfold riseP; rw [if_neg (by omega), if_pos h]
theorem riseP_in {i : Int} (h : 0 ≤ i) (h' : i < 128) : riseP i = cosP (1024 - 4 * (2 * i + 1)) := by unfold riseP; rw [if_neg (by omega), if_neg (by omega)]
theorem riseP_legs {q : Int} (h : 0 ≤ q) (h' : q < 128) : riseP q * riseP q + riseP (127 - q) * riseP (127 - q) - 281474976710656 < 4294967296 ∧ -4294967296 < riseP q * riseP q + riseP (127 - q) * riseP (127 - q) - 281474976710656 := by
  rw [riseP_in h h', riseP_in (by omega) (by omega)]
  have e : cosP (1024 - 4 * (2 * (127 - q) + 1)) = cosP (1024 - 4 * (2 * q + 1) - 1024) := by
    rw [← cosP_neg]; congr 1; omega
  rw [e]
  exact cosP_legs _
end Go.Proofs.YtkhhhejmbgloeaaGreat
