/- Plain facts, and what functions give, for the proofs of this seat: several texts in one, each with its own first remark. -/
import Derived.IntWalk
import Derived.Laws.BitsAllLaws
import Derived.Test.YtmgfkdmjgjlkjaaGreatRows
import Derived.Shelf.Abstract
import Derived.Shelf.RegionOpen
import Derived.OwnWalkIn
import Derived.TacticsInMore
import Derived.LoopNIn
import Derived.LoopIn
import Derived.Test.YtmgfkdmjgjlkjaaGreatCa
import Derived.Deep.RegionHeld3
import Derived.Lib.QuietBelow

namespace Go.Proofs.YtmgfkdmjgjlkjaaGreat
open Go
noncomputable def hideI (x : Int) : Int := @Classical.epsilon Int ⟨0⟩ (fun y => y = x)
theorem hideI_eq (x : Int) : hideI x = x := Classical.epsilon_spec (p := fun y => y = x) ⟨x, rfl⟩
def P2 (k : Nat) : Int := 2 ^ k
theorem P2_succ (k : Nat) : P2 (k + 1) = P2 k * 2 := by unfold P2; rw [Int.pow_succ]
theorem P2_pos (k : Nat) : 1 ≤ P2 k := by
  induction k with
  | zero => decide
  | succ k ih => rw [P2_succ]; omega
theorem P2_mono {a b : Nat} (h : a ≤ b) : P2 a ≤ P2 b := by
  induction b with
  | zero => obtain rfl : a = 0 := by omega
            exact Int.le_refl _
  | succ b ih =>
    rcases Nat.lt_or_ge a (b + 1) with h' | h'
    · have := ih (by omega); have := P2_pos b; rw [P2_succ]; omega
    · obtain rfl : a = b + 1 := by omega
      exact Int.le_refl _
theorem P2_63 : P2 63 = 9223372036854775808 := by decide
theorem P2_le61 {k : Nat} (h : k ≤ 61) : P2 k ≤ 2305843009213693952 := by have := P2_mono h; rw [show P2 61 = 2305843009213693952 by decide] at this; exact this
theorem P2_le63 {k : Nat} (h : k ≤ 63) : P2 k ≤ 9223372036854775808 := by have := P2_mono h; rw [P2_63] at this; exact this
def satP (n b : Int) : Int := if b < 1 ∨ 64 < b then 0 else if n < -(P2 (b.toNat - 1)) then -(P2 (b.toNat - 1)) else if P2 (b.toNat - 1) - 1 < n then P2 (b.toNat - 1) - 1 else n
theorem satP_out {n b : Int} (h : b < 1 ∨ 64 < b) : satP n b = 0 := if_pos h
theorem greatest_all : ∀ k : Nat, k < 64 → (9223372036854775807 : Nat) / 2 ^ (63 - k) = 2 ^ k - 1 := by decide
theorem greatest_eq {b : Int} (h1 : 1 ≤ b) (h2 : b ≤ 64) : (9223372036854775807 : Int) / 2 ^ (64 - b).toNat = P2 (b.toNat - 1) - 1 := by
  have h := greatest_all (b.toNat - 1) (by omega)
  have e : (64 - b).toNat = 63 - (b.toNat - 1) := by omega
  have p := P2_pos (b.toNat - 1)
  have c : ((2 ^ (b.toNat - 1) : Nat) : Int) = P2 (b.toNat - 1) := by simp [P2]
  have q : (1 : Nat) ≤ 2 ^ (b.toNat - 1) := Nat.one_le_two_pow
  rw [e]
  have h' : ((9223372036854775807 / 2 ^ (63 - (b.toNat - 1)) : Nat) : Int) = ((2 ^ (b.toNat - 1) - 1 : Nat) : Int) := by rw [h]
  rw [Int.natCast_ediv, Int.ofNat_sub q, c] at h'
  simpa using h'
theorem satP_in {n b : Int} (h1 : 1 ≤ b) (h2 : b ≤ 64) : satP n b = if n < -(P2 (b.toNat - 1)) then -(P2 (b.toNat - 1)) else if P2 (b.toNat - 1) - 1 < n then P2 (b.toNat - 1) - 1 else n := by
  unfold satP; rw [if_neg (by omega)]
theorem satP_bd32 (n : Int) : -2147483648 ≤ satP n 32 ∧ satP n 32 ≤ 2147483647 := by
  have e : P2 ((32 : Int).toNat - 1) = 2147483648 := by decide
  rw [satP_in (by decide) (by decide), e]
  split
  · omega
  · split <;> omega
theorem satP_self {n b : Int} (h1 : 1 ≤ b) (h2 : b ≤ 64) (h3 : -(P2 (b.toNat - 1)) ≤ n) (h4 : n ≤ P2 (b.toNat - 1) - 1) : satP n b = n := by
  rw [satP_in h1 h2, if_neg (by omega), if_neg (by omega)]
theorem take_snocI (zs : List Int) (k : Nat) (h : k < zs.length) : zs.take (k + 1) = zs.take k ++ [zs.getD k 0] := by
  rw [List.take_succ_eq_append_getElem h]; simp [List.getD, h]
def rndP (n b : Int) : Int := if b < 0 ∨ 62 < b then 0 else (n + P2 b.toNat / 2) / P2 b.toNat
theorem rndP_out {n b : Int} (h : b < 0 ∨ 62 < b) : rndP n b = 0 := if_pos h
theorem rndP_zero (n : Int) : rndP n 0 = n := by unfold rndP; simp [P2]
theorem rndP_in {n b : Int} (h1 : 0 ≤ b) (h2 : b ≤ 62) : rndP n b = (n + P2 b.toNat / 2) / P2 b.toNat := by unfold rndP; rw [if_neg (by omega)]
theorem rndP_bits {n b : Int} (h1 : 1 ≤ b) (h2 : b ≤ 62) : rndP n b = n / 2 ^ b.toNat + n / 2 ^ (b.toNat - 1) % 2 := by
  obtain ⟨k, hk⟩ : ∃ k : Nat, b.toNat = k + 1 := ⟨b.toNat - 1, by omega⟩
  rw [rndP_in (by omega) h2, hk, P2_succ]
  have e : (2 : Int) ^ (k + 1) = P2 k * 2 := P2_succ k
  have e' : (2 : Int) ^ (k + 1 - 1) = P2 k := rfl
  have p := P2_pos k
  rw [e, e', Int.mul_ediv_cancel _ (by decide), ← Int.ediv_ediv_of_nonneg (by omega), ← Int.ediv_ediv_of_nonneg (by omega)]
  have a : (n + P2 k) / P2 k = n / P2 k + 1 := by rw [Int.add_ediv_of_dvd_right ⟨1, by omega⟩, Int.ediv_self (by omega)]
  rw [a]; omega
theorem half_bits {n : Int} {k : Nat} (h : -9223372036854775808 ≤ n) (h' : n ≤ 9223372036854775807) : -9223372036854775808 ≤ n / 2 ^ k ∧ n / 2 ^ k ≤ 9223372036854775807 := by
  have e : (2 : Int) ^ k = P2 k := rfl
  have p := P2_pos k
  rw [e]
  refine ⟨Int.le_ediv_of_mul_le (by omega) ?_, ?_⟩
  · have : -9223372036854775808 * P2 k ≤ -9223372036854775808 * 1 := Int.mul_le_mul_of_nonpos_left (by decide) p
    omega
  · by_cases h0 : n < 0
    · have := Int.ediv_neg_of_neg_of_pos h0 (show 0 < P2 k by omega); omega
    · have := Int.ediv_le_self (P2 k) (show 0 ≤ n by omega); omega
theorem rndP_bd {n b : Int} (h : -9223372036854775808 ≤ n) (h' : n ≤ 9223372036854775807) : -9223372036854775808 ≤ rndP n b ∧ rndP n b ≤ 9223372036854775807 := by
  by_cases h0 : b < 0 ∨ 62 < b
  · rw [rndP_out h0]; omega
  · by_cases h1 : b = 0
    · subst h1; rw [rndP_zero]; omega
    · have hk : 1 ≤ b.toNat := by omega
      obtain ⟨k, hk⟩ : ∃ k : Nat, b.toNat = k + 1 := ⟨b.toNat - 1, by omega⟩
      rw [rndP_bits (by omega) (by omega)]
      have := half_bits (k := b.toNat - 1) h h'
      have e : n / 2 ^ b.toNat = n / 2 ^ (b.toNat - 1) / 2 := by
        have e1 : (2 : Int) ^ (b.toNat) = 2 ^ (b.toNat - 1) * 2 := by rw [hk, Int.pow_succ]; rfl
        have p := P2_pos (b.toNat - 1)
        unfold P2 at p
        rw [e1, Int.ediv_ediv_of_nonneg (by omega)]
      rw [e]; omega
theorem i64_and1 (n : Int) : bits .and .i64 n 1 = n % 2 := by
  have h1 : (BitVec.ofInt 64 1).toNat = 2 ^ 1 - 1 := by decide
  have key : (BitVec.ofInt 64 n &&& BitVec.ofInt 64 1).toNat = (n % ((2 ^ 64 : Nat) : Int)).toNat % 2 ^ 1 := by
    rw [BitVec.toNat_and, BitVec.toNat_ofInt, h1, Nat.and_two_pow_sub_one_eq_mod]
  show IntKind.i64.wrap ((BitVec.ofInt 64 n &&& BitVec.ofInt 64 1).toNat : Nat) = n % 2
  rw [key, IntKind.wrap_i64]
  omega
def mulP (a b by' : Int) : Int := satP (rndP (a * b) by') 32
theorem prod_bd {a b : Int} (ha : -2147483648 ≤ a) (ha' : a ≤ 2147483647) (hb : -2147483648 ≤ b) (hb' : b ≤ 2147483647) : -4611686018427387904 ≤ a * b ∧ a * b ≤ 4611686018427387904 := by
  have h : (a * b).natAbs ≤ 2147483648 * 2147483648 := by
    rw [Int.natAbs_mul]; exact Nat.mul_le_mul (by omega) (by omega)
  omega
def IsRoot (n x : Int) : Prop := 0 ≤ x ∧ x ≤ 4294967295 ∧ x * x ≤ n ∧ n < (x + 1) * (x + 1)
theorem sq_mono {a b : Int} (ha : 0 ≤ a) (h : a ≤ b) : a * a ≤ b * b := Int.mul_le_mul h h ha (by omega)
theorem isRoot_unique {n x y : Int} (hx : IsRoot n x) (hy : IsRoot n y) : x = y := by
  obtain ⟨x0, _, x1, x2⟩ := hx
  obtain ⟨y0, _, y1, y2⟩ := hy
  rcases Int.lt_trichotomy x y with h | h | h
  · have := sq_mono (a := x + 1) (b := y) (by omega) (by omega); omega
  · exact h
  · have := sq_mono (a := y + 1) (b := x) (by omega) (by omega); omega
noncomputable def rootP (n : Int) : Int := @Classical.epsilon Int ⟨0⟩ (IsRoot n)
theorem rootP_eq {n x : Int} (h : IsRoot n x) : x = rootP n := isRoot_unique h (Classical.epsilon_spec ⟨x, h⟩)
theorem or_join {r : Int} {j : Nat} (h0 : 0 ≤ r) (h1 : r + P2 (j + 1) ≤ 4294967296) (h2 : r % P2 (j + 1) = 0) : bits .or .u64 r (P2 j) = r + P2 j := by
  have p := P2_pos j
  rw [P2_succ] at h1
  rw [u64_or r (P2 j) h0 (by omega) (by omega) (by omega)]
  have c : ((2 ^ (j + 1) : Nat) : Int) = P2 (j + 1) := by simp [P2]
  have c' : (P2 j).toNat = 2 ^ j := by
    have : ((2 ^ j : Nat) : Int) = P2 j := by simp [P2]
    omega
  have hm : r.toNat % 2 ^ (j + 1) = 0 := by
    have e : ((r.toNat % 2 ^ (j + 1) : Nat) : Int) = r % P2 (j + 1) := by rw [Int.natCast_emod, c, Int.toNat_of_nonneg h0]
    omega
  rw [nat_join (j + 1) _ _ hm (by rw [c', Nat.pow_succ]; have := Nat.one_le_two_pow (n := j); omega)]
  omega
theorem sq_lt32 {x : Int} (h0 : 0 ≤ x) (h : x ≤ 4294967295) : 0 ≤ x * x ∧ x * x ≤ 18446744073709551615 := by
  have a := sq_mono h0 h
  have b := sq_mono (a := 0) (b := x) (by decide) h0
  omega
theorem P2_32 : P2 32 = 4294967296 := by decide
def RootUpTo (n r : Int) (k : Nat) : Prop := 0 ≤ r ∧ r + P2 k ≤ 4294967296 ∧ r % P2 k = 0 ∧ r * r ≤ n ∧ n < (r + P2 k) * (r + P2 k)
theorem rootUpTo_32 {n : Int} (h : 0 ≤ n) (h' : n ≤ 18446744073709551615) : RootUpTo n 0 32 := by
  refine ⟨by decide, by decide, by decide, by omega, ?_⟩
  rw [P2_32]; omega
theorem mod_half {r : Int} {j : Nat} (h : r % P2 (j + 1) = 0) : r % P2 j = 0 := by
  have d : P2 (j + 1) ∣ r := Int.dvd_of_emod_eq_zero h
  exact Int.emod_eq_zero_of_dvd (Int.dvd_trans ⟨2, P2_succ j⟩ d)
theorem rootUpTo_low {n r : Int} {j : Nat} (h : RootUpTo n r (j + 1)) (hn : n < (r + P2 j) * (r + P2 j)) : RootUpTo n r j := by
  obtain ⟨a, b, c, d, _⟩ := h
  have p := P2_pos j
  rw [P2_succ] at b
  exact ⟨a, by omega, mod_half c, d, hn⟩
theorem rootUpTo_high {n r : Int} {j : Nat} (h : RootUpTo n r (j + 1)) (hn : (r + P2 j) * (r + P2 j) ≤ n) : RootUpTo n (r + P2 j) j := by
  obtain ⟨a, b, c, _, e⟩ := h
  have p := P2_pos j
  rw [P2_succ] at b
  refine ⟨by omega, by omega, ?_, hn, ?_⟩
  · rw [Int.add_emod_right]; exact mod_half c
  · have s : r + P2 j + P2 j = r + P2 (j + 1) := by rw [P2_succ]; omega
    rw [s]; exact e
theorem rootUpTo_end {n r : Int} (h : RootUpTo n r 0) : r = rootP n := by
  obtain ⟨a, b, _, d, e⟩ := h
  have z : P2 0 = 1 := rfl
  rw [z] at b e
  exact rootP_eq ⟨a, by omega, d, e⟩
theorem rootUpTo_bd {n r : Int} {k : Nat} (h : RootUpTo n r k) : 0 ≤ r ∧ r ≤ 4294967295 := by
  have p := P2_pos k; obtain ⟨a, b, _⟩ := h; omega
theorem rootUpTo_or {n r : Int} {j : Nat} (h : RootUpTo n r (j + 1)) : bits .or .u64 r (P2 j) = r + P2 j ∧ 0 ≤ r + P2 j ∧ r + P2 j ≤ 4294967295 := by
  obtain ⟨a, b, c, _, _⟩ := h
  have p := P2_pos j
  refine ⟨or_join a b c, by omega, ?_⟩
  rw [P2_succ] at b; omega
theorem P2_half (j : Nat) : P2 (j + 1) / 2 = P2 j := by rw [P2_succ]; omega
end Go.Proofs.YtmgfkdmjgjlkjaaGreat

namespace Go.Proofs.YtmgfkdmjgjlkjaaGreat
open Go
set_option linter.unusedVariables false
def turnR (x : Nat) : Nat := if x % 2 = 1 then (x / 2) ^^^ 2197175160 else x / 2
def stepR (c b : Nat) : Nat := turnR (c ^^^ b)
def bitAt (l : List Int) (n : Nat) : Nat := (l.getD (n / 8) 0).toNat / 2 ^ (n % 8) % 2
def regN (l : List Int) : Nat → Nat
  | 0 => 4294967295
  | n + 1 => stepR (regN l n) (bitAt l n)
noncomputable def crcP (l : List Int) : Int := hideI (4294967295 - (regN l (8 * l.length) : Int))
end Go.Proofs.YtmgfkdmjgjlkjaaGreat

namespace Go.Proofs.YtmgfkdmjgjlkjaaGreat
open Go
set_option linter.unusedVariables false
def numL : Int → Nat → List Int
  | _, 0 => []
  | n, k + 1 => n % 256 :: numL (n / 256) k
def valL19 : List Int → Int
  | [] => 0
  | x :: xs => x + 256 * valL19 xs
def Byts (b : List Int) : Prop := ∀ x ∈ b, 0 ≤ x ∧ x ≤ 255
theorem Byts.nil : Byts [] := fun x h => by simp at h
theorem Byts.cons {x : Int} {b : List Int} (h : Byts (x :: b)) : (0 ≤ x ∧ x ≤ 255) ∧ Byts b := ⟨h x (by simp), fun y hy => h y (by simp [hy])⟩
theorem Byts.drop {b : List Int} (h : Byts b) (k : Nat) : Byts (b.drop k) := fun x hx => h x (List.mem_of_mem_drop hx)
theorem Byts.take {b : List Int} (h : Byts b) (k : Nat) : Byts (b.take k) := fun x hx => h x (List.mem_of_mem_take hx)
theorem Byts.getD {b : List Int} (h : Byts b) (j : Nat) : 0 ≤ b.getD j 0 ∧ b.getD j 0 ≤ 255 := by
  rcases Nat.lt_or_ge j b.length with hj | hj
  · have e : b.getD j 0 = b[j] := by simp [List.getD, hj]
    rw [e]; exact h _ (List.getElem_mem hj)
  · have e : b.getD j 0 = 0 := by simp [List.getD, hj]
    rw [e]; decide
structure Pk where
  ep : Int
  nu : Int
  wh : Bool
  pl : List Int
structure Pk.Ok (p : Pk) : Prop where
  e : 0 ≤ p.ep ∧ p.ep ≤ 4294967295
  n : 0 ≤ p.nu ∧ p.nu ≤ 4294967295
  b : Byts p.pl
def whI (b : Bool) : Int := if b then 1 else 0
def Pk.front (p : Pk) : List Int := [83, 66, whI p.wh] ++ numL p.ep 4 ++ numL p.nu 4 ++ numL (p.pl.length : Int) 2 ++ p.pl
noncomputable def Pk.bytes (p : Pk) : List Int := p.front ++ numL (crcP p.front) 4
def lenP (b : List Int) : Nat := (valL19 ((b.drop 11).take 2)).toNat
def formP (b : List Int) : Bool := (b.length == 0 || b.getD 0 0 == 83) && ((decide (b.length ≤ 1) || b.getD 1 0 == 66) && (decide (b.length ≤ 2) || (b.getD 2 0 == 0 || b.getD 2 0 == 1)))
def sumP (b : List Int) : Int := valL19 ((b.drop (13 + lenP b)).take 4)
noncomputable def prsE (b : List Int) : Int :=
  if formP b = true then if b.length < 13 then 2 else if 600 < lenP b then 5 else if b.length < 17 + lenP b then 2 else if sumP b = crcP (b.take (13 + lenP b)) then 0 else 4
  else 3
def pkOf (b : List Int) : Pk := ⟨valL19 ((b.drop 3).take 4), valL19 ((b.drop 7).take 4), b.getD 2 0 == 1, (b.drop 13).take (lenP b)⟩
theorem formP_nil : formP [] = true := rfl
theorem prsE_nil : prsE [] = 2 := by unfold prsE; rw [if_pos formP_nil, if_pos (by decide)]
theorem prsE_ok {b : List Int} (h : prsE b = 0) : formP b = true ∧ 13 ≤ b.length ∧ lenP b ≤ 600 ∧ 17 + lenP b ≤ b.length ∧ sumP b = crcP (b.take (13 + lenP b)) := by
  unfold prsE at h
  split at h
  · split at h
    · omega
    · split at h
      · omega
      · split at h
        · omega
        · split at h
          · exact ⟨by assumption, by omega, by omega, by omega, by assumption⟩
          · omega
  · omega
end Go.Proofs.YtmgfkdmjgjlkjaaGreat

namespace Go.Proofs.YtmgfkdmjgjlkjaaGreat
open Go
set_option linter.unusedVariables false
structure Rd where
  ps : List Pk
  lost : Nat
  left : List Int
noncomputable def scanF : Nat → List Int → Rd
  | 0, b => ⟨[], 0, b⟩
  | f + 1, b => if prsE b = 2 then ⟨[], 0, b⟩ else if prsE b = 0 then ⟨pkOf b :: (scanF f (b.drop (17 + lenP b))).ps, (scanF f (b.drop (17 + lenP b))).lost, (scanF f (b.drop (17 + lenP b))).left⟩
    else ⟨(scanF f (b.drop 1)).ps, (scanF f (b.drop 1)).lost + 1, (scanF f (b.drop 1)).left⟩
noncomputable def scan (b : List Int) : Rd := scanF b.length b
theorem len_pos {b : List Int} (h : prsE b ≠ 2) : 0 < b.length := by
  cases b with
  | nil => exact absurd prsE_nil h
  | cons x b => simp
theorem scanF_more {f : Nat} : ∀ {g : Nat} {b : List Int}, b.length ≤ f → b.length ≤ g → scanF f b = scanF g b := by
  induction f with
  | zero =>
    intro g b hf _
    obtain rfl : b = [] := List.eq_nil_of_length_eq_zero (by omega)
    cases g with
    | zero => rfl
    | succ g => show _ = (if _ then _ else _); rw [if_pos prsE_nil]; rfl
  | succ f ih =>
    intro g b hf hg
    by_cases h2 : prsE b = 2
    · cases g with
      | zero => show (if _ then _ else _) = _; rw [if_pos h2]; rfl
      | succ g => show (if _ then _ else _) = (if _ then _ else _); rw [if_pos h2, if_pos h2]
    · have hp := len_pos h2
      cases g with
      | zero => omega
      | succ g =>
        show (if _ then _ else _) = (if _ then _ else _)
        rw [if_neg h2, if_neg h2]
        by_cases h0 : prsE b = 0
        · rw [if_pos h0, if_pos h0, ih (g := g) (b := b.drop (17 + lenP b)) (by rw [List.length_drop]; omega) (by rw [List.length_drop]; omega)]
        · rw [if_neg h0, if_neg h0, ih (g := g) (b := b.drop 1) (by rw [List.length_drop]; omega) (by rw [List.length_drop]; omega)]
theorem scan_cut {b : List Int} (h : prsE b = 2) : scan b = ⟨[], 0, b⟩ := by
  unfold scan
  cases b with
  | nil => rfl
  | cons x b => show (if _ then _ else _) = _; rw [if_pos h]
theorem scan_ok {b : List Int} (h : prsE b = 0) : scan b = ⟨pkOf b :: (scan (b.drop (17 + lenP b))).ps, (scan (b.drop (17 + lenP b))).lost, (scan (b.drop (17 + lenP b))).left⟩ := by
  have hp := len_pos (b := b) (by omega)
  unfold scan
  rw [show scanF b.length b = scanF (b.length - 1 + 1) b by rw [Nat.sub_add_cancel hp]]
  show (if _ then _ else _) = _
  rw [if_neg (by omega), if_pos h, scanF_more (g := (b.drop (17 + lenP b)).length) (by rw [List.length_drop]; omega) (Nat.le_refl _)]
theorem scan_bad {b : List Int} (h2 : prsE b ≠ 2) (h0 : prsE b ≠ 0) : scan b = ⟨(scan (b.drop 1)).ps, (scan (b.drop 1)).lost + 1, (scan (b.drop 1)).left⟩ := by
  have hp := len_pos h2
  unfold scan
  rw [show scanF b.length b = scanF (b.length - 1 + 1) b by rw [Nat.sub_add_cancel hp]]
  show (if _ then _ else _) = _
  rw [if_neg h2, if_neg h0, scanF_more (g := (b.drop 1).length) (by rw [List.length_drop]; omega) (Nat.le_refl _)]
theorem scan_suffix : ∀ (n : Nat) (b : List Int), b.length ≤ n → (scan b).left.length + (scan b).lost + 17 * (scan b).ps.length ≤ b.length ∧ ∃ k, (scan b).left = b.drop k := by
  intro n
  induction n with
  | zero =>
    intro b h
    obtain rfl : b = [] := List.eq_nil_of_length_eq_zero (by omega)
    exact ⟨Nat.le_refl 0, 0, rfl⟩
  | succ n ih =>
    intro b h
    by_cases h2 : prsE b = 2
    · rw [scan_cut h2]; exact ⟨by simp, 0, rfl⟩
    · have hp := len_pos h2
      by_cases h0 : prsE b = 0
      · obtain ⟨i1, k, i2⟩ := ih (b.drop (17 + lenP b)) (by rw [List.length_drop]; omega)
        have := (prsE_ok h0).2.2.2.1
        rw [List.length_drop] at i1
        rw [scan_ok h0]
        refine ⟨?_, _, i2.trans (List.drop_drop)⟩
        simp only [List.length_cons]
        omega
      · obtain ⟨i1, k, i2⟩ := ih (b.drop 1) (by rw [List.length_drop]; omega)
        rw [List.length_drop] at i1
        rw [scan_bad h2 h0]
        exact ⟨by simp only; omega, _, i2.trans (List.drop_drop)⟩
def OnWay (b : List Int) (ps : List Pk) (lost : Nat) (rest : List Int) : Prop := scan b = ⟨ps ++ (scan rest).ps, lost + (scan rest).lost, (scan rest).left⟩
theorem OnWay.start (b : List Int) : OnWay b [] 0 b := by unfold OnWay; simp
theorem OnWay.ok {b rest : List Int} {ps : List Pk} {lost : Nat} (h : OnWay b ps lost rest) (h0 : prsE rest = 0) : OnWay b (ps ++ [pkOf rest]) lost (rest.drop (17 + lenP rest)) := by
  unfold OnWay at h ⊢
  rw [h, scan_ok h0]; simp
theorem OnWay.nums {b rest : List Int} {ps : List Pk} {lost : Nat} (h : OnWay b ps lost rest) : 17 * ps.length + lost ≤ b.length := by
  have k := (scan_suffix b.length b (Nat.le_refl _)).1
  unfold OnWay at h
  rw [h] at k
  simp only [List.length_append] at k
  omega
end Go.Proofs.YtmgfkdmjgjlkjaaGreat

namespace Go.Proofs.YtmgfkdmjgjlkjaaGreat
open Go.RowKit Go.Shelf
set_option linter.unusedVariables false
set_option linter.unusedSimpArgs false
theorem Byts.at_ {b : List Int} (h : Byts b) (len : Nat) : ∀ j, j < len → 0 ≤ b.getD j 0 ∧ b.getD j 0 ≤ 255 := fun j _ => h.getD j
end Go.Proofs.YtmgfkdmjgjlkjaaGreat

namespace Go.Proofs.YtmgfkdmjgjlkjaaGreat
open Go.RowKit Go.Shelf
set_option linter.unusedVariables false
set_option linter.unusedSimpArgs false
structure ByL (w : World) (a : Option Addr) (n cap : Nat) (b : List Int) : Prop where
  hi : IntsAt w w.heap.size .u8 a n b
  hc : n ≤ cap
  hm : cap ≤ 9223372036854775807
  ha : a = none → cap = 0
  hb : Byts b
section
variable {w w' : World} {a : Option Addr} {n cap : Nat} {b : List Int}
theorem ByL.len (h : ByL w a n cap b) : b.length = n := h.hi.1
theorem ByL.below (h : ByL w a n cap b) (hb : Below w.heap.size w w') : ByL w' a n cap b := ⟨h.hi.now hb (Nat.le_refl _), h.hc, h.hm, h.ha, h.hb⟩
theorem ByL.drewN (h : ByL w a n cap b) (k : Nat) : ByL (w.drewN k) a n cap b := ⟨h.hi, h.hc, h.hm, h.ha, h.hb⟩
theorem ByL.form (h : ByL w a n cap b) (hn : 0 < n) : ∃ r off, a = some ⟨r, off, none⟩ := by
  obtain ⟨r, off, e, _⟩ := h.hi.at_ hn
  exact ⟨r, off, e⟩
theorem ByL.cell {r off j : Nat} (h : ByL w (some ⟨r, off, none⟩) n cap b) (hj : j < n) : w.cell? ⟨r, off + j, none⟩ = some (.int .u8 (b.getD j 0)) := by
  obtain ⟨r', off', e, _, _, hc⟩ := h.hi.at_ hj
  injection e with e
  injection e with e1 e2
  subst e1
  subst e2
  exact hc
theorem ByL.sub {r off : Nat} (h : ByL w (some ⟨r, off, none⟩) n cap b) (lo m : Nat) (hm : lo + m ≤ n) : ByL w (some ⟨r, off + lo, none⟩) m (cap - lo) ((b.drop lo).take m) := by
  have hl := h.len
  have hc := h.hc
  refine ⟨⟨by simp; omega, ?_⟩, by omega, by have := h.hm; omega, (fun e => by cases e), (h.hb.drop _).take _⟩
  by_cases h0 : m = 0
  · exact .inl h0
  · obtain ⟨r', off', e, hr, hx, _⟩ := h.hi.at_ (j := 0) (by omega)
    injection e with e
    injection e with e1 e2
    subst e1
    refine .inr ⟨_, _, rfl, hr, by omega, fun j hj => ?_⟩
    rw [Nat.add_assoc, h.cell (j := lo + j) (by omega)]
    simp [List.getD, hj]
theorem ByL.zero {r off : Nat} (h : ByL w (some ⟨r, off, none⟩) n cap b) (m : Nat) (hm : m ≤ n) : ByL w (some ⟨r, off, none⟩) m cap (b.take m) := by
  have := h.sub 0 m (by omega)
  simpa using this
end
theorem frz4 {w : World} {g : Nat} {t : TypeId} {cs : Array Value} (h : Cel w g t cs) : w.frozen? ⟨g, 0, none⟩ = false ∧ w.frozen? ⟨g, 1, none⟩ = false ∧ w.frozen? ⟨g, 2, none⟩ = false ∧ w.frozen? ⟨g, 3, none⟩ = false := ⟨h.frozen 0, h.frozen 1, h.frozen 2, h.frozen 3⟩
theorem below_set4 {B : Nat} {w w' : World} {g : Nat} (h : Below B w w') (hg : B ≤ g) (a b c d : Value) : Below B w ((((w'.setCell ⟨g, 0, none⟩ a).setCell ⟨g, 1, none⟩ b).setCell ⟨g, 2, none⟩ c).setCell ⟨g, 3, none⟩ d) :=
  (((h.setCell (p := ⟨g, 0, none⟩) hg a).setCell (p := ⟨g, 1, none⟩) hg b).setCell (p := ⟨g, 2, none⟩) hg c).setCell (p := ⟨g, 3, none⟩) hg d
theorem cel_set4 {w : World} {g : Nat} {t : TypeId} {cs : Array Value} (h : Cel w g t cs) (hs : cs.size = 4) (a b c d : Value) : Cel ((((w.setCell ⟨g, 0, none⟩ a).setCell ⟨g, 1, none⟩ b).setCell ⟨g, 2, none⟩ c).setCell ⟨g, 3, none⟩ d) g t #[a, b, c, d] := by
  have k := (((h.set_ 0 a).set_ 1 b).set_ 2 c).set_ 3 d
  have e : (((cs.setIfInBounds 0 a).setIfInBounds 1 b).setIfInBounds 2 c).setIfInBounds 3 d = #[a, b, c, d] := by
    obtain ⟨l⟩ := cs
    match l, hs with
    | [_, _, _, _], _ => rfl
  rw [e] at k
  exact k
end Go.Proofs.YtmgfkdmjgjlkjaaGreat

namespace Go.Proofs.YtmgfkdmjgjlkjaaGreat
open Go.RowKit
set_option linter.unusedVariables false
set_option linter.unusedSimpArgs false
abbrev PkX := Pk × Option Addr × Nat
structure PyAt (w : World) (B : Nat) (x : PkX) : Prop where
  i : IntsAt w w.heap.size .u8 x.2.1 x.1.pl.length x.1.pl
  n : x.2.1 = none → x.2.2 = 0
  t : ∀ r off, x.2.1 = some ⟨r, off, none⟩ → 0 < x.1.pl.length → Typ19 w r 5 ∨ r < B
section
variable {w w' : World} {B : Nat} {x : PkX}
theorem PyAt.keeps {F : Nat → Prop} (h : PyAt w B x) (hk : Keeps F w w') (hF : ∀ j, F j → B ≤ j ∧ ∃ t, Typ19 w j t ∧ t ≠ 5) : PyAt w' B x := by
  have hn : ∀ r off, x.2.1 = some ⟨r, off, none⟩ → 0 < x.1.pl.length → ¬ F r := fun r off e h0 hf => by
    obtain ⟨hB, t, ht, ne⟩ := hF r hf
    rcases h.t r off e h0 with h1 | h1
    · exact ht.ne h1 ne rfl
    · omega
  refine ⟨(h.i.keeps19 hk (Nat.le_refl _) fun r off e h0 _ => hn r off e h0).grow hk.size, h.n, fun r off e h0 => ?_⟩
  rcases h.t r off e h0 with h1 | h1
  · exact .inl (h1.keep (hk.block r h1.lt (hn r off e h0)))
  · exact .inr h1
theorem PyAt.below (h : PyAt w B x) (hb : Below w.heap.size w w') : PyAt w' B x := h.keeps (F := fun _ => False) (.of_below hb) fun _ c => c.elim
theorem PyAt.own {p : Pk} {base : Nat} {a : Option Addr} {c : Nat} (h : w.ownsRow base 5 1 (.slice a p.pl.length c) p.pl.length (p.pl.map (Value.int .u8))) (B : Nat) : PyAt w B (p, a, c) := by
  refine ⟨own_ints' h, fun e => ?_, fun r off e h0 => ?_⟩
  · rcases h.2 with ⟨e2, hn⟩ | ⟨g, cap, cur, e2, _⟩
    · injection e2
    · injection e2 with e2
      have e : a = none := e
      rw [e] at e2
      cases e2
  · have e : a = some ⟨r, off, none⟩ := e
    subst e
    exact .inl (own_typ19 h rfl).1
end
def pkCells (x : PkX) : List Value := [.int .u32 x.1.ep, .int .u32 x.1.nu, .bool x.1.wh, .slice x.2.1 x.1.pl.length x.2.2]
def pkFlat (xs : List PkX) : List Value := (xs.map pkCells).flatten
theorem pkFlat_len (xs : List PkX) : (pkFlat xs).length = xs.length * 4 := by
  induction xs with
  | nil => rfl
  | cons x xs ih => simp [pkFlat, pkCells] at ih ⊢; omega
theorem pkFlat_app (xs ys : List PkX) : pkFlat (xs ++ ys) = pkFlat xs ++ pkFlat ys := by simp [pkFlat]
theorem pkFlat_at {xs : List PkX} {i : Nat} (h : i < xs.length) : (pkFlat xs)[i * 4]? = some (.int .u32 xs[i].1.ep) ∧ (pkFlat xs)[i * 4 + 1]? = some (.int .u32 xs[i].1.nu) ∧ (pkFlat xs)[i * 4 + 2]? = some (.bool xs[i].1.wh) ∧ (pkFlat xs)[i * 4 + 3]? = some (.slice xs[i].2.1 xs[i].1.pl.length xs[i].2.2) := by
  induction xs generalizing i with
  | nil => simp at h
  | cons x xs ih =>
    cases i with
    | zero => exact ⟨rfl, rfl, rfl, rfl⟩
    | succ i =>
      have e : ∀ k, (pkFlat (x :: xs))[(i + 1) * 4 + k]? = (pkFlat xs)[i * 4 + k]? := by
        intro k
        show (pkCells x ++ pkFlat xs)[(i + 1) * 4 + k]? = _
        rw [List.getElem?_append_right (by simp [pkCells]; omega)]
        congr 1
        simp [pkCells]; omega
      have := ih (i := i) (by simp at h; omega)
      have e0 := e 0
      simp only [Nat.add_zero] at e0
      rw [e0, e 1, e 2, e 3]
      exact this
def PksAt (w : World) (base B : Nat) (ty : TypeId) (v : Value) (ps : List Pk) : Prop :=
  ∃ xs : List PkX, xs.map (·.1) = ps ∧ w.ownsRow base ty 4 v xs.length (pkFlat xs) ∧ ∀ x ∈ xs, PyAt w B x
section
variable {w w' : World} {base B : Nat} {ty : TypeId} {v : Value} {ps : List Pk}
theorem PksAt.nil (w : World) (base B : Nat) (ty : TypeId) : PksAt w base B ty (.slice none 0 0) [] := ⟨[], rfl, World.ownsRow_nil w base ty 4, fun x hx => by simp at hx⟩
theorem PksAt.keeps {F : Nat → Prop} (h : PksAt w base B ty v ps) (hk : Keeps F w w') (hF : ∀ j, F j → B ≤ j ∧ ∃ t, Typ19 w j t ∧ t ≠ 5 ∧ t ≠ ty) : PksAt w' base B ty v ps := by
  obtain ⟨xs, h1, h2, h3⟩ := h
  refine ⟨xs, h1, own_keeps h2 hk fun k hg hf => ?_, fun x hx => (h3 x hx).keeps hk fun j hj => ?_⟩
  · obtain ⟨_, t, ht, _, n2⟩ := hF k hf
    exact ht.ne (own_typ19 h2 hg).1 n2 rfl
  · obtain ⟨hB, t, ht, n1, _⟩ := hF j hj
    exact ⟨hB, t, ht, n1⟩
theorem PksAt.below (h : PksAt w base B ty v ps) (hb : Below w.heap.size w w') : PksAt w' base B ty v ps := h.keeps (F := fun _ => False) (.of_below hb) fun _ c => c.elim
theorem PksAt.len {a : Option Addr} {n c : Nat} (h : PksAt w base B ty (.slice a n c) ps) : n = ps.length := by
  obtain ⟨xs, h1, h2, _⟩ := h
  rw [← h1, List.length_map]
  rcases h2.2 with ⟨e, hn⟩ | ⟨g, cap, cur, e, _⟩
  · injection e with _ e2 _; omega
  · injection e
theorem PksAt.form (h : PksAt w base B ty v ps) : ∃ a n c, v = .slice a n c ∧ n = ps.length := by
  have h' := h
  obtain ⟨xs, h1, h2, _⟩ := h
  rcases h2.2 with ⟨rfl, hn⟩ | ⟨g, cap, cur, rfl, _⟩
  · exact ⟨_, _, _, rfl, h'.len⟩
  · exact ⟨_, _, _, rfl, h'.len⟩
theorem PksAt.at_ {a : Option Addr} {n c i : Nat} (h : PksAt w base B ty (.slice a n c) ps) (hi : i < ps.length) : ∃ g p a2 c2, ps[i]? = some p ∧ a = some ⟨g, 0, none⟩ ∧ PyAt w B (p, a2, c2) ∧
    w.cell? ⟨g, i * 4, none⟩ = some (.int .u32 p.ep) ∧ w.cell? ⟨g, i * 4 + 1, none⟩ = some (.int .u32 p.nu) ∧ w.cell? ⟨g, i * 4 + 2, none⟩ = some (.bool p.wh) ∧ w.cell? ⟨g, i * 4 + 3, none⟩ = some (.slice a2 p.pl.length c2) := by
  obtain ⟨xs, h1, h2, h3⟩ := h
  have hx : i < xs.length := by rw [← h1, List.length_map] at hi; exact hi
  have hp : ps[i]? = some xs[i].1 := by rw [← h1]; simp [hx]
  obtain ⟨k0, k1, k2, k3⟩ := pkFlat_at hx
  rcases h2.2 with ⟨e, hn⟩ | ⟨g, cap, cur, e, _⟩
  · omega
  · injection e with e1 e2 e3
    subst e1
    subst e2
    exact ⟨g, xs[i].1, xs[i].2.1, xs[i].2.2, hp, rfl, h3 _ (List.getElem_mem hx), by rw [h2.cellAt _ (by omega)]; exact k0, by rw [h2.cellAt _ (by omega)]; exact k1, by rw [h2.cellAt _ (by omega)]; exact k2, by rw [h2.cellAt _ (by omega)]; exact k3⟩
end
theorem append_pks {P : Program} {w : World} {ops : Array Oper} {rest : List Oper} {o : Oper} {a : Act} {Q : Exit → Act → World → Prop} (hgd : o.guard = none) (s x : Operand) (t : TypeId)
    (ho : o.op = .call { callee := .builtin .append, args := #[s, x], argTypes := #[t, t] })
    (base B : Nat) (e : TypeId) (z : Value) (by' : Nat) (ht : P.underlying t = some (.slice e)) (hi : (P.info? e).map (fun i => (i.zero, i.size, i.bytes)) = some (some z, 4, by')) (hz : z.cells.size = 4) (hby : by' ≤ 100) (hne : e ≠ 5) (hBb : B ≤ base)
    (v : Value) (ps : List Pk) (hs : a.eval s = v) (hR : PksAt w base B e v ps)
    (A : Option Addr) (m c : Nat) (ys : List PkX) (hx : a.eval x = .slice A m c) (hm : m = ys.length) (hnone : A = none → c = 0 ∧ m = 0) (hsrc : ∀ ad, A = some ad → ∀ j u, (pkFlat ys)[j]? = some u → w.cell? (ad.add j) = some u) (hy : ∀ y ∈ ys, PyAt w B y)
    (hf : ps.length + m ≤ 1000000) (hbase : base ≤ w.heap.size)
    (h : ∀ v' w', PksAt w' base B e v' (ps ++ ys.map (·.1)) → Keeps (fun j => base ≤ j ∧ Typ19 w j e) w w' → wpList P ops Q rest (a.put o.dst v') w') :
    wpList P ops Q (o :: rest) a w := by
  obtain ⟨i, h1, h2, h3, h4⟩ := info_parts hi
  obtain ⟨xs, r1, r2, r3⟩ := hR
  have hl : xs.length = ps.length := by rw [← r1, List.length_map]
  cases A with
  | none =>
    obtain ⟨rfl, rfl⟩ := hnone rfl
    have hy0 : ys = [] := List.eq_nil_of_length_eq_zero hm.symm
    subst hy0
    refine wpList_append_own_none hgd s x t ho base e i 4 ht h1 v xs.length _ hs r2 hx (h v w ?_ (Keeps.refl _ w))
    exact ⟨xs, by simpa using r1, r2, r3⟩
  | some ad =>
    refine wpList_append_own_at w hgd s x t ho base e i z 4 by' ht h1 h2 h3 h4 hz (by decide) v xs.length _ hs r2 ad m c (pkFlat ys) hx (by rw [pkFlat_len, hm]) (hsrc ad rfl) ?_ (by unfold maxLen; omega) ?_ hbase ?_
    · intro u hu
      simp only [pkFlat, List.mem_flatten, List.mem_map] at hu
      obtain ⟨l, ⟨y, _, rfl⟩, hu⟩ := hu
      simp only [pkCells, List.mem_cons, List.not_mem_nil, or_false] at hu
      rcases hu with rfl | rfl | rfl | rfl <;> rfl
    · have : (xs.length + m) * by' ≤ 1000000 * 100 := Nat.mul_le_mul (by omega) hby
      omega
    intro v' w' g1 g2 _ g4
    have kk : Keeps (fun j => base ≤ j ∧ Typ19 w j e) w w' := Keeps.of_grown g2 fun k hk => ⟨(own_typ19 r2 hk).2, (own_typ19 r2 hk).1⟩
    have kF : ∀ j, base ≤ j ∧ Typ19 w j e → B ≤ j ∧ ∃ t, Typ19 w j t ∧ t ≠ 5 := fun j hj => ⟨Nat.le_trans hBb hj.1, e, hj.2, hne⟩
    refine h v' w' ⟨xs ++ ys, by rw [List.map_append, r1], ?_, fun y hyy => ?_⟩ kk
    · rw [List.length_append, pkFlat_app, ← hm]; exact g1
    · rcases List.mem_append.1 hyy with h5 | h5
      · exact (r3 y h5).keeps kk kF
      · exact (hy y h5).keeps kk kF
end Go.Proofs.YtmgfkdmjgjlkjaaGreat
