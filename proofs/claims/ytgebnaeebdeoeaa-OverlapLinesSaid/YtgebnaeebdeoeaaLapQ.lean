/- What comes of numbers that are folded, turned, unfolded; and of those that are turned twice. Nothing here speaks of the program. -/
import Derived.Test.YtgebnaeebdeoeaaLapP
namespace Go.Proofs.Ytgebnaeebdeoeaa
open Go
set_option linter.unusedVariables false

noncomputable def cosA (n j k : Nat) : Int := cosP (((2 * j + 1) * (2 * k + 1) * (512 / n) : Nat) : Int)
theorem cosA_symm (n j k : Nat) : cosA n j k = cosA n k j := by unfold cosA; rw [Nat.mul_comm (2 * j + 1)]
theorem cosA_abs (n j k : Nat) : (cosA n j k).natAbs ≤ 16777216 := cosP_abs _
/-- Number k ahead of its division. -/
noncomputable def dotF (n : Nat) (u : Nat → Int) (k : Nat) : Int := sumF (fun j => u j * cosA n j k) n
def lossN (n : Nat) : Nat := if n = 128 then 27 else 28
noncomputable def turnF (n : Nat) (u : Nat → Int) (k : Nat) : Int := rndP (dotF n u k) (lossN n)
def foldF (n : Nat) (x : Nat → Int) (i : Nat) : Int := if i < n / 2 then -(x (3 * (n / 2) - 1 - i)) - x (3 * (n / 2) + i) else x (i - n / 2) - x (n - 1 - (i - n / 2))
def unfoldF (n : Nat) (u : Nat → Int) (i : Nat) : Int := if i < n / 2 then u (n / 2 + i) else if i < n then -(u (n / 2 + (n - 1 - i))) else if i < 3 * (n / 2) then -(u (3 * (n / 2) - 1 - i)) else -(u (i - 3 * (n / 2)))

theorem odd_odd (j k : Nat) : ∃ q, (2 * j + 1) * (2 * k + 1) = 2 * q + 1 := ⟨j * (2 * k + 1) + k, by rw [Nat.add_mul, Nat.mul_assoc]; omega⟩
/-- Of one row with another. -/
theorem mat_near {n s u : Nat} (hn : n = 2 ^ s) (hu : u * n = 512) (hun : 512 / n = u) (h4 : u = 1 ∨ u = 4) {i j : Nat} (hi : i < n) (hj : j < n) :
    (2 * sumF (fun k => cosA n j k * cosA n i k) n - if j = i then (n : Int) * 281474976710656 else 0).natAbs ≤ n * 300000000 := by
  have hs : 2 ^ (s + 1) = 2 * n := by rw [Nat.pow_succ, ← hn]; omega
  have hP : sumF (fun k => cosP ((((2 * j + 1) * (2 * k + 1) * u : Nat) : Int) + (((2 * i + 1) * (2 * k + 1) * u : Nat) : Int))) n = 0 := by
    have hz := ring_zero s (2 * (i + j + 1) * u) (i + j + 1) (by rw [← hn, Nat.mul_assoc, hu]; omega) (by rw [hs, Nat.mod_eq_of_lt (by omega)]; omega)
    rw [← hn] at hz
    rw [← hz]
    refine sumF_congr fun k _ => ?_
    congr 1
    rw [← Int.natCast_add, ← Nat.add_mul, ← Nat.add_mul, show 2 * j + 1 + (2 * i + 1) = 2 * (i + j + 1) by omega, Nat.mul_right_comm]
  have hM : sumF (fun k => cosP ((((2 * j + 1) * (2 * k + 1) * u : Nat) : Int) - (((2 * i + 1) * (2 * k + 1) * u : Nat) : Int))) n = if j = i then (n : Int) * 16777216 else 0 := by
    by_cases hji : j = i
    · subst hji
      rw [if_pos rfl, ← sumF_const]
      refine sumF_congr fun k _ => ?_
      rw [Int.sub_self, cosP_zero]
    · rw [if_neg hji]
      have one : ∀ a b : Nat, a < b → b < n → sumF (fun k => cosP ((((2 * b + 1) * (2 * k + 1) * u : Nat) : Int) - (((2 * a + 1) * (2 * k + 1) * u : Nat) : Int))) n = 0 := by
        intro a b hab hb
        have hz := ring_zero s (2 * (b - a) * u) (b - a) (by rw [← hn, Nat.mul_assoc, hu]; omega) (by rw [hs, Nat.mod_eq_of_lt (by omega)]; omega)
        rw [← hn] at hz
        rw [← hz]
        refine sumF_congr fun k _ => ?_
        congr 1
        have e : (2 * b + 1) * (2 * k + 1) * u = 2 * (b - a) * u * (2 * k + 1) + (2 * a + 1) * (2 * k + 1) * u := by
          rw [Nat.mul_right_comm _ u, ← Nat.add_mul, ← Nat.add_mul, show 2 * (b - a) + (2 * a + 1) = 2 * b + 1 by omega]
        omega
      rcases Nat.lt_or_ge i j with h | h
      · exact one i j h hj
      · rw [← one j i (by omega) hi]
        refine sumF_congr fun k _ => ?_
        rw [← cosP_neg]; congr 1; omega
  have hE : (sumF (fun k => 2 * (cosA n j k * cosA n i k) + -16777216 * (cosP ((((2 * j + 1) * (2 * k + 1) * u : Nat) : Int) + (((2 * i + 1) * (2 * k + 1) * u : Nat) : Int)) + cosP ((((2 * j + 1) * (2 * k + 1) * u : Nat) : Int) - (((2 * i + 1) * (2 * k + 1) * u : Nat) : Int)))) n).natAbs ≤ n * 300000000 := by
    refine sumF_abs fun k _ => ?_
    have hp : prodOK (((2 * j + 1) * (2 * k + 1) * u : Nat) : Int) (((2 * i + 1) * (2 * k + 1) * u : Nat) : Int) := by
      obtain ⟨q, hq⟩ := odd_odd j k
      obtain ⟨r, hr⟩ := odd_odd i k
      rcases h4 with rfl | rfl
      · exact prod_odd (by omega) (by omega)
      · exact prod_four (by omega) (by omega)
    unfold prodOK at hp
    unfold cosA
    rw [hun]
    omega
  rw [sumF_add, sumF_mul, sumF_mul, sumF_add, hP, hM] at hE
  by_cases hji : j = i
  · rw [if_pos hji] at hE ⊢; omega
  · rw [if_neg hji] at hE ⊢; omega
/-- Turned twice. -/
theorem turned_twice {n s un R : Nat} (hn : n = 2 ^ s) (hu : un * n = 512) (hun : 512 / n = un) (h4 : un = 1 ∨ un = 4) {u v : Nat → Int} {Q w : Int} {i : Nat} (hi : i < n)
    (hb : ∀ j, j < n → (u j).natAbs ≤ 1048576) (hv : ∀ k, k < n → (Q * v k - dotF n u k).natAbs ≤ R) (hw : (Q * w - dotF n v i).natAbs ≤ R) :
    ∃ A B r : Int, 2 * (Q * (Q * w)) = u i * ((n : Int) * 281474976710656) + A + 2 * B + 2 * (Q * r) ∧ A.natAbs ≤ n * (1048576 * (n * 300000000)) ∧ B.natAbs ≤ n * (R * 16777216) ∧ r.natAbs ≤ R := by
  refine ⟨sumF (fun j => u j * (2 * sumF (fun k => cosA n j k * cosA n i k) n - if j = i then (n : Int) * 281474976710656 else 0)) n, sumF (fun k => (Q * v k - dotF n u k) * cosA n i k) n, Q * w - dotF n v i, ?_, ?_, ?_, hw⟩
  · have e1 : Q * dotF n v i = sumF (fun k => dotF n u k * cosA n i k + (Q * v k - dotF n u k) * cosA n i k) n := by
      unfold dotF
      rw [← sumF_mul]
      refine sumF_congr fun k _ => ?_
      rw [← Int.add_mul, ← Int.mul_assoc, cosA_symm n i k]
      congr 1; omega
    have e2 : sumF (fun k => dotF n u k * cosA n i k) n = sumF (fun j => u j * sumF (fun k => cosA n j k * cosA n i k) n) n := by
      rw [show (fun k => dotF n u k * cosA n i k) = fun k => sumF (fun j => u j * (cosA n j k * cosA n i k)) n from funext fun k => by
        unfold dotF
        rw [← sumF_mulr]
        refine sumF_congr fun j _ => ?_
        rw [Int.mul_assoc]]
      rw [sumF_swap]
      refine sumF_congr fun j _ => ?_
      rw [sumF_mul]
    have e3 : 2 * sumF (fun j => u j * sumF (fun k => cosA n j k * cosA n i k) n) n = u i * ((n : Int) * 281474976710656) + sumF (fun j => u j * (2 * sumF (fun k => cosA n j k * cosA n i k) n - if j = i then (n : Int) * 281474976710656 else 0)) n := by
      have hone : sumF (fun j => u j * if j = i then (n : Int) * 281474976710656 else 0) n = u i * ((n : Int) * 281474976710656) := by
        rw [sumF_one hi fun j _ hji => by rw [if_neg hji, Int.mul_zero], if_pos rfl]
      rw [← hone, ← sumF_add, ← sumF_mul]
      refine sumF_congr fun j _ => ?_
      rw [← Int.mul_add, Int.mul_left_comm]
      congr 1; omega
    rw [sumF_add, e2] at e1
    have e4 : Q * (Q * w) = Q * dotF n v i + Q * (Q * w - dotF n v i) := by rw [← Int.mul_add]; congr 1; omega
    rw [e4, e1, Int.mul_add, Int.mul_add, e3]
  · exact sumF_abs fun j hj => mul_abs (hb j hj) (mat_near hn hu hun h4 hi hj)
  · exact sumF_abs fun k hk => mul_abs (hv k hk) (cosA_abs n i k)
theorem rnd27 (x : Int) : (134217728 * rndP x 27 - x).natAbs ≤ 67108864 := by
  rw [rndP_in (by decide) (by decide), show P2 (27 : Int).toNat = 134217728 by decide]; omega
theorem rnd28 (x : Int) : (268435456 * rndP x 28 - x).natAbs ≤ 134217728 := by
  rw [rndP_in (by decide) (by decide), show P2 (28 : Int).toNat = 268435456 by decide]; omega
theorem turnF_128 (u : Nat → Int) (k : Nat) : turnF 128 u k = rndP (dotF 128 u k) 27 := rfl
theorem turnF_512 (u : Nat → Int) (k : Nat) : turnF 512 u k = rndP (dotF 512 u k) 28 := rfl
theorem dotF_abs {n B : Nat} {u : Nat → Int} (hb : ∀ j, j < n → (u j).natAbs ≤ B) (k : Nat) : (dotF n u k).natAbs ≤ n * (B * 16777216) :=
  sumF_abs fun j hj => mul_abs (hb j hj) (cosA_abs n j k)
theorem turn_again {n : Nat} (hn : n = 128 ∨ n = 512) {u : Nat → Int} (hb : ∀ j, j < n → (u j).natAbs ≤ 1048576) {i : Nat} (hi : i < n) : (turnF n (turnF n u) i - u i).natAbs ≤ 4096 := by
  rcases hn with rfl | rfl
  · obtain ⟨A, B, r, h1, h2, h3, h4⟩ := turned_twice (n := 128) (s := 7) (un := 4) (R := 67108864) (Q := 134217728) (u := u) (v := turnF 128 u) (w := turnF 128 (turnF 128 u) i) (by decide) (by decide) (by decide) (.inr rfl) hi hb (fun k _ => by rw [turnF_128]; exact rnd27 _) (by rw [turnF_128 (turnF 128 u)]; exact rnd27 _)
    generalize turnF 128 (turnF 128 u) i = w at *
    generalize u i = x at *
    omega
  · obtain ⟨A, B, r, h1, h2, h3, h4⟩ := turned_twice (n := 512) (s := 9) (un := 1) (R := 134217728) (Q := 268435456) (u := u) (v := turnF 512 u) (w := turnF 512 (turnF 512 u) i) (by decide) (by decide) (by decide) (.inl rfl) hi hb (fun k _ => by rw [turnF_512]; exact rnd28 _) (by rw [turnF_512 (turnF 512 u)]; exact rnd28 _)
    generalize turnF 512 (turnF 512 u) i = w at *
    generalize u i = x at *
    omega
/-- .. ahead of which no number goes beyond 26 bits. -/
theorem turn_bd {n : Nat} (hn : n = 128 ∨ n = 512) {u : Nat → Int} (hb : ∀ j, j < n → (u j).natAbs ≤ 1048574) (k : Nat) : (turnF n u k).natAbs ≤ 33554431 := by
  have h1 := dotF_abs hb k
  rcases hn with rfl | rfl
  · have h2 := rnd27 (dotF 128 u k)
    rw [turnF_128]; omega
  · have h2 := rnd28 (dotF 512 u k)
    rw [turnF_512]; omega
theorem foldF_abs {n B : Nat} {x : Nat → Int} (h2 : n % 2 = 0) (hb : ∀ j, j < 2 * n → (x j).natAbs ≤ B) {i : Nat} (hi : i < n) : (foldF n x i).natAbs ≤ 2 * B := by
  unfold foldF
  split
  · have a := hb (3 * (n / 2) - 1 - i) (by omega)
    have b := hb (3 * (n / 2) + i) (by omega)
    omega
  · have a := hb (i - n / 2) (by omega)
    have b := hb (n - 1 - (i - n / 2)) (by omega)
    omega
theorem unfoldF_near {n D : Nat} {u v : Nat → Int} (h2 : n % 2 = 0) (h : ∀ j, j < n → (u j - v j).natAbs ≤ D) {i : Nat} (hi : i < 2 * n) : (unfoldF n u i - unfoldF n v i).natAbs ≤ D := by
  unfold unfoldF
  split
  · exact h _ (by omega)
  · split
    · have := h (n / 2 + (n - 1 - i)) (by omega); omega
    · split
      · have := h (3 * (n / 2) - 1 - i) (by omega); omega
      · have := h (i - 3 * (n / 2)) (by omega); omega
theorem turnF_congr {n : Nat} {u v : Nat → Int} (h : ∀ j, j < n → u j = v j) (k : Nat) : turnF n u k = turnF n v k := by
  unfold turnF dotF
  rw [sumF_congr fun j hj => by rw [h j hj]]
theorem satP_26 {x : Int} (h : x.natAbs ≤ 33554431) : satP x 26 = x := satP_self (by decide) (by decide) (by rw [show P2 ((26 : Int).toNat - 1) = 33554432 by decide]; omega) (by rw [show P2 ((26 : Int).toNat - 1) = 33554432 by decide]; omega)
theorem satP_26_bd (x : Int) : -33554432 ≤ satP x 26 ∧ satP x 26 ≤ 33554431 := by
  rw [satP_in (by decide) (by decide), show P2 ((26 : Int).toNat - 1) = 33554432 by decide]
  split
  · omega
  · split <;> omega
/-- What the statement asks of samples of 20 bits. -/
theorem lapped_again {n : Nat} (hn : n = 128 ∨ n = 512) {x : Nat → Int} (hb : ∀ j, j < 2 * n → (x j).natAbs ≤ 524287) {i : Nat} (hi : i < 2 * n) :
    (unfoldF n (turnF n fun k => satP (turnF n (foldF n x) k) 26) i - unfoldF n (foldF n x) i).natAbs ≤ 4096 := by
  have h2 : n % 2 = 0 := by omega
  have hf : ∀ j, j < n → (foldF n x j).natAbs ≤ 1048574 := fun j hj => foldF_abs h2 hb hj
  refine unfoldF_near h2 (fun j hj => ?_) hi
  rw [turnF_congr (v := turnF n (foldF n x)) fun k _ => satP_26 (turn_bd hn hf k)]
  exact turn_again hn (fun j hj => by have := hf j hj; omega) hj
end Go.Proofs.Ytgebnaeebdeoeaa
