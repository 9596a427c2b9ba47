/- Plain facts, and what functions give, for the proofs of this seat: several texts in one, each with its own first remark. -/
import Derived.Test.YtkhhhejmbgloeaaGreatGn

/- Sums of numbers, the products of cosines of odd units as sums, and what comes of numbers that are turned twice. Nothing here speaks of the program. -/
namespace Go.Proofs.YtkhhhejmbgloeaaGreat
open Go
set_option linter.unusedVariables false

/-! ### Sums -/
/-- f 0 and so on, n of them. -/
def sumF (f : Nat → Int) : Nat → Int
  | 0 => 0
  | n + 1 => sumF f n + f n
theorem sumF_zero (f : Nat → Int) : sumF f 0 = 0 := rfl
theorem sumF_succ (f : Nat → Int) (n : Nat) : sumF f (n + 1) = sumF f n + f n := rfl
theorem sumF_congr {f g : Nat → Int} : ∀ {n : Nat}, (∀ j, j < n → f j = g j) → sumF f n = sumF g n
  | 0, _ => rfl
  | n + 1, h => by rw [sumF_succ, sumF_succ, sumF_congr (fun j hj => h j (by omega)), h n (by omega)]
theorem sumF_add (f g : Nat → Int) : ∀ n, sumF (fun j => f j + g j) n = sumF f n + sumF g n
  | 0 => rfl
  | n + 1 => by rw [sumF_succ, sumF_succ, sumF_succ, sumF_add f g n]; omega
theorem sumF_mul (x : Int) (f : Nat → Int) : ∀ n, sumF (fun j => x * f j) n = x * sumF f n
  | 0 => by simp [sumF]
  | n + 1 => by rw [sumF_succ, sumF_succ, sumF_mul x f n, Int.mul_add]
theorem sumF_mulr (x : Int) (f : Nat → Int) : ∀ n, sumF (fun j => f j * x) n = sumF f n * x
  | 0 => by simp [sumF]
  | n + 1 => by rw [sumF_succ, sumF_succ, sumF_mulr x f n, Int.add_mul]
theorem sumF_none : ∀ n, sumF (fun _ => 0) n = 0
  | 0 => rfl
  | n + 1 => by rw [sumF_succ, sumF_none n]; rfl
theorem sumF_const (x : Int) : ∀ n : Nat, sumF (fun _ => x) n = n * x
  | 0 => by simp [sumF]
  | n + 1 => by rw [sumF_succ, sumF_const x n, Int.natCast_add, Int.add_mul]; simp
theorem sumF_swap (f : Nat → Nat → Int) (n : Nat) : ∀ m, sumF (fun i => sumF (fun j => f i j) n) m = sumF (fun j => sumF (fun i => f i j) m) n
  | 0 => by simp only [sumF_zero]; rw [sumF_none]
  | m + 1 => by rw [sumF_succ, sumF_swap f n m, ← sumF_add]; rfl
theorem sumF_split (f : Nat → Int) (m : Nat) : ∀ n, sumF f (m + n) = sumF f m + sumF (fun k => f (m + k)) n
  | 0 => by simp [sumF]
  | n + 1 => by rw [← Nat.add_assoc, sumF_succ, sumF_succ, sumF_split f m n]; omega
theorem sumF_front (f : Nat → Int) (n : Nat) : sumF f (n + 1) = f 0 + sumF (fun k => f (k + 1)) n := by
  have := sumF_split f 1 n
  rw [Nat.add_comm 1 n] at this
  rw [this]
  simp [sumF, Nat.add_comm]
theorem sumF_rev : ∀ (n : Nat) (f : Nat → Int), sumF (fun k => f (n - 1 - k)) n = sumF f n
  | 0, f => rfl
  | n + 1, f => by
    rw [sumF_succ, sumF_front]
    have := sumF_rev n fun k => f (k + 1)
    rw [← this, Int.add_comm]
    congr 1
    · congr 1; omega
    · refine sumF_congr fun j hj => ?_
      show f (n + 1 - 1 - j) = f (n - 1 - j + 1)
      congr 1; omega
theorem sumF_abs {f : Nat → Int} {B : Nat} : ∀ {n : Nat}, (∀ j, j < n → (f j).natAbs ≤ B) → (sumF f n).natAbs ≤ n * B
  | 0, _ => by simp [sumF]
  | n + 1, h => by
    have h1 := sumF_abs (n := n) fun j hj => h j (by omega)
    have h2 := h n (by omega)
    rw [sumF_succ, Nat.add_mul, Nat.one_mul]
    omega
theorem sumF_one {f : Nat → Int} {i : Nat} : ∀ {n : Nat}, i < n → (∀ j, j < n → j ≠ i → f j = 0) → sumF f n = f i
  | 0, h, _ => by omega
  | n + 1, h, hz => by
    rw [sumF_succ]
    by_cases e : i = n
    · subst e
      rw [sumF_congr (g := fun _ => 0) fun j hj => hz j (by omega) (by omega), sumF_none]; omega
    · rw [sumF_one (n := n) (by omega) fun j hj hji => hz j (by omega) hji, hz n (by omega) (by omega)]; omega
theorem mul_abs {a b : Int} {A B : Nat} (ha : a.natAbs ≤ A) (hb : b.natAbs ≤ B) : (a * b).natAbs ≤ A * B := by
  rw [Int.natAbs_mul]; exact Nat.mul_le_mul ha hb

/-! ### Products of cosines -/
theorem cosP_mod {a b : Int} (h : a % 4096 = b % 4096) : cosP a = cosP b := by rw [cosP_q, cosP_q]; unfold cosQ; simp only [h]
theorem cosP_abs (a : Int) : (cosP a).natAbs ≤ 16777216 := by have := cosP_bd a; omega
theorem cosP_zero : cosP 0 = 16777216 := by rw [cosP_q, cosQ_in (n := 0) (by decide) (by decide), cosN_first]
/-- Twice the product is the sum of both, but for a little. -/
def prodOK (a b : Int) : Prop := (2 * (cosP a * cosP b) - 16777216 * (cosP (a + b) + cosP (a - b))).natAbs ≤ 300000000
section
variable {a b c : Int}
theorem prodOK_symm (h : prodOK a b) : prodOK b a := by
  unfold prodOK at *
  rw [Int.mul_comm (cosP b), Int.add_comm b a, show b - a = -(a - b) by omega, cosP_neg]; exact h
theorem prodOK_neg (h : prodOK a b) : prodOK (-a) b := by
  unfold prodOK at *
  rw [cosP_neg, show -a + b = -(a - b) by omega, show -a - b = -(a + b) by omega, cosP_neg, cosP_neg, Int.add_comm (cosP (a - b))]; exact h
theorem prodOK_half (h : prodOK a b) : prodOK (a + 2048) b := by
  unfold prodOK at *
  rw [cosP_half, show a + 2048 + b = a + b + 2048 by omega, show a + 2048 - b = a - b + 2048 by omega, cosP_half, cosP_half, Int.neg_mul]; omega
theorem prodOK_mod (h : prodOK a b) (e : a % 4096 = c % 4096) : prodOK c b := by
  unfold prodOK at *
  rw [← cosP_mod e, ← cosP_mod (show (a + b) % 4096 = (c + b) % 4096 by omega), ← cosP_mod (show (a - b) % 4096 = (c - b) % 4096 by omega)]; exact h
theorem prodOK_ext {n : Int} (h : prodOK n b) (e : a % 4096 = n ∨ a % 4096 = 2048 - n ∨ a % 4096 = 2048 + n ∨ a % 4096 = 4096 - n) : prodOK a b := by
  rcases e with e | e | e | e
  · exact prodOK_mod h (by omega)
  · exact prodOK_mod (prodOK_half (prodOK_neg h)) (by omega)
  · exact prodOK_mod (prodOK_half h) (by omega)
  · exact prodOK_mod (prodOK_neg h) (by omega)
end
theorem pairsOK_next (T : Nat → Nat → Nat → Nat → Bool) (b x m p : Nat) (xs ms ps : List Nat) : pairsOK T b (x :: xs) (m :: ms) (p :: ps) = @Bool.rec (fun _ => Bool) false (pairsOK T b xs ms ps) (T b x m p) := rfl
theorem pairsAll_next (T : Nat → Nat → Nat → Nat → Bool) (L : List Nat) (x q r : Nat) (xs ps : List Nat) : pairsAll T L (x :: xs) (q :: r :: ps) = @Bool.rec (fun _ => Bool) false (pairsAll T L xs ps) (pairsOK T x (x :: xs) L (r :: ps)) := rfl
theorem both_true {x y : Bool} (h : @Bool.rec (fun _ => Bool) false y x = true) : x = true ∧ y = true := by
  cases x with
  | false => cases h
  | true => exact ⟨rfl, h⟩
theorem pairT_is {c d x y b a m p : Nat} (h : pairT c d x y b a m p = true) : 2 * b * a + x ≤ c * (p + m) + d ∧ c * (p + m) ≤ 2 * b * a + y := by
  unfold pairT at h
  obtain ⟨e1, e2⟩ := both_true h
  exact ⟨Nat.le_of_ble_eq_true e1, Nat.le_of_ble_eq_true e2⟩
theorem pairsOK_at {T : Nat → Nat → Nat → Nat → Bool} {b : Nat} {l : List Nat} : ∀ {ms ps : List Nat}, pairsOK T b l ms ps = true → ∀ {i a : Nat}, l[i]? = some a → ∃ m p, ms[i]? = some m ∧ ps[i]? = some p ∧ T b a m p = true := by
  induction l with
  | nil => intro ms ps h i a hi; simp at hi
  | cons x xs ih =>
    intro ms ps h i a hi
    cases ms with
    | nil => have h' : false = true := h; cases h'
    | cons m ms =>
      cases ps with
      | nil => have h' : false = true := h; cases h'
      | cons p ps =>
        rw [pairsOK_next] at h
        obtain ⟨e1, h⟩ := both_true h
        cases i with
        | zero =>
          obtain rfl : x = a := by simpa using hi
          exact ⟨m, p, rfl, rfl, e1⟩
        | succ i =>
          rw [List.getElem?_cons_succ] at hi
          obtain ⟨m', p', h1, h2, h3⟩ := ih h hi
          exact ⟨m', p', by rw [List.getElem?_cons_succ]; exact h1, by rw [List.getElem?_cons_succ]; exact h2, h3⟩
theorem pairsAll_at {T : Nat → Nat → Nat → Nat → Bool} {L : List Nat} {l : List Nat} : ∀ {ps : List Nat}, pairsAll T L l ps = true → ∀ {j i b a : Nat}, l[j]? = some b → l[j + i]? = some a → ∃ m p, L[i]? = some m ∧ ps[2 * j + 1 + i]? = some p ∧ T b a m p = true := by
  induction l with
  | nil => intro ps h j i b a hj; simp at hj
  | cons x xs ih =>
    intro ps h j i b a hj hi
    cases ps with
    | nil => have h' : false = true := h; cases h'
    | cons q ps =>
      cases ps with
      | nil => have h' : false = true := h; cases h'
      | cons r ps =>
        rw [pairsAll_next] at h
        obtain ⟨e1, h⟩ := both_true h
        cases j with
        | zero =>
          obtain rfl : x = b := by simpa using hj
          rw [Nat.zero_add] at hi
          obtain ⟨m, p, h1, h2, h3⟩ := pairsOK_at e1 hi
          exact ⟨m, p, h1, by rw [show 2 * 0 + 1 + i = i + 1 by omega, List.getElem?_cons_succ]; exact h2, h3⟩
        | succ j =>
          rw [List.getElem?_cons_succ] at hj
          rw [show j + 1 + i = (j + i) + 1 by omega, List.getElem?_cons_succ] at hi
          obtain ⟨m, p, h1, h2, h3⟩ := ih h hj hi
          exact ⟨m, p, h1, by rw [show 2 * (j + 1) + 1 + i = (2 * j + 1 + i) + 1 + 1 by omega, List.getElem?_cons_succ, List.getElem?_cons_succ]; exact h2, h3⟩
def halfI (h : Nat) : Int := if h ≤ 1024 then cosN h else -(cosN (2048 - h))
theorem halfI_cos {h : Nat} (hh : h ≤ 2048) : cosP (h : Int) = halfI h := by
  rw [cosP_q]
  unfold halfI
  split
  · exact cosQ_in (n := h) (by omega) (by omega)
  · exact cosQ_2 (n := 2048 - h) (by omega) (by omega)
theorem halfI_bd {h : Nat} (hh : h ≤ 2048) : -16777216 ≤ halfI h := by rw [← halfI_cos hh]; exact (cosP_bd _).1
set_option maxRecDepth 100000 in
theorem odd1_is : odd1 = (List.range 512).map fun i => (cosN (2 * i + 1)).toNat := by decide +kernel
set_option maxRecDepth 100000 in
theorem odd4_is : odd4 = (List.range 128).map fun i => (cosN (4 * (2 * i + 1))).toNat := by decide +kernel
set_option maxRecDepth 100000 in
theorem even1_is : even1 = (List.range 1025).map fun i => (halfI (2 * i) + 16777216).toNat := by decide +kernel
set_option maxRecDepth 100000 in
theorem even4_is : even4 = (List.range 257).map fun i => (halfI (8 * i) + 16777216).toNat := by decide +kernel
/-- One pair of the table. -/
theorem pair_of {A B S D : Int} {a b p m : Nat} (hA : A = a) (hB : B = b) (hp : S + 16777216 = p) (hm : D + 16777216 = m)
    (h1 : 2 * b * a + 562949953421312 ≤ 16777216 * (p + m) + 300000000) (h2 : 16777216 * (p + m) ≤ 2 * b * a + 562950253421312) : (2 * (A * B) - 16777216 * (S + D)).natAbs ≤ 300000000 := by
  have e : ((2 * b * a : Nat) : Int) = 2 * (A * B) := by rw [hA, hB]; rw [Int.natCast_mul, Int.natCast_mul, Int.mul_assoc, Int.mul_comm (b : Int)]; rfl
  generalize 2 * b * a = X at *
  omega
theorem prod1 {i j : Nat} (hj : j ≤ i) (hi : i < 512) : prodOK ((2 * i + 1 : Nat) : Int) ((2 * j + 1 : Nat) : Int) := by
  have ha : odd1[i]? = some (cosN (2 * i + 1)).toNat := by rw [odd1_is]; simp [hi]
  have hb : odd1[j]? = some (cosN (2 * j + 1)).toNat := by rw [odd1_is]; simp [show j < 512 by omega]
  obtain ⟨m, p, h1, h2, h3⟩ := pairsAll_at pairs_1 (j := j) (i := i - j) hb (by rw [show j + (i - j) = i by omega]; exact ha)
  obtain ⟨h3, h4⟩ := pairT_is h3
  rw [show 2 * j + 1 + (i - j) = i + j + 1 by omega] at h2
  rw [even1_is] at h1 h2
  have h1 : (halfI (2 * (i - j)) + 16777216).toNat = m := by simpa [show i - j < 1025 by omega] using h1
  have h2 : (halfI (2 * (i + j + 1)) + 16777216).toNat = p := by simpa [show i + j + 1 < 1025 by omega] using h2
  have c1 := halfI_bd (h := 2 * (i - j)) (by omega)
  have c2 := halfI_bd (h := 2 * (i + j + 1)) (by omega)
  have d1 := (cosN_bd (i := 2 * i + 1) (by omega)).1
  have d2 := (cosN_bd (i := 2 * j + 1) (by omega)).1
  have e1 := halfI_cos (h := 2 * i + 1) (by omega)
  have e2 := halfI_cos (h := 2 * j + 1) (by omega)
  have e3 := halfI_cos (h := 2 * (i - j)) (by omega)
  have e4 := halfI_cos (h := 2 * (i + j + 1)) (by omega)
  have f1 : halfI (2 * i + 1) = cosN (2 * i + 1) := if_pos (by omega)
  have f2 : halfI (2 * j + 1) = cosN (2 * j + 1) := if_pos (by omega)
  unfold prodOK
  rw [show ((2 * i + 1 : Nat) : Int) + ((2 * j + 1 : Nat) : Int) = ((2 * (i + j + 1) : Nat) : Int) by omega, show ((2 * i + 1 : Nat) : Int) - ((2 * j + 1 : Nat) : Int) = ((2 * (i - j) : Nat) : Int) by omega, e1, e2, e3, e4, f1, f2]
  exact pair_of (by omega) (by omega) (by omega) (by omega) h3 h4
theorem prod4 {i j : Nat} (hj : j ≤ i) (hi : i < 128) : prodOK ((4 * (2 * i + 1) : Nat) : Int) ((4 * (2 * j + 1) : Nat) : Int) := by
  have ha : odd4[i]? = some (cosN (4 * (2 * i + 1))).toNat := by rw [odd4_is]; simp [hi]
  have hb : odd4[j]? = some (cosN (4 * (2 * j + 1))).toNat := by rw [odd4_is]; simp [show j < 128 by omega]
  obtain ⟨m, p, h1, h2, h3⟩ := pairsAll_at pairs_4 (j := j) (i := i - j) hb (by rw [show j + (i - j) = i by omega]; exact ha)
  obtain ⟨h3, h4⟩ := pairT_is h3
  rw [show 2 * j + 1 + (i - j) = i + j + 1 by omega] at h2
  rw [even4_is] at h1 h2
  have h1 : (halfI (8 * (i - j)) + 16777216).toNat = m := by simpa [show i - j < 257 by omega] using h1
  have h2 : (halfI (8 * (i + j + 1)) + 16777216).toNat = p := by simpa [show i + j + 1 < 257 by omega] using h2
  have c1 := halfI_bd (h := 8 * (i - j)) (by omega)
  have c2 := halfI_bd (h := 8 * (i + j + 1)) (by omega)
  have d1 := (cosN_bd (i := 4 * (2 * i + 1)) (by omega)).1
  have d2 := (cosN_bd (i := 4 * (2 * j + 1)) (by omega)).1
  have e1 := halfI_cos (h := 4 * (2 * i + 1)) (by omega)
  have e2 := halfI_cos (h := 4 * (2 * j + 1)) (by omega)
  have e3 := halfI_cos (h := 8 * (i - j)) (by omega)
  have e4 := halfI_cos (h := 8 * (i + j + 1)) (by omega)
  have f1 : halfI (4 * (2 * i + 1)) = cosN (4 * (2 * i + 1)) := if_pos (by omega)
  have f2 : halfI (4 * (2 * j + 1)) = cosN (4 * (2 * j + 1)) := if_pos (by omega)
  unfold prodOK
  rw [show ((4 * (2 * i + 1) : Nat) : Int) + ((4 * (2 * j + 1) : Nat) : Int) = ((8 * (i + j + 1) : Nat) : Int) by omega, show ((4 * (2 * i + 1) : Nat) : Int) - ((4 * (2 * j + 1) : Nat) : Int) = ((8 * (i - j) : Nat) : Int) by omega, e1, e2, e3, e4, f1, f2]
  exact pair_of (by omega) (by omega) (by omega) (by omega) h3 h4
theorem circle_four (a : Int) : ∃ n : Nat, n ≤ 1024 ∧ (a % 4096 = n ∨ a % 4096 = 2048 - n ∨ a % 4096 = 2048 + n ∨ a % 4096 = 4096 - n) := by
  rcases circle_at a with ⟨n, h, l⟩ | ⟨n, h, l⟩ | ⟨n, h, l0, l⟩ | ⟨n, h, l0, l⟩
  · exact ⟨n, by omega, .inl h⟩
  · exact ⟨n, by omega, .inr (.inl h)⟩
  · exact ⟨n, by omega, .inr (.inr (.inl h))⟩
  · exact ⟨n, by omega, .inr (.inr (.inr h))⟩
theorem prod_odd {a b : Int} (ha : a % 2 = 1) (hb : b % 2 = 1) : prodOK a b := by
  obtain ⟨n, hn, en⟩ := circle_four a
  obtain ⟨m, hm, em⟩ := circle_four b
  obtain ⟨i, rfl⟩ : ∃ i, n = 2 * i + 1 := ⟨n / 2, by omega⟩
  obtain ⟨j, rfl⟩ : ∃ j, m = 2 * j + 1 := ⟨m / 2, by omega⟩
  refine prodOK_ext (prodOK_symm (prodOK_ext ?_ em)) en
  rcases Nat.le_total i j with h | h
  · exact prod1 h (by omega)
  · exact prodOK_symm (prod1 h (by omega))
theorem prod_four {a b : Int} (ha : a % 8 = 4) (hb : b % 8 = 4) : prodOK a b := by
  obtain ⟨n, hn, en⟩ := circle_four a
  obtain ⟨m, hm, em⟩ := circle_four b
  obtain ⟨i, rfl⟩ : ∃ i, n = 4 * (2 * i + 1) := ⟨n / 8, by omega⟩
  obtain ⟨j, rfl⟩ : ∃ j, m = 4 * (2 * j + 1) := ⟨m / 8, by omega⟩
  refine prodOK_ext (prodOK_symm (prodOK_ext ?_ em)) en
  rcases Nat.le_total i j with h | h
  · exact prod4 h (by omega)
  · exact prodOK_symm (prod4 h (by omega))

/-! ### Cosines about the circle come to nought -/
theorem cosP_turns (m : Nat) (x : Int) (h : m % 2 = 0) : cosP (2048 * m + x) = cosP x := cosP_mod (by omega)
theorem cosP_turns1 (m : Nat) (x : Int) (h : m % 2 = 1) : cosP (2048 * m + x) = -(cosP x) := by
  rw [← cosP_half]; exact cosP_mod (by omega)
theorem ring_zero : ∀ (s t m : Nat), t * 2 ^ s = 1024 * m → m % 2 ^ (s + 1) ≠ 0 → sumF (fun k => cosP ((t * (2 * k + 1) : Nat) : Int)) (2 ^ s) = 0
  | 0, t, m, ht, hm => by
    have h1 : m % 2 = 1 := by simp at hm; omega
    have h2 := cosP_turns1 m (-(t : Int)) h1
    rw [cosP_neg, show (2048 : Int) * m + -(t : Int) = t by omega] at h2
    simp only [Nat.pow_zero, sumF_succ, sumF_zero, Nat.mul_zero, Nat.zero_add, Nat.mul_one]
    omega
  | s + 1, t, m, ht, hm => by
    have hp : 2 ^ (s + 1) = 2 ^ s + 2 ^ s := by rw [Nat.pow_succ]; omega
    by_cases hodd : m % 2 = 1
    · have hr := sumF_rev (2 ^ (s + 1)) (fun k => cosP ((t * (2 * k + 1) : Nat) : Int))
      have hc : sumF (fun k => cosP ((t * (2 * (2 ^ (s + 1) - 1 - k) + 1) : Nat) : Int)) (2 ^ (s + 1)) = sumF (fun k => -1 * cosP ((t * (2 * k + 1) : Nat) : Int)) (2 ^ (s + 1)) := by
        refine sumF_congr fun k hk => ?_
        have e : t * (2 * (2 ^ (s + 1) - 1 - k) + 1) + t * (2 * k + 1) = 2048 * m := by
          rw [← Nat.mul_add, show 2 * (2 ^ (s + 1) - 1 - k) + 1 + (2 * k + 1) = 2 ^ (s + 1) * 2 by omega, ← Nat.mul_assoc, ht]; omega
        generalize t * (2 * (2 ^ (s + 1) - 1 - k) + 1) = X at e ⊢
        generalize t * (2 * k + 1) = Y at e ⊢
        have h2 := cosP_turns1 m (-(Y : Int)) hodd
        rw [cosP_neg, show (2048 : Int) * m + -(Y : Int) = X by omega] at h2
        rw [h2]; omega
      rw [hc, sumF_mul] at hr
      omega
    · obtain ⟨q, rfl⟩ : ∃ q, m = 2 * q := ⟨m / 2, by omega⟩
      have ht' : t * 2 ^ s = 1024 * q := by rw [hp, Nat.mul_add] at ht; omega
      have hq : q % 2 ^ (s + 1) ≠ 0 := by
        intro c
        apply hm
        rw [Nat.pow_succ, Nat.mul_comm (2 ^ (s + 1)) 2, Nat.mul_mod_mul_left, c]
      have ih := ring_zero s t q ht' hq
      rw [hp, sumF_split, ih]
      have hc : sumF (fun k => cosP ((t * (2 * (2 ^ s + k) + 1) : Nat) : Int)) (2 ^ s) = sumF (fun k => (if q % 2 = 0 then 1 else -1) * cosP ((t * (2 * k + 1) : Nat) : Int)) (2 ^ s) := by
        refine sumF_congr fun k hk => ?_
        have e : t * (2 * (2 ^ s + k) + 1) = 2048 * q + t * (2 * k + 1) := by
          rw [show 2 * (2 ^ s + k) + 1 = 2 ^ s * 2 + (2 * k + 1) by omega, Nat.mul_add, ← Nat.mul_assoc, ht']; omega
        rw [e]
        generalize t * (2 * k + 1) = Y
        rw [show ((2048 * q + Y : Nat) : Int) = 2048 * (q : Int) + Y by omega]
        by_cases h0 : q % 2 = 0
        · rw [cosP_turns q _ h0, if_pos h0]; omega
        · rw [cosP_turns1 q _ (by omega), if_neg h0]; omega
      rw [hc, sumF_mul, ih]; simp
end Go.Proofs.YtkhhhejmbgloeaaGreat

/- What comes of numbers that are folded, turned, unfolded; and of those that are turned twice. Nothing here speaks of the program. -/
namespace Go.Proofs.YtkhhhejmbgloeaaGreat
open Go
set_option linter.unusedVariables false

noncomputable def cosA (n j k : Nat) : Int := cosP (((2 * j + 1) * (2 * k + 1) * (512 / n) : Nat) : Int)
theorem cosA_symm (n j k : Nat) : cosA n j k = cosA n k j := by unfold cosA; rw [Nat.mul_comm (2 * j + 1)]
theorem cosA_abs (n j k : Nat) : (cosA n j k).natAbs ≤ 16777216 := cosP_abs _
/-- Number k ahead of its division. -/
noncomputable def dotF (n : Nat) (u : Nat → Int) (k : Nat) : Int := sumF (fun j => u j * cosA n j k) n
def lossN (n : Nat) : Nat := if n = 128 then 27 else 28
noncomputable def turnF (n : Nat) (u : Nat → Int) (k : Nat) : Int := rndP (dotF n u k) (lossN n)
def foldF (n : Nat) (x : Nat → Int) (i : Nat) : Int := if i < n / 2 then -(x (3 * (n / 2) - 1 - i)) - x (3 * (n / 2) + i) else x (i - n / 2) - x (n - 1 - (i - n / 2))
def unfoldF (n : Nat) (u : Nat → Int) (i : Nat) : Int := if i < n / 2 then u (n / 2 + i) else if i < n then -(u (n / 2 + (n - 1 - i))) else if i < 3 * (n / 2) then -(u (3 * (n / 2) - 1 - i)) else -(u (i - 3 * (n / 2)))

theorem odd_odd (j k : Nat) : ∃ q, (2 * j + 1) * (2 * k + 1) = 2 * q + 1 := ⟨j * (2 * k + 1) + k, by rw [Nat.add_mul, Nat.mul_assoc]; omega⟩
/-- Of one row with another. -/
theorem mat_near {n s u : Nat} (hn : n = 2 ^ s) (hu : u * n = 512) (hun : 512 / n = u) (h4 : u = 1 ∨ u = 4) {i j : Nat} (hi : i < n) (hj : j < n) :
    (2 * sumF (fun k => cosA n j k * cosA n i k) n - if j = i then (n : Int) * 281474976710656 else 0).natAbs ≤ n * 300000000 := by
  have hs : 2 ^ (s + 1) = 2 * n := by rw [Nat.pow_succ, ← hn]; omega
  have hP : sumF (fun k => cosP ((((2 * j + 1) * (2 * k + 1) * u : Nat) : Int) + (((2 * i + 1) * (2 * k + 1) * u : Nat) : Int))) n = 0 := by
    have hz := ring_zero s (2 * (i + j + 1) * u) (i + j + 1) (by rw [← hn, Nat.mul_assoc, hu]; omega) (by rw [hs, Nat.mod_eq_of_lt (by omega)]; omega)
    rw [← hn] at hz
    rw [← hz]
    refine sumF_congr fun k _ => ?_
    congr 1
    rw [← Int.natCast_add, ← Nat.add_mul, ← Nat.add_mul, show 2 * j + 1 + (2 * i + 1) = 2 * (i + j + 1) by omega, Nat.mul_right_comm]
  have hM : sumF (fun k => cosP ((((2 * j + 1) * (2 * k + 1) * u : Nat) : Int) - (((2 * i + 1) * (2 * k + 1) * u : Nat) : Int))) n = if j = i then (n : Int) * 16777216 else 0 := by
    by_cases hji : j = i
    · subst hji
      rw [if_pos rfl, ← sumF_const]
      refine sumF_congr fun k _ => ?_
      rw [Int.sub_self, cosP_zero]
    · rw [if_neg hji]
      have one : ∀ a b : Nat, a < b → b < n → sumF (fun k => cosP ((((2 * b + 1) * (2 * k + 1) * u : Nat) : Int) - (((2 * a + 1) * (2 * k + 1) * u : Nat) : Int))) n = 0 := by
        intro a b hab hb
        have hz := ring_zero s (2 * (b - a) * u) (b - a) (by rw [← hn, Nat.mul_assoc, hu]; omega) (by rw [hs, Nat.mod_eq_of_lt (by omega)]; omega)
        rw [← hn] at hz
        rw [← hz]
        refine sumF_congr fun k _ => ?_
        congr 1
        have e : (2 * b + 1) * (2 * k + 1) * u = 2 * (b - a) * u * (2 * k + 1) + (2 * a + 1) * (2 * k + 1) * u := by
          rw [Nat.mul_right_comm _ u, ← Nat.add_mul, ← Nat.add_mul, show 2 * (b - a) + (2 * a + 1) = 2 * b + 1 by omega]
        omega
      rcases Nat.lt_or_ge i j with h | h
      · exact one i j h hj
      · rw [← one j i (by omega) hi]
        refine sumF_congr fun k _ => ?_
        rw [← cosP_neg]; congr 1; omega
  have hE : (sumF (fun k => 2 * (cosA n j k * cosA n i k) + -16777216 * (cosP ((((2 * j + 1) * (2 * k + 1) * u : Nat) : Int) + (((2 * i + 1) * (2 * k + 1) * u : Nat) : Int)) + cosP ((((2 * j + 1) * (2 * k + 1) * u : Nat) : Int) - (((2 * i + 1) * (2 * k + 1) * u : Nat) : Int)))) n).natAbs ≤ n * 300000000 := by
    refine sumF_abs fun k _ => ?_
    have hp : prodOK (((2 * j + 1) * (2 * k + 1) * u : Nat) : Int) (((2 * i + 1) * (2 * k + 1) * u : Nat) : Int) := by
      obtain ⟨q, hq⟩ := odd_odd j k
      obtain ⟨r, hr⟩ := odd_odd i k
      rcases h4 with rfl | rfl
      · exact prod_odd (by omega) (by omega)
      · exact prod_four (by omega) (by omega)
    unfold prodOK at hp
    unfold cosA
    rw [hun]
    omega
  rw [sumF_add, sumF_mul, sumF_mul, sumF_add, hP, hM] at hE
  by_cases hji : j = i
  · rw [if_pos hji] at hE ⊢; omega
  · rw [if_neg hji] at hE ⊢; omega
/-- Turned twice. -/
theorem turned_twice {n s un R : Nat} (hn : n = 2 ^ s) (hu : un * n = 512) (hun : 512 / n = un) (h4 : un = 1 ∨ un = 4) {u v : Nat → Int} {Q w : Int} {i : Nat} (hi : i < n)
    (hb : ∀ j, j < n → (u j).natAbs ≤ 1048576) (hv : ∀ k, k < n → (Q * v k - dotF n u k).natAbs ≤ R) (hw : (Q * w - dotF n v i).natAbs ≤ R) :
    ∃ A B r : Int, 2 * (Q * (Q * w)) = u i * ((n : Int) * 281474976710656) + A + 2 * B + 2 * (Q * r) ∧ A.natAbs ≤ n * (1048576 * (n * 300000000)) ∧ B.natAbs ≤ n * (R * 16777216) ∧ r.natAbs ≤ R := by
  refine ⟨sumF (fun j => u j * (2 * sumF (fun k => cosA n j k * cosA n i k) n - if j = i then (n : Int) * 281474976710656 else 0)) n, sumF (fun k => (Q * v k - dotF n u k) * cosA n i k) n, Q * w - dotF n v i, ?_, ?_, ?_, hw⟩
  · have e1 : Q * dotF n v i = sumF (fun k => dotF n u k * cosA n i k + (Q * v k - dotF n u k) * cosA n i k) n := by
      unfold dotF
      rw [← sumF_mul]
      refine sumF_congr fun k _ => ?_
      rw [← Int.add_mul, ← Int.mul_assoc, cosA_symm n i k]
      congr 1; omega
    have e2 : sumF (fun k => dotF n u k * cosA n i k) n = sumF (fun j => u j * sumF (fun k => cosA n j k * cosA n i k) n) n := by
      rw [show (fun k => dotF n u k * cosA n i k) = fun k => sumF (fun j => u j * (cosA n j k * cosA n i k)) n from funext fun k => by
        unfold dotF
        rw [← sumF_mulr]
        refine sumF_congr fun j _ => ?_
        rw [Int.mul_assoc]]
      rw [sumF_swap]
      refine sumF_congr fun j _ => ?_
      rw [sumF_mul]
    have e3 : 2 * sumF (fun j => u j * sumF (fun k => cosA n j k * cosA n i k) n) n = u i * ((n : Int) * 281474976710656) + sumF (fun j => u j * (2 * sumF (fun k => cosA n j k * cosA n i k) n - if j = i then (n : Int) * 281474976710656 else 0)) n := by
      have hone : sumF (fun j => u j * if j = i then (n : Int) * 281474976710656 else 0) n = u i * ((n : Int) * 281474976710656) := by
        rw [sumF_one hi fun j _ hji => by rw [if_neg hji, Int.mul_zero], if_pos rfl]
      rw [← hone, ← sumF_add, ← sumF_mul]
      refine sumF_congr fun j _ => ?_
      rw [← Int.mul_add, Int.mul_left_comm]
      congr 1; omega
    rw [sumF_add, e2] at e1
    have e4 : Q * (Q * w) = Q * dotF n v i + Q * (Q * w - dotF n v i) := by rw [← Int.mul_add]; congr 1; omega
    rw [e4, e1, Int.mul_add, Int.mul_add, e3]
  · exact sumF_abs fun j hj => mul_abs (hb j hj) (mat_near hn hu hun h4 hi hj)
  · exact sumF_abs fun k hk => mul_abs (hv k hk) (cosA_abs n i k)
theorem rnd27 (x : Int) : (134217728 * rndP x 27 - x).natAbs ≤ 67108864 := by
  rw [rndP_in (by decide) (by decide), show P2 (27 : Int).toNat = 134217728 by decide]; omega
theorem rnd28 (x : Int) : (268435456 * rndP x 28 - x).natAbs ≤ 134217728 := by
  rw [rndP_in (by decide) (by decide), show P2 (28 : Int).toNat = 268435456 by decide]; omega
theorem turnF_128 (u : Nat → Int) (k : Nat) : turnF 128 u k = rndP (dotF 128 u k) 27 := rfl
theorem turnF_512 (u : Nat → Int) (k : Nat) : turnF 512 u k = rndP (dotF 512 u k) 28 := rfl
theorem dotF_abs {n B : Nat} {u : Nat → Int} (hb : ∀ j, j < n → (u j).natAbs ≤ B) (k : Nat) : (dotF n u k).natAbs ≤ n * (B * 16777216) :=
  sumF_abs fun j hj => mul_abs (hb j hj) (cosA_abs n j k)
theorem turn_again {n : Nat} (hn : n = 128 ∨ n = 512) {u : Nat → Int} (hb : ∀ j, j < n → (u j).natAbs ≤ 1048576) {i : Nat} (hi : i < n) : (turnF n (turnF n u) i - u i).natAbs ≤ 4096 := by
  rcases hn with rfl | rfl
  · obtain ⟨A, B, r, h1, h2, h3, h4⟩ := turned_twice (n := 128) (s := 7) (un := 4) (R := 67108864) (Q := 134217728) (u := u) (v := turnF 128 u) (w := turnF 128 (turnF 128 u) i) (by decide) (by decide) (by decide) (.inr rfl) hi hb (fun k _ => by rw [turnF_128]; exact rnd27 _) (by rw [turnF_128 (turnF 128 u)]; exact rnd27 _)
    generalize turnF 128 (turnF 128 u) i = w at *
    generalize u i = x at *
    omega
  · obtain ⟨A, B, r, h1, h2, h3, h4⟩ := turned_twice (n := 512) (s := 9) (un := 1) (R := 134217728) (Q := 268435456) (u := u) (v := turnF 512 u) (w := turnF 512 (turnF 512 u) i) (by decide) (by decide) (by decide) (.inl rfl) hi hb (fun k _ => by rw [turnF_512]; exact rnd28 _) (by rw [turnF_512 (turnF 512 u)]; exact rnd28 _)
    generalize turnF 512 (turnF 512 u) i = w at *
    generalize u i = x at *
    omega
/-- .. ahead of which no number goes beyond 26 bits. -/
theorem turn_bd {n : Nat} (hn : n = 128 ∨ n = 512) {u : Nat → Int} (hb : ∀ j, j < n → (u j).natAbs ≤ 1048574) (k : Nat) : (turnF n u k).natAbs ≤ 33554431 := by
  have h1 := dotF_abs hb k
  rcases hn with rfl | rfl
  · have h2 := rnd27 (dotF 128 u k)
    rw [turnF_128]; omega
  · have h2 := rnd28 (dotF 512 u k)
    rw [turnF_512]; omega
theorem foldF_abs {n B : Nat} {x : Nat → Int} (h2 : n % 2 = 0) (hb : ∀ j, j < 2 * n → (x j).natAbs ≤ B) {i : Nat} (hi : i < n) : (foldF n x i).natAbs ≤ 2 * B := by
  unfold foldF
  split
  · have a := hb (3 * (n / 2) - 1 - i) (by omega)
    have b := hb (3 * (n / 2) + i) (by omega)
    omega
  · have a := hb (i - n / 2) (by omega)
    have b := hb (n - 1 - (i - n / 2)) (by omega)
    omega
theorem unfoldF_near {n D : Nat} {u v : Nat → Int} (h2 : n % 2 = 0) (h : ∀ j, j < n → (u j - v j).natAbs ≤ D) {i : Nat} (hi : i < 2 * n) : (unfoldF n u i - unfoldF n v i).natAbs ≤ D := by
  unfold unfoldF
  split
  · exact h _ (by omega)
  · split
    · have := h (n / 2 + (n - 1 - i)) (by omega); omega
    · split
      · have := h (3 * (n / 2) - 1 - i) (by omega); omega
      · have := h (i - 3 * (n / 2)) (by omega); omega
theorem turnF_congr {n : Nat} {u v : Nat → Int} (h : ∀ j, j < n → u j = v j) (k : Nat) : turnF n u k = turnF n v k := by
  unfold turnF dotF
  rw [sumF_congr fun j hj => by rw [h j hj]]
theorem satP_26 {x : Int} (h : x.natAbs ≤ 33554431) : satP x 26 = x := satP_self (by decide) (by decide) (by rw [show P2 ((26 : Int).toNat - 1) = 33554432 by decide]; omega) (by rw [show P2 ((26 : Int).toNat - 1) = 33554432 by decide]; omega)
theorem satP_26_bd (x : Int) : -33554432 ≤ satP x 26 ∧ satP x 26 ≤ 33554431 := by
  rw [satP_in (by decide) (by decide), show P2 ((26 : Int).toNat - 1) = 33554432 by decide]
  split
  · omega
  · split <;> omega
/-- What the statement asks of samples of 20 bits. -/
theorem lapped_again {n : Nat} (hn : n = 128 ∨ n = 512) {x : Nat → Int} (hb : ∀ j, j < 2 * n → (x j).natAbs ≤ 524287) {i : Nat} (hi : i < 2 * n) :
    (unfoldF n (turnF n fun k => satP (turnF n (foldF n x) k) 26) i - unfoldF n (foldF n x) i).natAbs ≤ 4096 := by
  have h2 : n % 2 = 0 := by omega
  have hf : ∀ j, j < n → (foldF n x j).natAbs ≤ 1048574 := fun j hj => foldF_abs h2 hb hj
  refine unfoldF_near h2 (fun j hj => ?_) hi
  rw [turnF_congr (v := turnF n (foldF n x)) fun k _ => satP_26 (turn_bd hn hf k)]
  exact turn_again hn (fun j hj => by have := hf j hj; omega) hj
end Go.Proofs.YtkhhhejmbgloeaaGreat
