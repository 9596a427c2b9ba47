/- Plain facts of layer 10: how many bits a number has, the ceilings of lines, which ceilings are right, how they are put and got. Nothing here speaks of the program. -/
import Derived.Test.YtgnmnmjicjcffaaRdcS
import Derived.Test.YtgnmnmjicjcffaaBandS
import Derived.Test.YtgnmnmjicjcffaaMemF
import Derived.Laws.MathBits
namespace Go.Proofs.Ytgnmnmjicjcffaa
open Go Go.RowKit
set_option linter.unusedVariables false

/-! ### Bits -/
/-- How many bits a number has, without its sign. -/
def bitsI (x : Int) : Nat := bitLen x.natAbs
theorem bitLen_zero : bitLen 0 = 0 := rfl
theorem bitLen_half {n : Nat} (h : n ≠ 0) : bitLen n = bitLen (n / 2) + 1 := by
  by_cases h1 : n / 2 = 0
  · obtain rfl : n = 1 := by omega
    decide
  · have := bitLen_shift n 1 (by simpa using h1)
    rw [this]; simp only [Nat.pow_one]; omega
theorem bitLen_le {n k : Nat} (h : n < 2 ^ k) : bitLen n ≤ k := by
  by_cases h0 : n = 0
  · subst h0; rw [bitLen_zero]; omega
  · have h1 := (bitLen_spec n).2 h0
    have h2 : 2 ^ (bitLen n - 1) < 2 ^ k := by omega
    have h3 := (Nat.pow_lt_pow_iff_right (by decide : 1 < 2)).1 h2
    omega
theorem bitsI_le {x : Int} (h0 : -2147483648 ≤ x) (h1 : x ≤ 2147483648) : bitsI x ≤ 32 := bitLen_le (by omega)
theorem bitsI_zero : bitsI 0 = 0 := rfl

/-! ### Ceilings -/
/-- The greatest of n numbers from a on, and of nought. -/
def maxTo (f : Nat → Int) (a : Nat) : Nat → Int
  | 0 => 0
  | n + 1 => max (maxTo f a n) (f (a + n))
theorem maxTo_zero (f : Nat → Int) (a : Nat) : maxTo f a 0 = 0 := rfl
theorem maxTo_succ (f : Nat → Int) (a n : Nat) : maxTo f a (n + 1) = max (maxTo f a n) (f (a + n)) := rfl
theorem maxTo_bd {f : Nat → Int} {a : Nat} {m : Int} (h : 0 ≤ m) : ∀ n, (∀ i, i < n → f (a + i) ≤ m) → 0 ≤ maxTo f a n ∧ maxTo f a n ≤ m := by
  intro n
  induction n with
  | zero => intro _; exact ⟨Int.le_refl _, h⟩
  | succ n ih =>
    intro hf
    have := ih fun i hi => hf i (by omega)
    have := hf n (by omega)
    rw [maxTo_succ]; omega
theorem maxTo_ext {f g : Nat → Int} {a : Nat} : ∀ n, (∀ i, i < n → f (a + i) = g (a + i)) → maxTo f a n = maxTo g a n := by
  intro n
  induction n with
  | zero => intro _; rfl
  | succ n ih => intro h; rw [maxTo_succ, maxTo_succ, ih fun i hi => h i (by omega), h n (by omega)]
/-- The edges as counts. -/
def edgeK (k : Nat) : Nat := (edgeN k).toNat
theorem edgeK_eq {k : Nat} (h : k < 22) : edgeN k = (edgeK k : Int) := by have := edge_bd k h; unfold edgeK; omega
theorem edgeK_lt : ∀ k : Nat, k < 21 → edgeK k < edgeK (k + 1) ∧ edgeK (k + 1) ≤ 512 := by decide
/-- The bits of each of some numbers. -/
def bitF (x : Nat → Int) (i : Nat) : Int := bitsI (x i)
/-- The ceilings of lines. -/
def ceilF (x : Nat → Int) (b : Nat) : Int := maxTo (bitF x) (edgeK b) (edgeK (b + 1) - edgeK b)
theorem bitF_bd {x : Nat → Int} (h : ∀ i, i < 512 → -2147483648 ≤ x i ∧ x i ≤ 2147483647) {i : Nat} (hi : i < 512) : 0 ≤ bitF x i ∧ bitF x i ≤ 32 := by
  have := bitsI_le (x := x i) (by have := h i hi; omega) (by have := h i hi; omega)
  unfold bitF; omega
theorem ceilF_bd {x : Nat → Int} (h : ∀ i, i < 512 → -2147483648 ≤ x i ∧ x i ≤ 2147483647) {b : Nat} (hb : b < 21) : 0 ≤ ceilF x b ∧ ceilF x b ≤ 32 := by
  have := edgeK_lt b hb
  exact maxTo_bd (by decide) _ fun i hi => (bitF_bd h (by omega)).2
theorem ceilF_ext {x y : Nat → Int} (h : ∀ i, i < 512 → x i = y i) {b : Nat} (hb : b < 21) : ceilF x b = ceilF y b := by
  have := edgeK_lt b hb
  exact maxTo_ext _ fun i hi => by unfold bitF; rw [h _ (by omega)]

/-! ### Which are right -/
def rightB (zs : List Int) : Bool := decide (zs.length = 21) && zs.all fun z => decide (0 ≤ z) && decide (z ≤ 26)
theorem rightB_true {zs : List Int} (h : rightB zs = true) : zs.length = 21 ∧ ∀ j, j < 21 → 0 ≤ zs.getD j 0 ∧ zs.getD j 0 ≤ 26 := by
  unfold rightB at h
  rw [Bool.and_eq_true, decide_eq_true_eq, List.all_eq_true] at h
  refine ⟨h.1, fun j hj => ?_⟩
  have hj' : j < zs.length := by omega
  have := h.2 (zs.getD j 0) (by simp [List.getD, hj'])
  simpa using this
theorem rightB_of {zs : List Int} (hl : zs.length = 21) (h : ∀ j, j < 21 → 0 ≤ zs.getD j 0 ∧ zs.getD j 0 ≤ 26) : rightB zs = true := by
  unfold rightB
  rw [Bool.and_eq_true, decide_eq_true_eq, List.all_eq_true]
  refine ⟨hl, fun z hz => ?_⟩
  obtain ⟨j, hj, rfl⟩ := List.getElem_of_mem hz
  have := h j (by omega)
  simpa [List.getD, hj] using this
theorem rightB_len {zs : List Int} (h : zs.length ≠ 21) : rightB zs = false := by unfold rightB; simp [h]
theorem rightB_at {zs : List Int} {j : Nat} (hj : j < zs.length) (h : zs.getD j 0 < 0 ∨ 26 < zs.getD j 0) : rightB zs = false := by
  cases hr : rightB zs with
  | false => rfl
  | true =>
    have h1 := rightB_true hr
    have := h1.2 j (by omega)
    omega

/-! ### The model of differences -/
def difL : List Int := [3000, 1500, 500, 10, 10, 10, 10, 10, 10, 10, 10, 10, 10, 10, 10, 10, 10, 10, 10, 10, 10, 10, 10, 10, 10, 10, 10, 10, 10, 10, 500, 1500]
theorem difL_good : GoodL difL := by unfold GoodL; decide
theorem difL_len : difL.length = 32 := rfl
theorem difL_bd : ∀ j, j < 32 → 0 ≤ difL.getD j 0 ∧ difL.getD j 0 ≤ 4294967295 := by decide
theorem difL_one : ∀ j, j < 32 → 1 ≤ difL.getD j 0 := by decide
theorem difL_sum : sumN difL 32 = 7270 := by decide

/-! ### Putting -/
/-- One ceiling put: by itself (q), or by the one ahead. -/
def putW (q : Bool) (e : EncS) (a d : Int) : EncS := if q then encBits e a 5 else encSym e difL ((a - d) % 32).toNat
theorem putW_alone (e : EncS) (a d : Int) : putW true e a d = encBits e a 5 := if_pos rfl
theorem putW_diff (e : EncS) (a d : Int) : putW false e a d = encSym e difL ((a - d) % 32).toNat := if_neg (by decide)
def putN (q : Bool) (e : EncS) (f d : Nat → Int) : Nat → EncS
  | 0 => e
  | n + 1 => putW q (putN q e f d n) (f n) (d n)
theorem putN_succ (q : Bool) (e : EncS) (f d : Nat → Int) (n : Nat) : putN q e f d (n + 1) = putW q (putN q e f d n) (f n) (d n) := rfl
theorem dif_lt (x : Int) : (x % 32).toNat < difL.length := by rw [difL_len]; omega
theorem putW_good {q : Bool} {e : EncS} {a d : Int} (h : GoodE e) : GoodE (putW q e a d) ∧ (putW q e a d).k ≤ e.k + 4 ∧ Inside e (putW q e a d) := by
  cases q with
  | true =>
    rw [putW_alone]
    exact ⟨encBits_good (n := a) (wide := 5) h (by decide), encBits_k e a (wide := 5) (by decide), encBits_inside (n := a) (wide := 5) h (by decide)⟩
  | false =>
    rw [putW_diff]
    have := encSym_k e difL ((a - d) % 32).toNat
    exact ⟨encSym_good h difL_good (dif_lt _), by omega, encSym_inside h difL_good (dif_lt _)⟩
theorem putN_good {q : Bool} {e : EncS} {f d : Nat → Int} (h : GoodE e) : ∀ n, GoodE (putN q e f d n) ∧ (putN q e f d n).k ≤ e.k + 4 * n ∧ Inside e (putN q e f d n) := by
  intro n
  induction n with
  | zero => exact ⟨h, Nat.le_refl _, Inside.refl e⟩
  | succ n ih =>
    obtain ⟨h1, h2, h3⟩ := ih
    obtain ⟨g1, g2, g3⟩ := putW_good (q := q) (a := f n) (d := d n) h1
    rw [putN_succ]
    exact ⟨g1, by omega, h3.trans g3⟩
theorem putN_inside {q : Bool} {e : EncS} {f d : Nat → Int} (h : GoodE e) (j n : Nat) : Inside (putN q e f d j) (putN q e f d (j + n)) := by
  induction n with
  | zero => exact Inside.refl _
  | succ n ih => exact ih.trans (putW_good (putN_good h (j + n)).1).2.2
theorem putN_ext {q : Bool} {e : EncS} {f g d d' : Nat → Int} : ∀ n, (∀ i, i < n → f i = g i ∧ d i = d' i) → putN q e f d n = putN q e g d' n := by
  intro n
  induction n with
  | zero => intro _; rfl
  | succ n ih => intro h; rw [putN_succ, putN_succ, ih fun i hi => h i (by omega), (h n (by omega)).1, (h n (by omega)).2]

/-! ### Getting -/
def getW (q : Bool) (b : List Int) (D : DecS) (d : Int) : Int × DecS := if q then decBits b D 0 5 else ((d + decWhich D difL) % 32, decSym b D difL)
theorem getW_alone (b : List Int) (D : DecS) (d : Int) : getW true b D d = decBits b D 0 5 := if_pos rfl
theorem getW_diff (b : List Int) (D : DecS) (d : Int) : getW false b D d = ((d + decWhich D difL) % 32, decSym b D difL) := if_neg (by decide)
def getN (q : Bool) (b : List Int) (D : DecS) (d : Nat → Int) : Nat → DecS
  | 0 => D
  | n + 1 => (getW q b (getN q b D d n) (d n)).2
theorem getN_succ (q : Bool) (b : List Int) (D : DecS) (d : Nat → Int) (n : Nat) : getN q b D d (n + 1) = (getW q b (getN q b D d n) (d n)).2 := rfl
/-- What is got. -/
def getV (q : Bool) (b : List Int) (D : DecS) (d : Nat → Int) (n : Nat) : Int := (getW q b (getN q b D d n) (d n)).1
theorem decBits5 (b : List Int) (D : DecS) : decBits b D 0 5 = (decAt D 32, decTake (byteF b) D (decAt D 32) 1 32) := by
  rw [decBits_low b D 0 (by decide) (by decide), show P2 5 = 32 by decide]; simp
theorem getW_good {q : Bool} {b : List Int} {D : DecS} {d : Int} (hb : ∀ j, 0 ≤ byteF b j ∧ byteF b j ≤ 255) (h : GoodD D) : GoodD (getW q b D d).2 ∧ (getW q b D d).2.i ≤ D.i + 2 ∧ 0 ≤ (getW q b D d).1 ∧ (getW q b D d).1 ≤ 31 := by
  cases q with
  | true =>
    rw [getW_alone, decBits5]
    obtain ⟨a1, a2, a3⟩ := decAt_bd (all := 32) h (by decide) (by decide)
    exact ⟨(decTake_good hb h ⟨by decide, by decide, by decide, a1, by omega⟩ a3).1, decTake_i _ _ _ _ _, a1, by show decAt D 32 ≤ 31; omega⟩
  | false =>
    rw [getW_diff]
    obtain ⟨a1, a2, a3, a4⟩ := decWhich_is h difL_good
    exact ⟨(decTake_good hb h (okP_sym difL_good a1) a2).1, decTake_i _ _ _ _ _, by show 0 ≤ (d + decWhich D difL) % 32; omega, by show (d + decWhich D difL) % 32 ≤ 31; omega⟩
theorem getN_good {q : Bool} {b : List Int} {D : DecS} {d : Nat → Int} (hb : ∀ j, 0 ≤ byteF b j ∧ byteF b j ≤ 255) (h : GoodD D) : ∀ n, GoodD (getN q b D d n) ∧ (getN q b D d n).i ≤ D.i + 2 * n := by
  intro n
  induction n with
  | zero => exact ⟨h, Nat.le_refl _⟩
  | succ n ih =>
    obtain ⟨g1, g2, _⟩ := getW_good (q := q) (d := d n) hb ih.1
    rw [getN_succ]
    exact ⟨g1, by omega⟩
theorem getV_bd {q : Bool} {b : List Int} {D : DecS} {d : Nat → Int} (hb : ∀ j, 0 ≤ byteF b j ∧ byteF b j ≤ 255) (h : GoodD D) (n : Nat) : 0 ≤ getV q b D d n ∧ getV q b D d n ≤ 31 := (getW_good hb (getN_good hb h n).1).2.2
theorem getN_ext {q : Bool} {b : List Int} {D : DecS} {d d' : Nat → Int} : ∀ n, (∀ i, i < n → d i = d' i) → getN q b D d n = getN q b D d' n := by
  intro n
  induction n with
  | zero => intro _; rfl
  | succ n ih => intro h; rw [getN_succ, getN_succ, ih fun i hi => h i (by omega), h n (by omega)]
theorem getV_ext {q : Bool} {b : List Int} {D : DecS} {d d' : Nat → Int} {n : Nat} (h : ∀ i, i < n + 1 → d i = d' i) : getV q b D d n = getV q b D d' n := by
  unfold getV; rw [getN_ext n fun i hi => h i (by omega), h n (by omega)]

/-! ### What is put is got -/
theorem one_back {q : Bool} {b : List Int} {e F : EncS} {D : DecS} {a d : Int} (hs : Sync (byteF b) e D) (hg : GoodE e) (a0 : 0 ≤ a) (a1 : a ≤ 31) (hi : Inside (putW q e a d) F) (hf : 1 ≤ F.s) (hd : DigOf (byteF b) F) :
    (getW q b D d).1 = a ∧ Sync (byteF b) (putW q e a d) (getW q b D d).2 := by
  cases q with
  | true =>
    rw [putW_alone] at hi ⊢
    rw [getW_alone]
    exact bits_back (wide := 5) hs hg (by decide) a0 (by rw [show P2 5 = 32 by decide]; omega) hi hf hd
  | false =>
    rw [putW_diff] at hi ⊢
    rw [getW_diff]
    obtain ⟨h1, h2⟩ := sym_back hs hg difL_good (dif_lt (a - d)) hi hf hd
    refine ⟨?_, h2⟩
    simp only
    rw [h1]; omega
theorem put_back {q : Bool} {b : List Int} {e F : EncS} {D : DecS} {f d : Nat → Int} {n : Nat} (hs : Sync (byteF b) e D) (hg : GoodE e) (hb : ∀ j, j < n → 0 ≤ f j ∧ f j ≤ 31) (hi : Inside (putN q e f d n) F) (hf : 1 ≤ F.s) (hd : DigOf (byteF b) F) :
    ∀ j, j ≤ n → Sync (byteF b) (putN q e f d j) (getN q b D d j) ∧ ∀ i, i < j → getV q b D d i = f i := by
  intro j
  induction j with
  | zero => intro _; exact ⟨hs, fun i hi => by omega⟩
  | succ j ih =>
    intro hj
    obtain ⟨h1, h2⟩ := ih (by omega)
    have hin := putN_inside (q := q) (f := f) (d := d) hg (j + 1) (n - (j + 1))
    rw [show j + 1 + (n - (j + 1)) = n by omega, putN_succ] at hin
    obtain ⟨h3, h4⟩ := one_back h1 (putN_good hg j).1 (hb j (by omega)).1 (hb j (by omega)).2 (hin.trans hi) hf hd
    refine ⟨by rw [putN_succ, getN_succ]; exact h4, fun i hi => ?_⟩
    by_cases e : i = j
    · rw [e]; exact h3
    · exact h2 i (by omega)

/-! ### Lists that are filled -/
/-- The first k of some numbers, noughts behind. -/
def preF (F : Nat → Int) (k i : Nat) : Int := if i < k then F i else 0
theorem preF_zero (F : Nat → Int) (i : Nat) : preF F 0 i = 0 := if_neg (by omega)
theorem preF_next (F : Nat → Int) (k i : Nat) : (if i = k then F k else preF F k i) = preF F (k + 1) i := by
  unfold preF
  by_cases h : i = k
  · subst h; rw [if_pos rfl, if_pos (by omega)]
  · rw [if_neg h]; split
    · rw [if_pos (by omega)]
    · rw [if_neg (by omega)]
theorem preF_end (F : Nat → Int) {k i : Nat} (h : i < k) : preF F k i = F i := if_pos h
/-- The ceilings of the first k bands, the greatest of m lines of the next, noughts behind. -/
def accF (x : Nat → Int) (k m i : Nat) : Int := if i < k then ceilF x i else if i = k then maxTo (bitF x) (edgeK k) m else 0
theorem accF_zero (x : Nat → Int) (k i : Nat) : accF x k 0 i = preF (ceilF x) k i := by
  unfold accF preF
  split
  · rfl
  · split <;> rfl
theorem accF_here (x : Nat → Int) (k m : Nat) : accF x k m k = maxTo (bitF x) (edgeK k) m := by unfold accF; rw [if_neg (by omega), if_pos rfl]
theorem accF_next (x : Nat → Int) (k m i : Nat) {y : Int} (h : y = maxTo (bitF x) (edgeK k) (m + 1)) : (if i = k then y else accF x k m i) = accF x k (m + 1) i := by
  subst h
  unfold accF
  by_cases h : i = k
  · subst h; rw [if_pos rfl, if_neg (by omega), if_pos rfl]
  · rw [if_neg h]; split
    · rfl
    · rfl
theorem accF_end (x : Nat → Int) {k n : Nat} (i : Nat) (h : n = edgeK (k + 1) - edgeK k) : accF x k n i = preF (ceilF x) (k + 1) i := by
  subst h
  unfold accF preF
  by_cases h : i = k
  · subst h; rw [if_neg (by omega), if_pos rfl, if_pos (by omega)]; rfl
  · split
    · rw [if_pos (by omega)]
    · rw [if_neg (by omega)]
end Go.Proofs.Ytgnmnmjicjcffaa
