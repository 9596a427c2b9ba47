/- Plain facts, and what functions give, for the proofs of this seat: several texts in one, each with its own first remark. -/
import Derived.Test.YtobhoecmmpijgaaGreatGa

/- Plain facts of models, for the statements of layers 5 to 7: parts, which symbol a number finds, what is learnt. Nothing here speaks of the program. -/
namespace Go.Proofs.YtobhoecmmpijgaaGreat
open Go
set_option linter.unusedVariables false

/-- How often the first n symbols come. -/
def sumN (l : List Int) (n : Nat) : Int := (l.take n).sum
theorem sumN_zero (l : List Int) : sumN l 0 = 0 := by simp [sumN]
theorem sumN_succ (l : List Int) (n : Nat) (h : n < l.length) : sumN l (n + 1) = sumN l n + l.getD n 0 := by
  unfold sumN; rw [take_snocI l n h]; simp
theorem sumN_all (l : List Int) : sumN l l.length = l.sum := by simp [sumN]
/-- Bounds of parts, where each number lies between a and b. -/
theorem sumN_bd {l : List Int} {a b : Int} (h : ∀ j, j < l.length → a ≤ l.getD j 0 ∧ l.getD j 0 ≤ b) : ∀ n, n ≤ l.length → a * n ≤ sumN l n ∧ sumN l n ≤ b * n := by
  intro n
  induction n with
  | zero => intro _; rw [sumN_zero]; simp
  | succ n ih =>
    intro hn
    obtain ⟨h1, h2⟩ := ih (by omega)
    obtain ⟨h3, h4⟩ := h n (by omega)
    rw [sumN_succ l n (by omega)]
    have e1 : a * ((n + 1 : Nat) : Int) = a * n + a := by rw [Int.natCast_add, Int.mul_add]; simp
    have e2 : b * ((n + 1 : Nat) : Int) = b * n + b := by rw [Int.natCast_add, Int.mul_add]; simp
    omega
theorem sumN_rise {l : List Int} (h : ∀ j, j < l.length → 0 ≤ l.getD j 0) {m n : Nat} (hmn : m ≤ n) (hn : n ≤ l.length) : sumN l m ≤ sumN l n := by
  induction n with
  | zero => obtain rfl : m = 0 := by omega
            exact Int.le_refl _
  | succ n ih =>
    rcases Nat.lt_or_ge m (n + 1) with h1 | h1
    · have := ih (by omega) (by omega)
      have := h n (by omega)
      rw [sumN_succ l n (by omega)]; omega
    · obtain rfl : m = n + 1 := by omega
      exact Int.le_refl _
/-- The symbol in whose part a number is: from the i-th one on, n of them. -/
def findGo (l : List Int) (at' : Int) : Nat → Nat → Nat
  | _, 0 => l.length - 1
  | i, n + 1 => if at' < sumN l (i + 1) then i else findGo l at' (i + 1) n
def findP (l : List Int) (at' : Int) : Nat := findGo l at' 0 l.length
/-- Who is below the i-th symbol's upper end, and not below the ones ahead, finds it. -/
theorem findGo_eq {l : List Int} {at' : Int} {i : Nat} (hi : i < l.length) (h1 : at' < sumN l (i + 1)) : ∀ n j, j + n = l.length → j ≤ i → (∀ k, j ≤ k → k < i → sumN l (k + 1) ≤ at') → findGo l at' j n = i := by
  intro n
  induction n with
  | zero => intro j hj hji _; omega
  | succ n ih =>
    intro j hj hji h
    unfold findGo
    by_cases e : j = i
    · subst e; rw [if_pos h1]
    · rw [if_neg (by have := h j (Nat.le_refl _) (by omega); omega)]
      exact ih (j + 1) (by omega) (by omega) fun k hk hki => h k (by omega) hki
theorem findP_eq {l : List Int} (hp : ∀ j, j < l.length → 1 ≤ l.getD j 0) {at' : Int} {i : Nat} (hi : i < l.length) (h0 : sumN l i ≤ at') (h1 : at' < sumN l (i + 1)) : findP l at' = i := by
  refine findGo_eq hi h1 _ 0 (by omega) (by omega) fun k _ hk => ?_
  have := sumN_rise (l := l) (fun j hj => by have := hp j hj; omega) (m := k + 1) (n := i) (by omega) (by omega)
  omega
/-- What is found is where the number lies, if it is below all. -/
theorem findP_is {l : List Int} {at' : Int} (h0 : 0 ≤ at') (h1 : at' < sumN l l.length) : findP l at' < l.length ∧ sumN l (findP l at') ≤ at' ∧ at' < sumN l (findP l at' + 1) := by
  have go : ∀ n i, i + n = l.length → sumN l i ≤ at' → findGo l at' i n < l.length ∧ sumN l (findGo l at' i n) ≤ at' ∧ at' < sumN l (findGo l at' i n + 1) := by
    intro n
    induction n with
    | zero =>
      intro i hi hs
      rw [show i = l.length by omega] at hs
      omega
    | succ n ih =>
      intro i hi hs
      unfold findGo
      by_cases h : at' < sumN l (i + 1)
      · rw [if_pos h]; exact ⟨by omega, hs, h⟩
      · rw [if_neg h]; exact ih (i + 1) (by omega) (by omega)
  exact go l.length 0 (by omega) (by rw [sumN_zero]; exact h0)

/-- A model's list: 1 to 64 symbols, each comes, together at most 8192 times. -/
def GoodL (l : List Int) : Prop := 1 ≤ l.length ∧ l.length ≤ 64 ∧ (∀ j, j < l.length → 1 ≤ l.getD j 0) ∧ l.sum ≤ 8192
theorem GoodL.sum_le {l : List Int} (h : GoodL l) {n : Nat} (hn : n ≤ l.length) : 0 ≤ sumN l n ∧ sumN l n ≤ 8192 := by
  have a := sumN_rise (l := l) (fun j hj => by have := h.2.2.1 j hj; omega) (m := 0) (n := n) (by omega) hn
  have b := sumN_rise (l := l) (fun j hj => by have := h.2.2.1 j hj; omega) (m := n) (n := l.length) hn (Nat.le_refl _)
  rw [sumN_zero] at a
  rw [sumN_all] at b
  have := h.2.2.2
  omega
theorem GoodL.own {l : List Int} (h : GoodL l) {j : Nat} (hj : j < l.length) : 1 ≤ l.getD j 0 ∧ l.getD j 0 ≤ 8192 := by
  have a := h.sum_le (n := j) (by omega)
  have b := h.sum_le (n := j + 1) (by omega)
  rw [sumN_succ l j hj] at b
  have := h.2.2.1 j hj
  omega
theorem goodL_ones {n : Nat} (h0 : 1 ≤ n) (h1 : n ≤ 64) : GoodL (List.replicate n 1) := by
  refine ⟨by simp; omega, by simp; omega, fun j hj => ?_, ?_⟩
  · simp at hj; simp [List.getD, hj]
  · have : ∀ n : Nat, (List.replicate n (1 : Int)).sum = n := by
      intro n
      induction n with
      | zero => rfl
      | succ n ih => rw [List.replicate_succ, List.sum_cons, ih]; omega
    rw [this]; omega
/-- s comes 32 times more often. -/
def riseL (l : List Int) (s : Nat) : List Int := l.set s (l.getD s 0 + 32)
/-- Each comes half as often, rounded upwards: the first k of them. -/
def halfK (l : List Int) (k : Nat) : List Int := (l.take k).map (fun x => (x + 1) / 2) ++ l.drop k
def halfL (l : List Int) : List Int := l.map fun x => (x + 1) / 2
/-- What is learnt. -/
def learnP (l : List Int) (s : Nat) : List Int := if 8192 < (riseL l s).sum then halfL (riseL l s) else riseL l s
theorem riseL_len (l : List Int) (s : Nat) : (riseL l s).length = l.length := by simp [riseL]
theorem halfL_len (l : List Int) : (halfL l).length = l.length := by simp [halfL]
theorem learnP_len (l : List Int) (s : Nat) : (learnP l s).length = l.length := by unfold learnP; split <;> simp [halfL_len, riseL_len]
theorem getD_set' (l : List Int) (j k : Nat) (x : Int) (h : j < l.length) : (l.set j x).getD k 0 = if k = j then x else l.getD k 0 := by
  simp only [List.getD, List.getElem?_set]
  by_cases e : j = k
  · subst e; simp [h]
  · rw [if_neg e, if_neg (fun c => e c.symm)]
theorem sum_set (l : List Int) (s : Nat) (x : Int) (h : s < l.length) : (l.set s x).sum = l.sum - l.getD s 0 + x := by
  induction l generalizing s with
  | nil => simp at h
  | cons a l ih =>
    cases s with
    | zero => simp [List.getD]; omega
    | succ s =>
      have := ih s (by simpa using h)
      simp only [List.set_cons_succ, List.sum_cons, List.getD_cons_succ] at this ⊢
      omega
theorem riseL_sum {l : List Int} {s : Nat} (h : s < l.length) : (riseL l s).sum = l.sum + 32 := by
  unfold riseL; rw [sum_set l s _ h]; omega
theorem halfL_sum {l : List Int} : (halfL l).sum * 2 ≤ l.sum + l.length := by
  induction l with
  | nil => simp [halfL]
  | cons a l ih =>
    unfold halfL at *
    simp only [List.map_cons, List.sum_cons, List.length_cons]
    omega
theorem halfL_getD {l : List Int} {j : Nat} (h : j < l.length) : (halfL l).getD j 0 = (l.getD j 0 + 1) / 2 := by simp [halfL, List.getD, h]
theorem riseL_own {l : List Int} (h : GoodL l) {s j : Nat} (hs : s < l.length) (hj : j < l.length) : 1 ≤ (riseL l s).getD j 0 ∧ (riseL l s).getD j 0 ≤ 8224 := by
  unfold riseL
  rw [getD_set' l s j _ hs]
  have a := h.own hs
  have b := h.own hj
  split <;> omega
theorem learnP_good {l : List Int} (h : GoodL l) {s : Nat} (hs : s < l.length) : GoodL (learnP l s) := by
  have hsum := riseL_sum hs
  have h3 := h.2.2.2
  unfold learnP
  split
  · refine ⟨by rw [halfL_len, riseL_len]; exact h.1, by rw [halfL_len, riseL_len]; exact h.2.1, fun j hj => ?_, ?_⟩
    · rw [halfL_len, riseL_len] at hj
      rw [halfL_getD (by rw [riseL_len]; exact hj)]
      have := riseL_own h hs hj
      omega
    · have := halfL_sum (l := riseL l s)
      rw [riseL_len] at this
      have := h.2.1
      omega
  · refine ⟨by rw [riseL_len]; exact h.1, by rw [riseL_len]; exact h.2.1, fun j hj => ?_, by omega⟩
    rw [riseL_len] at hj
    exact (riseL_own h hs hj).1
theorem halfK_zero (l : List Int) : halfK l 0 = l := by simp [halfK]
theorem halfK_all (l : List Int) : halfK l l.length = halfL l := by simp [halfK, halfL]
theorem halfK_len (l : List Int) {k : Nat} (h : k ≤ l.length) : (halfK l k).length = l.length := by simp [halfK]; omega
theorem halfK_at (l : List Int) {k : Nat} (h : k < l.length) : (halfK l k).getD k 0 = l.getD k 0 := by
  unfold halfK
  simp only [List.getD, List.getElem?_append]
  rw [if_neg (by simp; omega)]
  simp only [List.length_map, List.length_take, Nat.min_eq_left (Nat.le_of_lt h), Nat.sub_self, List.getElem?_drop, Nat.add_zero]
theorem halfK_next (l : List Int) {k : Nat} (h : k < l.length) : (halfK l k).set k ((l.getD k 0 + 1) / 2) = halfK l (k + 1) := by
  unfold halfK
  rw [take_snocI l k h, List.map_append, List.append_assoc, List.set_append_right _ _ (by simp; omega)]
  congr 1
  simp only [List.length_map, List.length_take, Nat.min_eq_left (Nat.le_of_lt h), Nat.sub_self]
  rw [List.drop_eq_getElem_cons h, List.set_cons_zero]
  simp [List.getD, h]
end Go.Proofs.YtobhoecmmpijgaaGreat

/- Plain facts of the range coder, for the statements of layers 6 and 7: what an encoder's number is, what a decoder takes of it, and that what was put comes back. Nothing here speaks of the program. -/
namespace Go.Proofs.YtobhoecmmpijgaaGreat
open Go
set_option linter.unusedVariables false

/-- An encoder: the number (L times 256 to the scale), the size, the scale. -/
structure EncS where
  n : Int
  s : Int
  k : Nat
def P256 (k : Nat) : Int := 256 ^ k
theorem P256_succ (k : Nat) : P256 (k + 1) = P256 k * 256 := by unfold P256; rw [Int.pow_succ]
theorem P256_add (a b : Nat) : P256 (a + b) = P256 a * P256 b := by unfold P256; rw [Int.pow_add]
theorem P256_pos (k : Nat) : 1 ≤ P256 k := by
  induction k with
  | zero => decide
  | succ k ih => rw [P256_succ]; omega
def scaleE (e : EncS) : EncS := if 16777216 ≤ e.s then e else if 16777216 ≤ e.s * 256 then ⟨e.n * 256, e.s * 256, e.k + 1⟩ else ⟨e.n * 65536, e.s * 65536, e.k + 2⟩
def encNew : EncS := ⟨0, 4294967295, 0⟩
/-- Ahead of the scaling. -/
def encPre (e : EncS) (low own all : Int) : EncS := ⟨e.n + e.s / all * low, e.s / all * own, e.k⟩
def encPut (e : EncS) (low own all : Int) : EncS := scaleE (encPre e low own all)
/-- A part may be. -/
def OkP (low own all : Int) : Prop := 1 ≤ all ∧ all ≤ 8192 ∧ 1 ≤ own ∧ 0 ≤ low ∧ low + own ≤ all
def GoodE (e : EncS) : Prop := 16777216 ≤ e.s ∧ e.s ≤ 4294967295 ∧ 0 ≤ e.n ∧ e.n + e.s ≤ 4294967296 * P256 e.k
theorem goodE_new : GoodE encNew := by unfold GoodE encNew P256; decide
/-- What each part is. -/
theorem each_bd {s all : Int} (h0 : 16777216 ≤ s) (h1 : s ≤ 4294967295) (a0 : 1 ≤ all) (a1 : all ≤ 8192) : 2048 ≤ s / all ∧ s / all ≤ 4294967295 ∧ s / all * all ≤ s := by
  refine ⟨?_, ?_, Int.ediv_mul_le s (by omega)⟩
  · rw [Int.le_ediv_iff_mul_le (by omega)]; omega
  · have := Int.ediv_le_self all (show 0 ≤ s by omega); omega
theorem encPre_bd {e : EncS} {low own all : Int} (h : GoodE e) (p : OkP low own all) :
    2048 ≤ (encPre e low own all).s ∧ (encPre e low own all).s ≤ 4294967295 ∧ 0 ≤ (encPre e low own all).n ∧ e.n ≤ (encPre e low own all).n ∧ (encPre e low own all).n + (encPre e low own all).s ≤ e.n + e.s := by
  obtain ⟨h1, h2, h3, h4⟩ := h
  obtain ⟨p1, p2, p3, p4, p5⟩ := p
  obtain ⟨e1, e2, e3⟩ := each_bd h1 h2 p1 p2
  unfold encPre
  simp only
  generalize e.s / all = E at e1 e2 e3
  have a1 : E * 1 ≤ E * own := Int.mul_le_mul_of_nonneg_left p3 (by omega)
  have a2 : 0 ≤ E * low := Int.mul_nonneg (by omega) p4
  have a3 : E * (low + own) ≤ E * all := Int.mul_le_mul_of_nonneg_left p5 (by omega)
  rw [Int.mul_add] at a3
  omega
theorem scaleE_step {e : EncS} (h : 256 ≤ e.s) (hs : e.s < 16777216) : scaleE e = scaleE ⟨e.n * 256, e.s * 256, e.k + 1⟩ := by
  unfold scaleE
  simp only
  rw [if_neg (by omega)]
  by_cases h1 : 16777216 ≤ e.s * 256
  · rw [if_pos h1, if_pos h1]
  · rw [if_neg h1, if_neg h1, if_pos (by omega)]
    congr 1 <;> omega
theorem scaleE_end {e : EncS} (h : 16777216 ≤ e.s) : scaleE e = e := by unfold scaleE; rw [if_pos h]
/-- One encoder's interval lies inside another's. -/
def Inside (e f : EncS) : Prop := e.k ≤ f.k ∧ e.n * P256 (f.k - e.k) ≤ f.n ∧ f.n + f.s ≤ (e.n + e.s) * P256 (f.k - e.k)
theorem Inside.refl (e : EncS) : Inside e e := by
  unfold Inside
  rw [Nat.sub_self]
  show _ ∧ e.n * 1 ≤ _ ∧ _ ≤ (e.n + e.s) * 1
  omega
theorem Inside.trans {a b c : EncS} (h : Inside a b) (g : Inside b c) : Inside a c := by
  obtain ⟨h1, h2, h3⟩ := h
  obtain ⟨g1, g2, g3⟩ := g
  have e : c.k - a.k = (b.k - a.k) + (c.k - b.k) := by omega
  have p := P256_pos (c.k - b.k)
  refine ⟨by omega, ?_, ?_⟩
  · rw [e, P256_add, ← Int.mul_assoc]
    exact Int.le_trans (Int.mul_le_mul_of_nonneg_right h2 (by omega)) g2
  · rw [e, P256_add, ← Int.mul_assoc]
    exact Int.le_trans g3 (Int.mul_le_mul_of_nonneg_right h3 (by omega))
theorem scaleE_inside (e : EncS) : Inside e (scaleE e) ∧ (scaleE e).n = e.n * P256 ((scaleE e).k - e.k) ∧ (scaleE e).s = e.s * P256 ((scaleE e).k - e.k) := by
  have p1 : P256 1 = 256 := by decide
  have p2 : P256 2 = 65536 := by decide
  have p0 : P256 0 = 1 := by decide
  by_cases h1 : 16777216 ≤ e.s
  · rw [scaleE_end h1]
    refine ⟨Inside.refl e, ?_, ?_⟩
    · rw [Nat.sub_self, p0]; omega
    · rw [Nat.sub_self, p0]; omega
  · by_cases h2 : 16777216 ≤ e.s * 256
    · have hx : scaleE e = ⟨e.n * 256, e.s * 256, e.k + 1⟩ := by unfold scaleE; rw [if_neg h1, if_pos h2]
      have k1 : e.k + 1 - e.k = 1 := by omega
      rw [hx]
      unfold Inside
      simp only [k1, p1]
      refine ⟨⟨by omega, ?_, ?_⟩, trivial, trivial⟩
      · exact Int.le_refl _
      · omega
    · have hx : scaleE e = ⟨e.n * 65536, e.s * 65536, e.k + 2⟩ := by unfold scaleE; rw [if_neg h1, if_neg h2]
      have k2 : e.k + 2 - e.k = 2 := by omega
      rw [hx]
      unfold Inside
      simp only [k2, p2]
      refine ⟨⟨by omega, ?_, ?_⟩, trivial, trivial⟩
      · exact Int.le_refl _
      · omega
theorem encPre_inside {e : EncS} {low own all : Int} (h : GoodE e) (p : OkP low own all) : Inside e (encPre e low own all) := by
  obtain ⟨a, b, c, d, f⟩ := encPre_bd h p
  have k : (encPre e low own all).k - e.k = 0 := Nat.sub_self _
  refine ⟨Nat.le_refl _, ?_, ?_⟩ <;> rw [k] <;> show _ ≤ _
  · show e.n * 1 ≤ _; omega
  · show _ ≤ (e.n + e.s) * 1; omega
theorem encPut_inside {e : EncS} {low own all : Int} (h : GoodE e) (p : OkP low own all) : Inside e (encPut e low own all) := (encPre_inside h p).trans (scaleE_inside _).1
theorem scaleE_good {e : EncS} (h0 : 2048 ≤ e.s) (h1 : e.s ≤ 4294967295) (h2 : 0 ≤ e.n) (h3 : e.n + e.s ≤ 4294967296 * P256 e.k) : GoodE (scaleE e) := by
  have p := P256_pos e.k
  unfold scaleE GoodE
  split
  · exact ⟨by assumption, h1, h2, h3⟩
  · split
    · simp only [P256_succ]; omega
    · simp only [show e.k + 2 = e.k + 1 + 1 by omega, P256_succ]; omega
theorem encPut_good {e : EncS} {low own all : Int} (h : GoodE e) (p : OkP low own all) : GoodE (encPut e low own all) := by
  obtain ⟨a, b, c, d, f⟩ := encPre_bd h p
  exact scaleE_good a b c (Int.le_trans f h.2.2.2)

theorem encPut_k (e : EncS) (low own all : Int) : (encPut e low own all).k ≤ e.k + 2 := by
  unfold encPut scaleE
  have h : (encPre e low own all).k = e.k := rfl
  split
  · omega
  · split <;> simp only <;> omega

/-! ### Digits -/
/-- The number that the first i digits make. -/
def valB (b : Nat → Int) : Nat → Int
  | 0 => 0
  | i + 1 => valB b i * 256 + b i
/-- The i digits that a number has. -/
def digB (n : Int) (len j : Nat) : Int := n / P256 (len - 1 - j) % 256
theorem valB_dig {n : Int} {len : Nat} {b : Nat → Int} (hn : 0 ≤ n) (hl : n < P256 len) (hb : ∀ j, j < len → b j = digB n len j) : ∀ i, i ≤ len → valB b i = n / P256 (len - i) := by
  intro i
  induction i with
  | zero =>
    intro _
    show (0 : Int) = _
    rw [Nat.sub_zero, Int.ediv_eq_zero_of_lt hn hl]
  | succ i ih =>
    intro hi
    show valB b i * 256 + b i = _
    rw [ih (by omega), hb i (by omega)]
    unfold digB
    have e : len - i = (len - (i + 1)) + 1 := by omega
    have e2 : len - 1 - i = len - (i + 1) := by omega
    rw [e, e2, P256_succ, ← Int.ediv_ediv_of_nonneg (by have := P256_pos (len - (i + 1)); omega)]
    omega
theorem valB_nonneg {b : Nat → Int} (hb : ∀ j, 0 ≤ b j) : ∀ i, 0 ≤ valB b i := by
  intro i
  induction i with
  | zero => exact Int.le_refl _
  | succ i ih => show 0 ≤ valB b i * 256 + b i; have := hb i; omega
theorem valB_same {b c : Nat → Int} : ∀ i, (∀ j, j < i → b j = c j) → valB b i = valB c i := by
  intro i
  induction i with
  | zero => intro _; rfl
  | succ i ih => intro h; show valB b i * 256 + b i = valB c i * 256 + c i; rw [ih (fun j hj => h j (by omega)), h i (by omega)]

/-! ### A decoder -/
structure DecS where
  c : Int
  s : Int
  i : Nat
def scaleD (b : Nat → Int) (d : DecS) : DecS :=
  if 16777216 ≤ d.s then d else if 16777216 ≤ d.s * 256 then ⟨d.c * 256 + b d.i, d.s * 256, d.i + 1⟩ else ⟨(d.c * 256 + b d.i) * 256 + b (d.i + 1), d.s * 65536, d.i + 2⟩
def decNew (b : Nat → Int) : DecS := ⟨valB b 4, 4294967295, 4⟩
def decAt (d : DecS) (all : Int) : Int := if all ≤ d.c / (d.s / all) then all - 1 else d.c / (d.s / all)
def decPre (d : DecS) (low own all : Int) : DecS := ⟨if d.s / all * own ≤ d.c - d.s / all * low then d.s / all * own - 1 else d.c - d.s / all * low, d.s / all * own, d.i⟩
def decTake (b : Nat → Int) (d : DecS) (low own all : Int) : DecS := scaleD b (decPre d low own all)
def GoodD (d : DecS) : Prop := 16777216 ≤ d.s ∧ d.s ≤ 4294967295 ∧ 0 ≤ d.c ∧ d.c ≤ 4294967295
theorem scaleD_step (b : Nat → Int) {d : DecS} (h : 256 ≤ d.s) (hs : d.s < 16777216) : scaleD b d = scaleD b ⟨d.c * 256 + b d.i, d.s * 256, d.i + 1⟩ := by
  unfold scaleD
  simp only
  rw [if_neg (by omega)]
  by_cases h1 : 16777216 ≤ d.s * 256
  · rw [if_pos h1, if_pos h1]
  · rw [if_neg h1, if_neg h1, if_pos (by omega)]
    congr 1
    omega
theorem scaleD_end (b : Nat → Int) {d : DecS} (h : 16777216 ≤ d.s) : scaleD b d = d := by unfold scaleD; rw [if_pos h]
theorem decAt_bd {d : DecS} {all : Int} (h : GoodD d) (a0 : 1 ≤ all) (a1 : all ≤ 8192) : 0 ≤ decAt d all ∧ decAt d all < all ∧ d.s / all * decAt d all ≤ d.c := by
  obtain ⟨h1, h2, h3, h4⟩ := h
  obtain ⟨e1, e2, e3⟩ := each_bd h1 h2 a0 a1
  unfold decAt
  generalize d.s / all = E at e1 e2 e3
  have q0 : 0 ≤ d.c / E := Int.ediv_nonneg h3 (by omega)
  have q1 : d.c / E * E ≤ d.c := Int.ediv_mul_le d.c (by omega)
  split
  · have : E * (all - 1) ≤ E * (d.c / E) := Int.mul_le_mul_of_nonneg_left (by omega) (by omega)
    rw [Int.mul_comm E (d.c / E)] at this
    exact ⟨by omega, by omega, by omega⟩
  · rw [Int.mul_comm] at q1
    exact ⟨q0, by omega, q1⟩
/-- Behind a taken part, ahead of the scaling. -/
theorem decPre_bd {d : DecS} {low own all : Int} (h : GoodD d) (p : OkP low own all) (hl : d.s / all * low ≤ d.c) :
    2048 ≤ (decPre d low own all).s ∧ (decPre d low own all).s ≤ 4294967295 ∧ 0 ≤ (decPre d low own all).c ∧ (decPre d low own all).c < (decPre d low own all).s := by
  obtain ⟨h1, h2, h3, h4⟩ := h
  obtain ⟨p1, p2, p3, p4, p5⟩ := p
  obtain ⟨e1, e2, e3⟩ := each_bd h1 h2 p1 p2
  unfold decPre
  simp only
  generalize d.s / all = E at e1 e2 e3 hl
  have a1 : E * 1 ≤ E * own := Int.mul_le_mul_of_nonneg_left p3 (by omega)
  have a2 : 0 ≤ E * low := Int.mul_nonneg (by omega) p4
  have a3 : E * (low + own) ≤ E * all := Int.mul_le_mul_of_nonneg_left p5 (by omega)
  rw [Int.mul_add] at a3
  refine ⟨by omega, by omega, ?_, ?_⟩
  · split <;> omega
  · split <;> omega
theorem scaleD_good {b : Nat → Int} {d : DecS} (hb : ∀ j, 0 ≤ b j ∧ b j ≤ 255) (h0 : 2048 ≤ d.s) (h1 : d.s ≤ 4294967295) (h2 : 0 ≤ d.c) (h3 : d.c < d.s) : GoodD (scaleD b d) ∧ (scaleD b d).c < (scaleD b d).s := by
  have b0 := hb d.i
  have b1 := hb (d.i + 1)
  unfold scaleD GoodD
  split
  · omega
  · split
    · simp only; omega
    · simp only; omega
theorem decTake_good {b : Nat → Int} {d : DecS} {low own all : Int} (hb : ∀ j, 0 ≤ b j ∧ b j ≤ 255) (h : GoodD d) (p : OkP low own all) (hl : d.s / all * low ≤ d.c) : GoodD (decTake b d low own all) ∧ (decTake b d low own all).c < (decTake b d low own all).s := by
  obtain ⟨a1, a2, a3, a4⟩ := decPre_bd h p hl
  exact scaleD_good hb a1 a2 a3 a4

/-! ### What was put comes back -/
/-- The decoder is where the encoder was. -/
def Sync (b : Nat → Int) (e : EncS) (d : DecS) : Prop := d.s = e.s ∧ d.i = e.k + 4 ∧ d.c = valB b (e.k + 4) - e.n
theorem sync_new (b : Nat → Int) : Sync b encNew (decNew b) := by unfold Sync encNew decNew; simp
/-- The digits are those of the last number. -/
def DigOf (b : Nat → Int) (f : EncS) : Prop := ∀ i, i ≤ f.k + 4 → valB b i = f.n / P256 (f.k + 4 - i)
theorem sync_scale {b : Nat → Int} {e : EncS} {d : DecS} (h : Sync b e d) : Sync b (scaleE e) (scaleD b d) := by
  obtain ⟨h1, h2, h3⟩ := h
  unfold scaleE scaleD
  rw [h1]
  split
  · exact ⟨h1, h2, h3⟩
  · split
    · refine ⟨rfl, by simp only; omega, ?_⟩
      simp only
      rw [h3, h2, show e.k + 1 + 4 = e.k + 4 + 1 by omega]
      show _ = valB b (e.k + 4) * 256 + b (e.k + 4) - _
      omega
    · refine ⟨rfl, by simp only; omega, ?_⟩
      simp only
      rw [h3, h2, show e.k + 2 + 4 = e.k + 4 + 1 + 1 by omega]
      show _ = (valB b (e.k + 4) * 256 + b (e.k + 4)) * 256 + b (e.k + 4 + 1) - _
      omega
theorem comes_back {b : Nat → Int} {e f : EncS} {d : DecS} {low own all : Int} (hs : Sync b e d) (hg : GoodE e) (p : OkP low own all) (hi : Inside (encPut e low own all) f) (hf : 1 ≤ f.s) (hd : DigOf b f) :
    low ≤ decAt d all ∧ decAt d all < low + own ∧ Sync b (encPut e low own all) (decTake b d low own all) := by
  have hin : Inside (encPre e low own all) f := (scaleE_inside _).1.trans hi
  obtain ⟨i1, i2, i3⟩ := hin
  obtain ⟨s1, s2, s3⟩ := hs
  obtain ⟨h1, h2, h3, h4⟩ := hg
  obtain ⟨p1, p2, p3, p4, p5⟩ := p
  obtain ⟨e1, e2, e3⟩ := each_bd h1 h2 p1 p2
  have hk : (encPre e low own all).k = e.k := rfl
  have hn : (encPre e low own all).n = e.n + e.s / all * low := rfl
  have hss : (encPre e low own all).s = e.s / all * own := rfl
  rw [hk] at i1 i2 i3
  rw [hn] at i2 i3
  rw [hss] at i3
  have hv := hd (e.k + 4) (by omega)
  rw [show f.k + 4 - (e.k + 4) = f.k - e.k by omega] at hv
  have pp := P256_pos (f.k - e.k)
  generalize P256 (f.k - e.k) = P at i2 i3 hv pp
  have lo : e.n + e.s / all * low ≤ valB b (e.k + 4) := by rw [hv, Int.le_ediv_iff_mul_le (by omega)]; exact i2
  have hi' : valB b (e.k + 4) < e.n + e.s / all * low + e.s / all * own := by
    rw [hv, Int.ediv_lt_iff_lt_mul (by omega)]; omega
  have hc0 : e.s / all * low ≤ d.c := by omega
  have hc1 : d.c < e.s / all * low + e.s / all * own := by omega
  have q0 : low ≤ d.c / (e.s / all) := by rw [Int.le_ediv_iff_mul_le (by omega), Int.mul_comm]; exact hc0
  have q1 : d.c / (e.s / all) < low + own := by
    rw [Int.ediv_lt_iff_lt_mul (by omega), Int.mul_comm, Int.mul_add]; exact hc1
  have hat : decAt d all = d.c / (e.s / all) := by
    unfold decAt; rw [s1, if_neg (by omega)]
  refine ⟨by omega, by omega, ?_⟩
  refine sync_scale (e := encPre e low own all) ⟨?_, ?_, ?_⟩
  · show d.s / all * own = _; rw [s1]; rfl
  · exact s2
  · show (if d.s / all * own ≤ d.c - d.s / all * low then _ else d.c - d.s / all * low) = valB b (e.k + 4) - (e.n + e.s / all * low)
    rw [s1, if_neg (by omega), s3]; omega
end Go.Proofs.YtobhoecmmpijgaaGreat
