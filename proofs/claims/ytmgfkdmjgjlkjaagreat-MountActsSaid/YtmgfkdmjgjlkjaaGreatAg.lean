/- Plain facts, and what functions give, for the proofs of this seat: several texts in one, each with its own first remark. -/
import Derived.Test.YtmgfkdmjgjlkjaaGreatAb

namespace Go.Proofs.YtmgfkdmjgjlkjaaGreat
open Go
set_option linter.unusedVariables false
def sumN (l : List Int) (n : Nat) : Int := (l.take n).sum
theorem sumN_zero (l : List Int) : sumN l 0 = 0 := by simp [sumN]
theorem sumN_succ (l : List Int) (n : Nat) (h : n < l.length) : sumN l (n + 1) = sumN l n + l.getD n 0 := by
  unfold sumN; rw [take_snocI l n h]; simp
theorem sumN_all (l : List Int) : sumN l l.length = l.sum := by simp [sumN]
theorem sumN_bd {l : List Int} {a b : Int} (h : ∀ j, j < l.length → a ≤ l.getD j 0 ∧ l.getD j 0 ≤ b) : ∀ n, n ≤ l.length → a * n ≤ sumN l n ∧ sumN l n ≤ b * n := by
  intro n
  induction n with
  | zero => intro _; rw [sumN_zero]; simp
  | succ n ih =>
    intro hn
    obtain ⟨h1, h2⟩ := ih (by omega)
    obtain ⟨h3, h4⟩ := h n (by omega)
    rw [sumN_succ l n (by omega)]
    have e1 : a * ((n + 1 : Nat) : Int) = a * n + a := by rw [Int.natCast_add, Int.mul_add]; simp
    have e2 : b * ((n + 1 : Nat) : Int) = b * n + b := by rw [Int.natCast_add, Int.mul_add]; simp
    omega
theorem sumN_rise {l : List Int} (h : ∀ j, j < l.length → 0 ≤ l.getD j 0) {m n : Nat} (hmn : m ≤ n) (hn : n ≤ l.length) : sumN l m ≤ sumN l n := by
  induction n with
  | zero => obtain rfl : m = 0 := by omega
            exact Int.le_refl _
  | succ n ih =>
    rcases Nat.lt_or_ge m (n + 1) with h1 | h1
    · have := ih (by omega) (by omega)
      have := h n (by omega)
      rw [sumN_succ l n (by omega)]; omega
    · obtain rfl : m = n + 1 := by omega
      exact Int.le_refl _
def findGo (l : List Int) (at' : Int) : Nat → Nat → Nat
  | _, 0 => l.length - 1
  | i, n + 1 => if at' < sumN l (i + 1) then i else findGo l at' (i + 1) n
def findP (l : List Int) (at' : Int) : Nat := findGo l at' 0 l.length
theorem findGo_eq {l : List Int} {at' : Int} {i : Nat} (hi : i < l.length) (h1 : at' < sumN l (i + 1)) : ∀ n j, j + n = l.length → j ≤ i → (∀ k, j ≤ k → k < i → sumN l (k + 1) ≤ at') → findGo l at' j n = i := by
  intro n
  induction n with
  | zero => intro j hj hji _; omega
  | succ n ih =>
    intro j hj hji h
    unfold findGo
    by_cases e : j = i
    · subst e; rw [if_pos h1]
    · rw [if_neg (by have := h j (Nat.le_refl _) (by omega); omega)]
      exact ih (j + 1) (by omega) (by omega) fun k hk hki => h k (by omega) hki
theorem findP_eq {l : List Int} (hp : ∀ j, j < l.length → 1 ≤ l.getD j 0) {at' : Int} {i : Nat} (hi : i < l.length) (h0 : sumN l i ≤ at') (h1 : at' < sumN l (i + 1)) : findP l at' = i := by
  refine findGo_eq hi h1 _ 0 (by omega) (by omega) fun k _ hk => ?_
  have := sumN_rise (l := l) (fun j hj => by have := hp j hj; omega) (m := k + 1) (n := i) (by omega) (by omega)
  omega
theorem findP_is {l : List Int} {at' : Int} (h0 : 0 ≤ at') (h1 : at' < sumN l l.length) : findP l at' < l.length ∧ sumN l (findP l at') ≤ at' ∧ at' < sumN l (findP l at' + 1) := by
  have go : ∀ n i, i + n = l.length → sumN l i ≤ at' → findGo l at' i n < l.length ∧ sumN l (findGo l at' i n) ≤ at' ∧ at' < sumN l (findGo l at' i n + 1) := by
    intro n
    induction n with
    | zero =>
      intro i hi hs
      rw [show i = l.length by omega] at hs
      omega
    | succ n ih =>
      intro i hi hs
      unfold findGo
      by_cases h : at' < sumN l (i + 1)
      · rw [if_pos h]; exact ⟨by omega, hs, h⟩
      · rw [if_neg h]; exact ih (i + 1) (by omega) (by omega)
  exact go l.length 0 (by omega) (by rw [sumN_zero]; exact h0)
def GoodL (l : List Int) : Prop := 1 ≤ l.length ∧ l.length ≤ 64 ∧ (∀ j, j < l.length → 1 ≤ l.getD j 0) ∧ l.sum ≤ 8192
theorem GoodL.sum_le {l : List Int} (h : GoodL l) {n : Nat} (hn : n ≤ l.length) : 0 ≤ sumN l n ∧ sumN l n ≤ 8192 := by
  have a := sumN_rise (l := l) (fun j hj => by have := h.2.2.1 j hj; omega) (m := 0) (n := n) (by omega) hn
  have b := sumN_rise (l := l) (fun j hj => by have := h.2.2.1 j hj; omega) (m := n) (n := l.length) hn (Nat.le_refl _)
  rw [sumN_zero] at a
  rw [sumN_all] at b
  have := h.2.2.2
  omega
theorem GoodL.own {l : List Int} (h : GoodL l) {j : Nat} (hj : j < l.length) : 1 ≤ l.getD j 0 ∧ l.getD j 0 ≤ 8192 := by
  have a := h.sum_le (n := j) (by omega)
  have b := h.sum_le (n := j + 1) (by omega)
  rw [sumN_succ l j hj] at b
  have := h.2.2.1 j hj
  omega
theorem goodL_ones {n : Nat} (h0 : 1 ≤ n) (h1 : n ≤ 64) : GoodL (List.replicate n 1) := by
  refine ⟨by simp; omega, by simp; omega, fun j hj => ?_, ?_⟩
  · simp at hj; simp [List.getD, hj]
  · have : ∀ n : Nat, (List.replicate n (1 : Int)).sum = n := by
      intro n
      induction n with
      | zero => rfl
      | succ n ih => rw [List.replicate_succ, List.sum_cons, ih]; omega
    rw [this]; omega
def riseL (l : List Int) (s : Nat) : List Int := l.set s (l.getD s 0 + 32)
def halfK (l : List Int) (k : Nat) : List Int := (l.take k).map (fun x => (x + 1) / 2) ++ l.drop k
def halfL (l : List Int) : List Int := l.map fun x => (x + 1) / 2
def learnP (l : List Int) (s : Nat) : List Int := if 8192 < (riseL l s).sum then halfL (riseL l s) else riseL l s
theorem riseL_len (l : List Int) (s : Nat) : (riseL l s).length = l.length := by simp [riseL]
theorem halfL_len (l : List Int) : (halfL l).length = l.length := by simp [halfL]
theorem learnP_len (l : List Int) (s : Nat) : (learnP l s).length = l.length := by unfold learnP; split <;> simp [halfL_len, riseL_len]
theorem getD_set' (l : List Int) (j k : Nat) (x : Int) (h : j < l.length) : (l.set j x).getD k 0 = if k = j then x else l.getD k 0 := by
  simp only [List.getD, List.getElem?_set]
  by_cases e : j = k
  · subst e; simp [h]
  · rw [if_neg e, if_neg (fun c => e c.symm)]
theorem sum_set (l : List Int) (s : Nat) (x : Int) (h : s < l.length) : (l.set s x).sum = l.sum - l.getD s 0 + x := by
  induction l generalizing s with
  | nil => simp at h
  | cons a l ih =>
    cases s with
    | zero => simp [List.getD]; omega
    | succ s =>
      have := ih s (by simpa using h)
      simp only [List.set_cons_succ, List.sum_cons, List.getD_cons_succ] at this ⊢
      omega
theorem riseL_sum {l : List Int} {s : Nat} (h : s < l.length) : (riseL l s).sum = l.sum + 32 := by
  unfold riseL; rw [sum_set l s _ h]; omega
theorem halfL_sum {l : List Int} : (halfL l).sum * 2 ≤ l.sum + l.length := by
  induction l with
  | nil => simp [halfL]
  | cons a l ih =>
    unfold halfL at *
    simp only [List.map_cons, List.sum_cons, List.length_cons]
    omega
theorem halfL_getD {l : List Int} {j : Nat} (h : j < l.length) : (halfL l).getD j 0 = (l.getD j 0 + 1) / 2 := by simp [halfL, List.getD, h]
theorem riseL_own {l : List Int} (h : GoodL l) {s j : Nat} (hs : s < l.length) (hj : j < l.length) : 1 ≤ (riseL l s).getD j 0 ∧ (riseL l s).getD j 0 ≤ 8224 := by
  unfold riseL
  rw [getD_set' l s j _ hs]
  have a := h.own hs
  have b := h.own hj
  split <;> omega
theorem learnP_good {l : List Int} (h : GoodL l) {s : Nat} (hs : s < l.length) : GoodL (learnP l s) := by
  have hsum := riseL_sum hs
  have h3 := h.2.2.2
  unfold learnP
  split
  · refine ⟨by rw [halfL_len, riseL_len]; exact h.1, by rw [halfL_len, riseL_len]; exact h.2.1, fun j hj => ?_, ?_⟩
    · rw [halfL_len, riseL_len] at hj
      rw [halfL_getD (by rw [riseL_len]; exact hj)]
      have := riseL_own h hs hj
      omega
    · have := halfL_sum (l := riseL l s)
      rw [riseL_len] at this
      have := h.2.1
      omega
  · refine ⟨by rw [riseL_len]; exact h.1, by rw [riseL_len]; exact h.2.1, fun j hj => ?_, by omega⟩
    rw [riseL_len] at hj
    exact (riseL_own h hs hj).1
theorem halfK_zero (l : List Int) : halfK l 0 = l := by simp [halfK]
theorem halfK_all (l : List Int) : halfK l l.length = halfL l := by simp [halfK, halfL]
theorem halfK_len (l : List Int) {k : Nat} (h : k ≤ l.length) : (halfK l k).length = l.length := by simp [halfK]; omega
theorem halfK_at (l : List Int) {k : Nat} (h : k < l.length) : (halfK l k).getD k 0 = l.getD k 0 := by
  unfold halfK
  simp only [List.getD, List.getElem?_append]
  rw [if_neg (by simp; omega)]
  simp only [List.length_map, List.length_take, Nat.min_eq_left (Nat.le_of_lt h), Nat.sub_self, List.getElem?_drop, Nat.add_zero]
theorem halfK_next (l : List Int) {k : Nat} (h : k < l.length) : (halfK l k).set k ((l.getD k 0 + 1) / 2) = halfK l (k + 1) := by
  unfold halfK
  rw [take_snocI l k h, List.map_append, List.append_assoc, List.set_append_right _ _ (by simp; omega)]
  congr 1
  simp only [List.length_map, List.length_take, Nat.min_eq_left (Nat.le_of_lt h), Nat.sub_self]
  rw [List.drop_eq_getElem_cons h, List.set_cons_zero]
  simp [List.getD, h]
end Go.Proofs.YtmgfkdmjgjlkjaaGreat

namespace Go.Proofs.YtmgfkdmjgjlkjaaGreat
open Go
set_option linter.unusedVariables false
structure EncS where
  n : Int
  s : Int
  k : Nat
def P256 (k : Nat) : Int := 256 ^ k
theorem P256_succ (k : Nat) : P256 (k + 1) = P256 k * 256 := by unfold P256; rw [Int.pow_succ]
theorem P256_add (a b : Nat) : P256 (a + b) = P256 a * P256 b := by unfold P256; rw [Int.pow_add]
theorem P256_pos (k : Nat) : 1 ≤ P256 k := by
  induction k with
  | zero => decide
  | succ k ih => rw [P256_succ]; omega
def scaleE (e : EncS) : EncS := if 16777216 ≤ e.s then e else if 16777216 ≤ e.s * 256 then ⟨e.n * 256, e.s * 256, e.k + 1⟩ else ⟨e.n * 65536, e.s * 65536, e.k + 2⟩
def encNew : EncS := ⟨0, 4294967295, 0⟩
def encPre (e : EncS) (low own all : Int) : EncS := ⟨e.n + e.s / all * low, e.s / all * own, e.k⟩
def encPut (e : EncS) (low own all : Int) : EncS := scaleE (encPre e low own all)
def OkP (low own all : Int) : Prop := 1 ≤ all ∧ all ≤ 8192 ∧ 1 ≤ own ∧ 0 ≤ low ∧ low + own ≤ all
def GoodE (e : EncS) : Prop := 16777216 ≤ e.s ∧ e.s ≤ 4294967295 ∧ 0 ≤ e.n ∧ e.n + e.s ≤ 4294967296 * P256 e.k
theorem goodE_new : GoodE encNew := by unfold GoodE encNew P256; decide
theorem each_bd {s all : Int} (h0 : 16777216 ≤ s) (h1 : s ≤ 4294967295) (a0 : 1 ≤ all) (a1 : all ≤ 8192) : 2048 ≤ s / all ∧ s / all ≤ 4294967295 ∧ s / all * all ≤ s := by
  refine ⟨?_, ?_, Int.ediv_mul_le s (by omega)⟩
  · rw [Int.le_ediv_iff_mul_le (by omega)]; omega
  · have := Int.ediv_le_self all (show 0 ≤ s by omega); omega
theorem encPre_bd {e : EncS} {low own all : Int} (h : GoodE e) (p : OkP low own all) :
    2048 ≤ (encPre e low own all).s ∧ (encPre e low own all).s ≤ 4294967295 ∧ 0 ≤ (encPre e low own all).n ∧ e.n ≤ (encPre e low own all).n ∧ (encPre e low own all).n + (encPre e low own all).s ≤ e.n + e.s := by
  obtain ⟨h1, h2, h3, h4⟩ := h
  obtain ⟨p1, p2, p3, p4, p5⟩ := p
  obtain ⟨e1, e2, e3⟩ := each_bd h1 h2 p1 p2
  unfold encPre
  simp only
  generalize e.s / all = E at e1 e2 e3
  have a1 : E * 1 ≤ E * own := Int.mul_le_mul_of_nonneg_left p3 (by omega)
  have a2 : 0 ≤ E * low := Int.mul_nonneg (by omega) p4
  have a3 : E * (low + own) ≤ E * all := Int.mul_le_mul_of_nonneg_left p5 (by omega)
  rw [Int.mul_add] at a3
  omega
theorem scaleE_step {e : EncS} (h : 256 ≤ e.s) (hs : e.s < 16777216) : scaleE e = scaleE ⟨e.n * 256, e.s * 256, e.k + 1⟩ := by
  unfold scaleE
  simp only
  rw [if_neg (by omega)]
  by_cases h1 : 16777216 ≤ e.s * 256
  · rw [if_pos h1, if_pos h1]
  · rw [if_neg h1, if_neg h1, if_pos (by omega)]
    congr 1 <;> omega
theorem scaleE_end {e : EncS} (h : 16777216 ≤ e.s) : scaleE e = e := by unfold scaleE; rw [if_pos h]
def Inside (e f : EncS) : Prop := e.k ≤ f.k ∧ e.n * P256 (f.k - e.k) ≤ f.n ∧ f.n + f.s ≤ (e.n + e.s) * P256 (f.k - e.k)
theorem Inside.refl (e : EncS) : Inside e e := by
  unfold Inside
  rw [Nat.sub_self]
  show _ ∧ e.n * 1 ≤ _ ∧ _ ≤ (e.n + e.s) * 1
  omega
theorem Inside.trans {a b c : EncS} (h : Inside a b) (g : Inside b c) : Inside a c := by
  obtain ⟨h1, h2, h3⟩ := h
  obtain ⟨g1, g2, g3⟩ := g
  have e : c.k - a.k = (b.k - a.k) + (c.k - b.k) := by omega
  have p := P256_pos (c.k - b.k)
  refine ⟨by omega, ?_, ?_⟩
  · rw [e, P256_add, ← Int.mul_assoc]
    exact Int.le_trans (Int.mul_le_mul_of_nonneg_right h2 (by omega)) g2
  · rw [e, P256_add, ← Int.mul_assoc]
    exact Int.le_trans g3 (Int.mul_le_mul_of_nonneg_right h3 (by omega))
theorem scaleE_inside (e : EncS) : Inside e (scaleE e) ∧ (scaleE e).n = e.n * P256 ((scaleE e).k - e.k) ∧ (scaleE e).s = e.s * P256 ((scaleE e).k - e.k) := by
  have p1 : P256 1 = 256 := by decide
  have p2 : P256 2 = 65536 := by decide
  have p0 : P256 0 = 1 := by decide
  by_cases h1 : 16777216 ≤ e.s
  · rw [scaleE_end h1]
    refine ⟨Inside.refl e, ?_, ?_⟩
    · rw [Nat.sub_self, p0]; omega
    · rw [Nat.sub_self, p0]; omega
  · by_cases h2 : 16777216 ≤ e.s * 256
    · have hx : scaleE e = ⟨e.n * 256, e.s * 256, e.k + 1⟩ := by unfold scaleE; rw [if_neg h1, if_pos h2]
      have k1 : e.k + 1 - e.k = 1 := by omega
      rw [hx]
      unfold Inside
      simp only [k1, p1]
      refine ⟨⟨by omega, ?_, ?_⟩, trivial, trivial⟩
      · exact Int.le_refl _
      · omega
    · have hx : scaleE e = ⟨e.n * 65536, e.s * 65536, e.k + 2⟩ := by unfold scaleE; rw [if_neg h1, if_neg h2]
      have k2 : e.k + 2 - e.k = 2 := by omega
      rw [hx]
      unfold Inside
      simp only [k2, p2]
      refine ⟨⟨by omega, ?_, ?_⟩, trivial, trivial⟩
      · exact Int.le_refl _
      · omega
theorem encPre_inside {e : EncS} {low own all : Int} (h : GoodE e) (p : OkP low own all) : Inside e (encPre e low own all) := by
  obtain ⟨a, b, c, d, f⟩ := encPre_bd h p
  have k : (encPre e low own all).k - e.k = 0 := Nat.sub_self _
  refine ⟨Nat.le_refl _, ?_, ?_⟩ <;> rw [k] <;> show _ ≤ _
  · show e.n * 1 ≤ _; omega
  · show _ ≤ (e.n + e.s) * 1; omega
theorem encPut_inside {e : EncS} {low own all : Int} (h : GoodE e) (p : OkP low own all) : Inside e (encPut e low own all) := (encPre_inside h p).trans (scaleE_inside _).1
theorem scaleE_good {e : EncS} (h0 : 2048 ≤ e.s) (h1 : e.s ≤ 4294967295) (h2 : 0 ≤ e.n) (h3 : e.n + e.s ≤ 4294967296 * P256 e.k) : GoodE (scaleE e) := by
  have p := P256_pos e.k
  unfold scaleE GoodE
  split
  · exact ⟨by assumption, h1, h2, h3⟩
  · split
    · simp only [P256_succ]; omega
    · simp only [show e.k + 2 = e.k + 1 + 1 by omega, P256_succ]; omega
theorem encPut_good {e : EncS} {low own all : Int} (h : GoodE e) (p : OkP low own all) : GoodE (encPut e low own all) := by
  obtain ⟨a, b, c, d, f⟩ := encPre_bd h p
  exact scaleE_good a b c (Int.le_trans f h.2.2.2)
theorem encPut_k (e : EncS) (low own all : Int) : (encPut e low own all).k ≤ e.k + 2 := by
  unfold encPut scaleE
  have h : (encPre e low own all).k = e.k := rfl
  split
  · omega
  · split <;> simp only <;> omega
def valB (b : Nat → Int) : Nat → Int
  | 0 => 0
  | i + 1 => valB b i * 256 + b i
def digB (n : Int) (len j : Nat) : Int := n / P256 (len - 1 - j) % 256
theorem valB_dig {n : Int} {len : Nat} {b : Nat → Int} (hn : 0 ≤ n) (hl : n < P256 len) (hb : ∀ j, j < len → b j = digB n len j) : ∀ i, i ≤ len → valB b i = n / P256 (len - i) := by
  intro i
  induction i with
  | zero =>
    intro _
    show (0 : Int) = _
    rw [Nat.sub_zero, Int.ediv_eq_zero_of_lt hn hl]
  | succ i ih =>
    intro hi
    show valB b i * 256 + b i = _
    rw [ih (by omega), hb i (by omega)]
    unfold digB
    have e : len - i = (len - (i + 1)) + 1 := by omega
    have e2 : len - 1 - i = len - (i + 1) := by omega
    rw [e, e2, P256_succ, ← Int.ediv_ediv_of_nonneg (by have := P256_pos (len - (i + 1)); omega)]
    omega
theorem valB_nonneg {b : Nat → Int} (hb : ∀ j, 0 ≤ b j) : ∀ i, 0 ≤ valB b i := by
  intro i
  induction i with
  | zero => exact Int.le_refl _
  | succ i ih => show 0 ≤ valB b i * 256 + b i; have := hb i; omega
theorem valB_same {b c : Nat → Int} : ∀ i, (∀ j, j < i → b j = c j) → valB b i = valB c i := by
  intro i
  induction i with
  | zero => intro _; rfl
  | succ i ih => intro h; show valB b i * 256 + b i = valB c i * 256 + c i; rw [ih (fun j hj => h j (by omega)), h i (by omega)]
structure DecS where
  c : Int
  s : Int
  i : Nat
def scaleD (b : Nat → Int) (d : DecS) : DecS :=
  if 16777216 ≤ d.s then d else if 16777216 ≤ d.s * 256 then ⟨d.c * 256 + b d.i, d.s * 256, d.i + 1⟩ else ⟨(d.c * 256 + b d.i) * 256 + b (d.i + 1), d.s * 65536, d.i + 2⟩
def decNew (b : Nat → Int) : DecS := ⟨valB b 4, 4294967295, 4⟩
def decAt (d : DecS) (all : Int) : Int := if all ≤ d.c / (d.s / all) then all - 1 else d.c / (d.s / all)
def decPre (d : DecS) (low own all : Int) : DecS := ⟨if d.s / all * own ≤ d.c - d.s / all * low then d.s / all * own - 1 else d.c - d.s / all * low, d.s / all * own, d.i⟩
def decTake (b : Nat → Int) (d : DecS) (low own all : Int) : DecS := scaleD b (decPre d low own all)
def GoodD (d : DecS) : Prop := 16777216 ≤ d.s ∧ d.s ≤ 4294967295 ∧ 0 ≤ d.c ∧ d.c ≤ 4294967295
theorem scaleD_step (b : Nat → Int) {d : DecS} (h : 256 ≤ d.s) (hs : d.s < 16777216) : scaleD b d = scaleD b ⟨d.c * 256 + b d.i, d.s * 256, d.i + 1⟩ := by
  unfold scaleD
  simp only
  rw [if_neg (by omega)]
  by_cases h1 : 16777216 ≤ d.s * 256
  · rw [if_pos h1, if_pos h1]
  · rw [if_neg h1, if_neg h1, if_pos (by omega)]
    congr 1
    omega
theorem scaleD_end (b : Nat → Int) {d : DecS} (h : 16777216 ≤ d.s) : scaleD b d = d := by unfold scaleD; rw [if_pos h]
theorem decAt_bd {d : DecS} {all : Int} (h : GoodD d) (a0 : 1 ≤ all) (a1 : all ≤ 8192) : 0 ≤ decAt d all ∧ decAt d all < all ∧ d.s / all * decAt d all ≤ d.c := by
  obtain ⟨h1, h2, h3, h4⟩ := h
  obtain ⟨e1, e2, e3⟩ := each_bd h1 h2 a0 a1
  unfold decAt
  generalize d.s / all = E at e1 e2 e3
  have q0 : 0 ≤ d.c / E := Int.ediv_nonneg h3 (by omega)
  have q1 : d.c / E * E ≤ d.c := Int.ediv_mul_le d.c (by omega)
  split
  · have : E * (all - 1) ≤ E * (d.c / E) := Int.mul_le_mul_of_nonneg_left (by omega) (by omega)
    rw [Int.mul_comm E (d.c / E)] at this
    exact ⟨by omega, by omega, by omega⟩
  · rw [Int.mul_comm] at q1
    exact ⟨q0, by omega, q1⟩
theorem decPre_bd {d : DecS} {low own all : Int} (h : GoodD d) (p : OkP low own all) (hl : d.s / all * low ≤ d.c) :
    2048 ≤ (decPre d low own all).s ∧ (decPre d low own all).s ≤ 4294967295 ∧ 0 ≤ (decPre d low own all).c ∧ (decPre d low own all).c < (decPre d low own all).s := by
  obtain ⟨h1, h2, h3, h4⟩ := h
  obtain ⟨p1, p2, p3, p4, p5⟩ := p
  obtain ⟨e1, e2, e3⟩ := each_bd h1 h2 p1 p2
  unfold decPre
  simp only
  generalize d.s / all = E at e1 e2 e3 hl
  have a1 : E * 1 ≤ E * own := Int.mul_le_mul_of_nonneg_left p3 (by omega)
  have a2 : 0 ≤ E * low := Int.mul_nonneg (by omega) p4
  have a3 : E * (low + own) ≤ E * all := Int.mul_le_mul_of_nonneg_left p5 (by omega)
  rw [Int.mul_add] at a3
  refine ⟨by omega, by omega, ?_, ?_⟩
  · split <;> omega
  · split <;> omega
theorem scaleD_good {b : Nat → Int} {d : DecS} (hb : ∀ j, 0 ≤ b j ∧ b j ≤ 255) (h0 : 2048 ≤ d.s) (h1 : d.s ≤ 4294967295) (h2 : 0 ≤ d.c) (h3 : d.c < d.s) : GoodD (scaleD b d) ∧ (scaleD b d).c < (scaleD b d).s := by
  have b0 := hb d.i
  have b1 := hb (d.i + 1)
  unfold scaleD GoodD
  split
  · omega
  · split
    · simp only; omega
    · simp only; omega
theorem decTake_good {b : Nat → Int} {d : DecS} {low own all : Int} (hb : ∀ j, 0 ≤ b j ∧ b j ≤ 255) (h : GoodD d) (p : OkP low own all) (hl : d.s / all * low ≤ d.c) : GoodD (decTake b d low own all) ∧ (decTake b d low own all).c < (decTake b d low own all).s := by
  obtain ⟨a1, a2, a3, a4⟩ := decPre_bd h p hl
  exact scaleD_good hb a1 a2 a3 a4
def Sync (b : Nat → Int) (e : EncS) (d : DecS) : Prop := d.s = e.s ∧ d.i = e.k + 4 ∧ d.c = valB b (e.k + 4) - e.n
theorem sync_new (b : Nat → Int) : Sync b encNew (decNew b) := by unfold Sync encNew decNew; simp
def DigOf (b : Nat → Int) (f : EncS) : Prop := ∀ i, i ≤ f.k + 4 → valB b i = f.n / P256 (f.k + 4 - i)
theorem sync_scale {b : Nat → Int} {e : EncS} {d : DecS} (h : Sync b e d) : Sync b (scaleE e) (scaleD b d) := by
  obtain ⟨h1, h2, h3⟩ := h
  unfold scaleE scaleD
  rw [h1]
  split
  · exact ⟨h1, h2, h3⟩
  · split
    · refine ⟨rfl, by simp only; omega, ?_⟩
      simp only
      rw [h3, h2, show e.k + 1 + 4 = e.k + 4 + 1 by omega]
      show _ = valB b (e.k + 4) * 256 + b (e.k + 4) - _
      omega
    · refine ⟨rfl, by simp only; omega, ?_⟩
      simp only
      rw [h3, h2, show e.k + 2 + 4 = e.k + 4 + 1 + 1 by omega]
      show _ = (valB b (e.k + 4) * 256 + b (e.k + 4)) * 256 + b (e.k + 4 + 1) - _
      omega
theorem comes_back {b : Nat → Int} {e f : EncS} {d : DecS} {low own all : Int} (hs : Sync b e d) (hg : GoodE e) (p : OkP low own all) (hi : Inside (encPut e low own all) f) (hf : 1 ≤ f.s) (hd : DigOf b f) :
    low ≤ decAt d all ∧ decAt d all < low + own ∧ Sync b (encPut e low own all) (decTake b d low own all) := by
  have hin : Inside (encPre e low own all) f := (scaleE_inside _).1.trans hi
  obtain ⟨i1, i2, i3⟩ := hin
  obtain ⟨s1, s2, s3⟩ := hs
  obtain ⟨h1, h2, h3, h4⟩ := hg
  obtain ⟨p1, p2, p3, p4, p5⟩ := p
  obtain ⟨e1, e2, e3⟩ := each_bd h1 h2 p1 p2
  have hk : (encPre e low own all).k = e.k := rfl
  have hn : (encPre e low own all).n = e.n + e.s / all * low := rfl
  have hss : (encPre e low own all).s = e.s / all * own := rfl
  rw [hk] at i1 i2 i3
  rw [hn] at i2 i3
  rw [hss] at i3
  have hv := hd (e.k + 4) (by omega)
  rw [show f.k + 4 - (e.k + 4) = f.k - e.k by omega] at hv
  have pp := P256_pos (f.k - e.k)
  generalize P256 (f.k - e.k) = P at i2 i3 hv pp
  have lo : e.n + e.s / all * low ≤ valB b (e.k + 4) := by rw [hv, Int.le_ediv_iff_mul_le (by omega)]; exact i2
  have hi' : valB b (e.k + 4) < e.n + e.s / all * low + e.s / all * own := by
    rw [hv, Int.ediv_lt_iff_lt_mul (by omega)]; omega
  have hc0 : e.s / all * low ≤ d.c := by omega
  have hc1 : d.c < e.s / all * low + e.s / all * own := by omega
  have q0 : low ≤ d.c / (e.s / all) := by rw [Int.le_ediv_iff_mul_le (by omega), Int.mul_comm]; exact hc0
  have q1 : d.c / (e.s / all) < low + own := by
    rw [Int.ediv_lt_iff_lt_mul (by omega), Int.mul_comm, Int.mul_add]; exact hc1
  have hat : decAt d all = d.c / (e.s / all) := by
    unfold decAt; rw [s1, if_neg (by omega)]
  refine ⟨by omega, by omega, ?_⟩
  refine sync_scale (e := encPre e low own all) ⟨?_, ?_, ?_⟩
  · show d.s / all * own = _; rw [s1]; rfl
  · exact s2
  · show (if d.s / all * own ≤ d.c - d.s / all * low then _ else d.c - d.s / all * low) = valB b (e.k + 4) - (e.n + e.s / all * low)
    rw [s1, if_neg (by omega), s3]; omega
end Go.Proofs.YtmgfkdmjgjlkjaaGreat

namespace Go.Proofs.YtmgfkdmjgjlkjaaGreat
open Go
set_option linter.unusedVariables false
def valL (D : List Int) : Int := valB (fun j => D.getD j 0) D.length
theorem valB_bump {b c : Nat → Int} {j : Nat} {x : Int} (h : ∀ i, i ≠ j → c i = b i) (hj : c j = b j + x) : ∀ i, (i ≤ j → valB c i = valB b i) ∧ (j < i → valB c i = valB b i + x * P256 (i - 1 - j)) := by
  intro i
  induction i with
  | zero => exact ⟨fun _ => rfl, fun h => by omega⟩
  | succ i ih =>
    constructor
    · intro hi
      show valB c i * 256 + c i = valB b i * 256 + b i
      rw [ih.1 (by omega), h i (by omega)]
    · intro hi
      show valB c i * 256 + c i = valB b i * 256 + b i + _
      by_cases e : i = j
      · subst e
        rw [ih.1 (Nat.le_refl _), hj, show i + 1 - 1 - i = 0 by omega]
        show _ = _ + x * 1
        omega
      · rw [ih.2 (by omega), h i e, show i + 1 - 1 - j = (i - 1 - j) + 1 by omega, P256_succ, Int.add_mul, ← Int.mul_assoc]
        omega
theorem valL_set (D : List Int) {j : Nat} (hj : j < D.length) (x : Int) : valL (D.set j x) = valL D + (x - D.getD j 0) * P256 (D.length - 1 - j) := by
  unfold valL
  rw [List.length_set]
  have := (valB_bump (b := fun i => D.getD i 0) (c := fun i => (D.set j x).getD i 0) (j := j) (x := x - D.getD j 0)
    (fun i hi => by rw [getD_set' D j i x hj, if_neg hi]) (by rw [getD_set' D j j x hj, if_pos rfl]; omega) D.length).2 hj
  exact this
theorem valL_snoc (D : List Int) (x : Int) : valL (D ++ [x]) = valL D * 256 + x := by
  unfold valL
  rw [List.length_append]
  show valB _ D.length * 256 + _ = _
  have e : valB (fun j => (D ++ [x]).getD j 0) D.length = valB (fun j => D.getD j 0) D.length := by
    refine valB_same _ fun j hj => ?_
    simp [List.getD, List.getElem?_append, hj]
  rw [e]
  simp [List.getD]
def IsDig (D : List Int) : Prop := ∀ j, j < D.length → 0 ≤ D.getD j 0 ∧ D.getD j 0 ≤ 255
theorem valL_take {D : List Int} (h : IsDig D) : ∀ i, i ≤ D.length → valB (fun j => D.getD j 0) (D.length - i) = valL D / P256 i := by
  intro i
  induction i with
  | zero => intro _; show _ = valL D / 1; rw [Int.ediv_one]; rfl
  | succ i ih =>
    intro hi
    have ih' := ih (by omega)
    have hd := h (D.length - (i + 1)) (by omega)
    have e : D.length - i = (D.length - (i + 1)) + 1 := by omega
    rw [e] at ih'
    have e2 : valB (fun j => D.getD j 0) (D.length - (i + 1) + 1) = valB (fun j => D.getD j 0) (D.length - (i + 1)) * 256 + D.getD (D.length - (i + 1)) 0 := rfl
    rw [e2] at ih'
    rw [P256_succ, ← Int.ediv_ediv_of_nonneg (by have := P256_pos i; omega), ← ih']
    omega
theorem dig_at {D : List Int} (h : IsDig D) {j : Nat} (hj : j < D.length) : D.getD j 0 = digB (valL D) D.length j := by
  have a := valL_take h (D.length - 1 - j) (by omega)
  have e : D.length - (D.length - 1 - j) = j + 1 := by omega
  rw [e] at a
  unfold digB
  rw [← a]
  have hd := h j hj
  have e2 : valB (fun i => D.getD i 0) (j + 1) = valB (fun i => D.getD i 0) j * 256 + D.getD j 0 := rfl
  rw [e2]
  omega
def digL (n : Int) (len : Nat) : List Int := (List.range len).map (digB n len)
theorem digL_len (n : Int) (len : Nat) : (digL n len).length = len := by simp [digL]
theorem digL_getD (n : Int) {len j : Nat} (h : j < len) : (digL n len).getD j 0 = digB n len j := by simp [digL, List.getD, h]
theorem digB_bd (n : Int) (len j : Nat) : 0 ≤ digB n len j ∧ digB n len j ≤ 255 := by unfold digB; omega
theorem digL_dig (n : Int) (len : Nat) : IsDig (digL n len) := by
  intro j hj
  rw [digL_len] at hj
  rw [digL_getD n hj]; exact digB_bd n len j
theorem dig_unique {D : List Int} (h : IsDig D) : D = digL (valL D) D.length := by
  apply List.ext_getElem?
  intro i
  by_cases hi : i < D.length
  · have := dig_at h hi
    rw [← digL_getD (valL D) hi] at this
    have h2 : i < (digL (valL D) D.length).length := by rw [digL_len]; exact hi
    rw [List.getElem?_eq_getElem hi, List.getElem?_eq_getElem h2]
    simpa [List.getD, List.getElem?_eq_getElem hi, List.getElem?_eq_getElem h2] using this
  · rw [List.getElem?_eq_none (by omega), List.getElem?_eq_none (by rw [digL_len]; omega)]
theorem digL_val {n : Int} {len : Nat} (h0 : 0 ≤ n) (h1 : n < P256 len) : valL (digL n len) = n := by
  have := valB_dig (b := fun j => (digL n len).getD j 0) h0 h1 (fun j hj => digL_getD n hj) len (Nat.le_refl _)
  rw [Nat.sub_self] at this
  unfold valL
  rw [digL_len, this]
  exact Int.ediv_one n
theorem digL_more {n : Int} {len : Nat} (h0 : 0 ≤ n) (h1 : n < P256 len) : digL n len ++ [0] = digL (n * 256) (len + 1) := by
  have hd : IsDig (digL n len ++ [0]) := by
    intro j hj
    rw [List.length_append, digL_len] at hj
    by_cases e : j < len
    · have : (digL n len ++ [0]).getD j 0 = digB n len j := by
        rw [← digL_getD n e]; simp [List.getD, List.getElem?_append, digL_len, e]
      rw [this]; exact digB_bd n len j
    · have : (digL n len ++ [0]).getD j 0 = 0 := by
        simp only [List.getD, List.getElem?_append, digL_len, if_neg e]
        cases hh : j - len <;> simp
      rw [this]; omega
  have := dig_unique hd
  rw [valL_snoc, digL_val h0 h1, List.length_append, digL_len, Int.add_zero] at this
  exact this
theorem valL_lt {D : List Int} (h : IsDig D) : 0 ≤ valL D ∧ valL D < P256 D.length := by
  have a := valL_take h D.length (Nat.le_refl _)
  rw [Nat.sub_self] at a
  have z : valB (fun j => D.getD j 0) 0 = 0 := rfl
  rw [z] at a
  have p := P256_pos D.length
  have n0 : 0 ≤ valL D := by
    unfold valL
    have : ∀ i, i ≤ D.length → 0 ≤ valB (fun j => D.getD j 0) i := by
      intro i
      induction i with
      | zero => intro _; exact Int.le_refl _
      | succ i ih =>
        intro hi
        have := ih (by omega)
        have := (h i (by omega)).1
        show 0 ≤ valB _ i * 256 + D.getD i 0
        omega
    exact this _ (Nat.le_refl _)
  refine ⟨n0, ?_⟩
  rcases Int.lt_or_le (valL D) (P256 D.length) with h1 | h1
  · exact h1
  · have : 1 ≤ valL D / P256 D.length := by rw [Int.le_ediv_iff_mul_le (by omega)]; omega
    omega
def addL (D : List Int) (K : Nat) (add : Int) : Nat → List Int
  | 0 => D
  | j + 1 => (addL D K add j).set (K + 3 - j) ((addL D K add j).getD (K + 3 - j) 0 + add / P256 j % 256)
theorem addL_len (D : List Int) (K : Nat) (add : Int) (j : Nat) : (addL D K add j).length = D.length := by
  induction j with
  | zero => rfl
  | succ j ih => unfold addL; rw [List.length_set]; exact ih
theorem addL_getD {D : List Int} {K : Nat} (add : Int) (hl : D.length = K + 4) : ∀ j, j ≤ 4 → ∀ i, (i + j ≤ K + 3 → (addL D K add j).getD i 0 = D.getD i 0) ∧ (K + 3 < i + j → i < K + 4 → (addL D K add j).getD i 0 = D.getD i 0 + add / P256 (K + 3 - i) % 256) := by
  intro j
  induction j with
  | zero => intro _ i; exact ⟨fun _ => rfl, fun h h' => by omega⟩
  | succ j ih =>
    intro hj i
    have ihi := ih (by omega) i
    have ihj := ih (by omega) (K + 3 - j)
    unfold addL
    rw [getD_set' _ _ _ _ (by rw [addL_len]; omega)]
    constructor
    · intro hi; rw [if_neg (by omega)]; exact ihi.1 (by omega)
    · intro hi hi'
      by_cases e : i = K + 3 - j
      · rw [if_pos e, e, ihj.1 (by omega), show K + 3 - (K + 3 - j) = j by omega]
      · rw [if_neg e]; exact ihi.2 (by omega) hi'
theorem addL_val {D : List Int} {K : Nat} {add : Int} (hl : D.length = K + 4) (h0 : 0 ≤ add) (h1 : add ≤ 4294967295) : valL (addL D K add 4) = valL D + add := by
  have s : ∀ j, j ≤ 3 → valL (addL D K add (j + 1)) = valL (addL D K add j) + add / P256 j % 256 * P256 j := by
    intro j hj
    conv => lhs; unfold addL
    rw [valL_set _ (by rw [addL_len]; omega), addL_len, hl, show K + 4 - 1 - (K + 3 - j) = j by omega]
    congr 2; omega
  rw [s 3 (by omega), s 2 (by omega), s 1 (by omega), s 0 (by omega)]
  show valL D + _ + _ + _ + _ = _
  have p0 : P256 0 = 1 := by decide
  have p1 : P256 1 = 256 := by decide
  have p2 : P256 2 = 65536 := by decide
  have p3 : P256 3 = 16777216 := by decide
  rw [p0, p1, p2, p3]
  omega
def Carry (D : List Int) (K i : Nat) : Prop :=
  D.length = K + 4 ∧ i < K + 4 ∧ (∀ j, i < j → j < K + 4 → 0 ≤ D.getD j 0 ∧ D.getD j 0 ≤ 255) ∧ (∀ j, j < i → 0 ≤ D.getD j 0 ∧ D.getD j 0 ≤ 510 ∧ (j < K → D.getD j 0 ≤ 255)) ∧ 0 ≤ D.getD i 0 ∧ D.getD i 0 ≤ 511 ∧ (i < K → D.getD i 0 ≤ 256)
theorem carry_start {D : List Int} {K : Nat} {add : Int} (hl : D.length = K + 4) (hd : IsDig D) : Carry (addL D K add 4) K (K + 3) := by
  have key := addL_getD (D := D) (K := K) add hl 4 (Nat.le_refl _)
  refine ⟨by rw [addL_len]; exact hl, by omega, fun j h1 h2 => by omega, fun j hj => ?_, ?_, ?_, fun h => by omega⟩
  · have dj := hd j (by omega)
    by_cases h : j < K
    · rw [(key j).1 (by omega)]; omega
    · rw [(key j).2 (by omega) (by omega)]
      have := Int.emod_nonneg (add / P256 (K + 3 - j)) (b := 256) (by decide)
      have := Int.emod_lt_of_pos (add / P256 (K + 3 - j)) (b := 256) (by decide)
      omega
  · have dj := hd (K + 3) (by omega)
    rw [(key (K + 3)).2 (by omega) (by omega)]
    have := Int.emod_nonneg (add / P256 (K + 3 - (K + 3))) (b := 256) (by decide)
    omega
  · have dj := hd (K + 3) (by omega)
    rw [(key (K + 3)).2 (by omega) (by omega)]
    have := Int.emod_lt_of_pos (add / P256 (K + 3 - (K + 3))) (b := 256) (by decide)
    omega
def carry1 (D : List Int) (i : Nat) : List Int := (D.set i (D.getD i 0 - 256)).set (i - 1) ((D.set i (D.getD i 0 - 256)).getD (i - 1) 0 + 1)
theorem carry1_val {D : List Int} {i : Nat} (h0 : 0 < i) (hi : i < D.length) : valL (carry1 D i) = valL D := by
  unfold carry1
  rw [valL_set _ (by rw [List.length_set]; omega), List.length_set, valL_set _ hi, show D.length - 1 - (i - 1) = (D.length - 1 - i) + 1 by omega, P256_succ]
  have e1 : D.getD i 0 - 256 - D.getD i 0 = -256 := by omega
  have e2 : (D.set i (D.getD i 0 - 256)).getD (i - 1) 0 + 1 - (D.set i (D.getD i 0 - 256)).getD (i - 1) 0 = 1 := by omega
  rw [e1, e2]
  omega
theorem carry1_getD {D : List Int} {i : Nat} (h0 : 0 < i) (hi : i < D.length) (j : Nat) : (carry1 D i).getD j 0 = if j = i then D.getD i 0 - 256 else if j = i - 1 then D.getD (i - 1) 0 + 1 else D.getD j 0 := by
  unfold carry1
  rw [getD_set' _ _ _ _ (by rw [List.length_set]; omega), getD_set' _ _ _ _ hi, getD_set' _ _ _ _ hi]
  by_cases e : j = i
  · rw [if_neg (by omega), if_pos e, if_pos e]
  · by_cases e2 : j = i - 1
    · rw [if_pos e2, if_neg (show ¬ i - 1 = i by omega), if_neg e, if_pos e2]
    · rw [if_neg e2, if_neg e, if_neg e, if_neg e2]
theorem carry_yes {D : List Int} {K i : Nat} (h : Carry D K i) (h0 : 0 < i) (hb : 255 < D.getD i 0) : Carry (carry1 D i) K (i - 1) := by
  obtain ⟨a, b, c, d, e, f, g⟩ := h
  have key := carry1_getD (D := D) h0 (by omega)
  have dm := d (i - 1) (by omega)
  refine ⟨by unfold carry1; rw [List.length_set, List.length_set]; exact a, by omega, fun j h1 h2 => ?_, fun j hj => ?_, ?_, ?_, fun hk => ?_⟩
  · rw [key j]
    by_cases e1 : j = i
    · rw [if_pos e1]; omega
    · rw [if_neg e1, if_neg (by omega)]; exact c j (by omega) h2
  · rw [key j, if_neg (by omega), if_neg (by omega)]; exact d j (by omega)
  · rw [key (i - 1), if_neg (by omega), if_pos rfl]; omega
  · rw [key (i - 1), if_neg (by omega), if_pos rfl]; omega
  · rw [key (i - 1), if_neg (by omega), if_pos rfl]; have := dm.2.2 hk; omega
theorem carry_no {D : List Int} {K i : Nat} (h : Carry D K i) (h0 : 0 < i) (hb : D.getD i 0 ≤ 255) : Carry D K (i - 1) := by
  obtain ⟨a, b, c, d, e, f, g⟩ := h
  have dm := d (i - 1) (by omega)
  refine ⟨a, by omega, fun j h1 h2 => ?_, fun j hj => d j (by omega), dm.1, by omega, fun hk => by have := dm.2.2 hk; omega⟩
  by_cases e1 : j = i
  · subst e1; exact ⟨e, hb⟩
  · exact c j (by omega) h2
theorem carry_stop {D : List Int} {K i : Nat} (h : Carry D K i) (hk : i < K) (hb : D.getD i 0 ≤ 255) : IsDig D := by
  obtain ⟨a, b, c, d, e, f, g⟩ := h
  intro j hj
  rcases Nat.lt_trichotomy j i with h1 | h1 | h1
  · have := d j h1; exact ⟨this.1, this.2.2 (by omega)⟩
  · subst h1; exact ⟨e, hb⟩
  · exact c j h1 (by omega)
theorem carry_head {D : List Int} {K : Nat} (h : Carry D K 0) (hv : valL D < P256 (K + 4)) : IsDig D := by
  obtain ⟨a, b, c, d, e, f, g⟩ := h
  have hb : D.getD 0 0 ≤ 255 := by
    rcases Int.lt_or_le 255 (D.getD 0 0) with h1 | h1
    · exfalso
      have s := valL_set D (j := 0) (by omega) 0
      have hd : IsDig (D.set 0 0) := by
        intro j hj
        rw [List.length_set] at hj
        rw [getD_set' D 0 j 0 (by omega)]
        by_cases e1 : j = 0
        · rw [if_pos e1]; omega
        · rw [if_neg e1]; exact c j (by omega) (by omega)
      have n0 := (valL_lt hd).1
      rw [s, a, show K + 4 - 1 - 0 = K + 3 by omega] at n0
      rw [P256_succ] at hv
      have p := P256_pos (K + 3)
      have : 256 * P256 (K + 3) ≤ D.getD 0 0 * P256 (K + 3) := Int.mul_le_mul_of_nonneg_right (by omega) (by omega)
      have e3 : (0 - D.getD 0 0) * P256 (K + 3) = -(D.getD 0 0 * P256 (K + 3)) := by rw [Int.zero_sub, Int.neg_mul]
      rw [e3] at n0
      omega
    · exact h1
  intro j hj
  by_cases e1 : j = 0
  · subst e1; exact ⟨e, hb⟩
  · exact c j (by omega) (by omega)
end Go.Proofs.YtmgfkdmjgjlkjaaGreat
