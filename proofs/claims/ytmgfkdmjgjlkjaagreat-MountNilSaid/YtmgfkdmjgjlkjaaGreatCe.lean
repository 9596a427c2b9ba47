/- Plain facts, and what functions give, for the proofs of this seat: several texts in one, each with its own first remark. -/
import Derived.Test.YtmgfkdmjgjlkjaaGreatCd
import Derived.Laws.MathBits

namespace Go.Proofs.YtmgfkdmjgjlkjaaGreat
open Go.RowKit
set_option linter.unusedVariables false
def tabF (n : Nat) (f : Nat → Int) : List Int := (List.range n).map f
theorem tabF_len (n : Nat) (f : Nat → Int) : (tabF n f).length = n := by simp [tabF]
theorem tabF_getD {n : Nat} (f : Nat → Int) {j : Nat} (h : j < n) : (tabF n f).getD j 0 = f j := by simp [tabF, List.getD, h]
theorem tabF_ext {n : Nat} {f g : Nat → Int} (h : ∀ j, j < n → f j = g j) : tabF n f = tabF n g := by
  unfold tabF
  exact List.map_congr_left fun j hj => h j (List.mem_range.1 hj)
theorem tabF_set {n : Nat} (f : Nat → Int) {j : Nat} (h : j < n) (x : Int) : (tabF n f).set j x = tabF n (fun i => if i = j then x else f i) := by
  apply List.ext_getElem?
  intro i
  unfold tabF
  rw [List.getElem?_set]
  by_cases hij : j = i
  · subst hij; simp [h]
  · rw [if_neg hij]
    by_cases hi : i < n
    · simp [hi, show ¬ i = j from fun e => hij e.symm]
    · simp [hi]
def IFun (w : World) (g : Nat) (t : TypeId) (k : IntKind) (n : Nat) (f : Nat → Int) : Prop := IRow w g t k (tabF n f)
section
variable {w w' : World} {g : Nat} {t : TypeId} {k : IntKind} {n : Nat} {f f' : Nat → Int}
theorem IFun.lt (h : IFun w g t k n f) : g < w.heap.size := IRow.lt h
theorem IFun.cell (h : IFun w g t k n f) {j : Nat} (hj : j < n) : w.cell? ⟨g, j, none⟩ = some (.int k (f j)) := by
  have := IRow.cell h (j := j) (by rw [tabF_len]; exact hj)
  rwa [tabF_getD f hj] at this
theorem IFun.frozen (h : IFun w g t k n f) (j : Nat) : w.frozen? ⟨g, j, none⟩ = false := IRow.frozen h j
theorem IFun.ext (h : IFun w g t k n f) (he : ∀ j, j < n → f j = f' j) : IFun w g t k n f' := by unfold IFun; rw [← tabF_ext he]; exact h
theorem IFun.set (h : IFun w g t k n f) {j : Nat} (hj : j < n) (x : Int) : IFun (w.setCell ⟨g, j, none⟩ (.int k x)) g t k n (fun i => if i = j then x else f i) := by
  have := IRow.set h j x
  rwa [tabF_set f hj] at this
theorem IFun.drewN (h : IFun w g t k n f) (i : Nat) : IFun (w.drewN i) g t k n f := h
theorem IFun.alloc (h : IFun w g t k n f) (o : Obj) : IFun (w.alloc o) g t k n f := IRow.alloc h o
theorem IFun.far (h : IFun w g t k n f) {p : Addr} (hp : g ≠ p.block) (u : Value) : IFun (w.setCell p u) g t k n f := IRow.far h hp u
theorem IFun.below {B : Nat} (h : IFun w g t k n f) (hb : Below B w w') (hg : g < B) : IFun w' g t k n f := IRow.below h hb hg
theorem IFun.zeros (w : World) (t : TypeId) (k : IntKind) (n : Nat) : IFun (w.alloc (.cells (madeCells #[.int k 0] n) t)) w.heap.size t k n (fun _ => 0) := by
  have := IRow.zeros w t k n
  have e : List.replicate n (0 : Int) = tabF n (fun _ => 0) := by
    apply List.ext_getElem?
    intro i
    unfold tabF
    by_cases hi : i < n
    · simp [hi]
    · simp [hi]
  rw [e] at this
  exact this
end
end Go.Proofs.YtmgfkdmjgjlkjaaGreat

namespace Go.Proofs.YtmgfkdmjgjlkjaaGreat
open Go.RowKit
set_option linter.unusedVariables false
theorem k_ten {k : Nat} (h : k < 10) : k = 0 ∨ k = 1 ∨ k = 2 ∨ k = 3 ∨ k = 4 ∨ k = 5 ∨ k = 6 ∨ k = 7 ∨ k = 8 ∨ k = 9 := by omega
theorem half_mod {k j : Nat} (h : k < 10) : j % 2 ^ k = 0 ↔ (j % 2 ^ (k + 1) = 0 ∨ j % 2 ^ (k + 1) = 2 ^ k) := by
  rcases k_ten h with rfl | rfl | rfl | rfl | rfl | rfl | rfl | rfl | rfl | rfl <;> simp <;> omega
theorem step_last {k a : Nat} (h : k < 10) (ha : a % 2 ^ (k + 1) = 0) (h1 : a ≤ 1024) (h2 : 1024 < a + 2 ^ (k + 1)) : a = 1024 := by
  rcases k_ten h with rfl | rfl | rfl | rfl | rfl | rfl | rfl | rfl | rfl | rfl <;> simp at * <;> omega
theorem step_next {k a : Nat} (ha : a % 2 ^ (k + 1) = 0) : (a + 2 ^ (k + 1)) % 2 ^ (k + 1) = 0 ∧ (a + 2 ^ k) % 2 ^ (k + 1) = 2 ^ k := by
  have hp : 2 ^ k < 2 ^ (k + 1) := Nat.pow_lt_pow_right (by decide) (by omega)
  constructor
  · rw [Nat.add_mod_right]; exact ha
  · rw [Nat.add_mod, ha, Nat.zero_add, Nat.mod_mod, Nat.mod_eq_of_lt hp]
def lev (k : Nat) (j : Nat) : Int := if j % 2 ^ k = 0 then cosN j else 0
def levA (k a : Nat) (j : Nat) : Int := if j % 2 ^ (k + 1) = 0 ∨ (j % 2 ^ (k + 1) = 2 ^ k ∧ j < a) then cosN j else 0
theorem levA_old {k a j : Nat} (h : j % 2 ^ (k + 1) = 0) : levA k a j = cosN j := if_pos (.inl h)
theorem levA_mid {k a : Nat} (h : 2 ^ k < a) : levA k a (2 ^ k) = cosN (2 ^ k) := by
  have hp : 2 ^ k < 2 ^ (k + 1) := Nat.pow_lt_pow_right (by decide) (by omega)
  exact if_pos (.inr ⟨Nat.mod_eq_of_lt hp, h⟩)
theorem levA_start {k : Nat} : ∀ j, (if j = 2 ^ k then cosN (2 ^ k) else lev (k + 1) j) = levA k (2 ^ (k + 1)) j := by
  intro j
  have hp : 2 ^ k < 2 ^ (k + 1) := Nat.pow_lt_pow_right (by decide) (by omega)
  by_cases e : j = 2 ^ k
  · subst e; rw [if_pos rfl, levA_mid hp]
  · rw [if_neg e]
    unfold lev levA
    by_cases h0 : j % 2 ^ (k + 1) = 0
    · rw [if_pos h0, if_pos (.inl h0)]
    · rw [if_neg h0, if_neg]
      rintro (h | ⟨h, hl⟩)
      · exact h0 h
      · rw [Nat.mod_eq_of_lt hl] at h; exact e h
theorem levA_next {k a : Nat} (ha : a % 2 ^ (k + 1) = 0) : ∀ j, (if j = a + 2 ^ k then cosN (a + 2 ^ k) else levA k a j) = levA k (a + 2 ^ (k + 1)) j := by
  intro j
  have hp : 2 ^ k < 2 ^ (k + 1) := Nat.pow_lt_pow_right (by decide) (by omega)
  obtain ⟨n1, n2⟩ := step_next ha
  by_cases e : j = a + 2 ^ k
  · subst e
    rw [if_pos rfl]
    exact (if_pos (.inr ⟨n2, by omega⟩)).symm
  · rw [if_neg e]
    unfold levA
    by_cases h0 : j % 2 ^ (k + 1) = 0
    · rw [if_pos (.inl h0), if_pos (.inl h0)]
    · by_cases h1 : j % 2 ^ (k + 1) = 2 ^ k
      · by_cases h2 : j < a
        · rw [if_pos (.inr ⟨h1, h2⟩), if_pos (.inr ⟨h1, by omega⟩)]
        · rw [if_neg (by rintro (h | ⟨_, h⟩) <;> omega), if_neg]
          rintro (h | ⟨_, h⟩)
          · exact h0 h
          · apply e
            have hja : (j - a) % 2 ^ (k + 1) = 2 ^ k := by
              have e1 : j = a + (j - a) := by omega
              rw [e1, Nat.add_mod, ha, Nat.zero_add, Nat.mod_mod] at h1
              exact h1
            rw [Nat.mod_eq_of_lt (by omega)] at hja
            omega
      · rw [if_neg (by rintro (h | ⟨h, _⟩) <;> contradiction), if_neg (by rintro (h | ⟨h, _⟩) <;> contradiction)]
theorem levA_end {k : Nat} (hk : k < 10) : ∀ j, j < 1025 → levA k 1024 j = lev k j := by
  intro j hj
  unfold lev levA
  have := half_mod (j := j) hk
  by_cases h0 : j % 2 ^ k = 0
  · rw [if_pos h0, if_pos]
    rcases this.1 h0 with h | h
    · exact .inl h
    · by_cases hj2 : j < 1024
      · exact .inr ⟨h, hj2⟩
      · obtain rfl : j = 1024 := by omega
        refine .inl ?_
        rcases k_ten hk with rfl | rfl | rfl | rfl | rfl | rfl | rfl | rfl | rfl | rfl <;> decide
  · rw [if_neg h0, if_neg]
    rintro (h | ⟨h, _⟩)
    · exact h0 (this.2 (.inl h))
    · exact h0 (this.2 (.inr h))
end Go.Proofs.YtmgfkdmjgjlkjaaGreat

namespace Go.Proofs.YtmgfkdmjgjlkjaaGreat
open Go.RowKit
set_option linter.unusedVariables false
theorem circle_in (i : Int) : ∃ P n : Nat, i % 4096 = P ∧ P < 4096 ∧ n ≤ 1024 ∧
    ((P ≤ 1024 ∧ P = n ∧ cosQ i = cosN n) ∨ (1024 < P ∧ P ≤ 2048 ∧ 2048 - P = n ∧ cosQ i = -(cosN n)) ∨ (2048 < P ∧ P < 3072 ∧ 2048 - (4096 - P) = n ∧ cosQ i = -(cosN n)) ∨ (3072 ≤ P ∧ 4096 - P = n ∧ cosQ i = cosN n)) := by
  rcases circle_at i with ⟨n, h, l⟩ | ⟨n, h, l⟩ | ⟨n, h, l0, l⟩ | ⟨n, h, l0, l⟩
  · exact ⟨n, n, h, by omega, l, .inl ⟨l, rfl, cosQ_in h l⟩⟩
  · exact ⟨2048 - n, n, by omega, by omega, by omega, .inr (.inl ⟨by omega, by omega, by omega, cosQ_2 h l⟩)⟩
  · exact ⟨2048 + n, n, by omega, by omega, by omega, .inr (.inr (.inl ⟨by omega, by omega, by omega, cosQ_3 h l0 l⟩))⟩
  · exact ⟨4096 - n, n, by omega, by omega, by omega, .inr (.inr (.inr ⟨by omega, by omega, cosQ_4 h l0 l⟩))⟩
def edgesL : List Int := [0, 4, 8, 12, 16, 20, 24, 28, 32, 40, 48, 56, 64, 80, 96, 112, 128, 160, 192, 256, 352, 512]
def edgeN (k : Nat) : Int := edgesL.getD k 0
theorem edge_bd : ∀ k : Nat, k < 22 → 0 ≤ edgeN k ∧ edgeN k ≤ 512 := by decide
def ofN (n : Nat) : Nat := (edgesL.filter fun e => decide (e ≤ (n : Int))).length - 1
theorem ofN_all : ∀ n : Nat, n < 512 → 1 ≤ (edgesL.filter fun e => decide (e ≤ (n : Int))).length ∧ ofN n < 21 ∧ edgeN (ofN n) ≤ n ∧ (n : Int) < edgeN (ofN n + 1) := by decide +kernel
end Go.Proofs.YtmgfkdmjgjlkjaaGreat

namespace Go.Proofs.YtmgfkdmjgjlkjaaGreat
open Go Go.RowKit
set_option linter.unusedVariables false
def bitsI (x : Int) : Nat := bitLen x.natAbs
theorem bitLen_zero : bitLen 0 = 0 := rfl
theorem bitLen_le {n k : Nat} (h : n < 2 ^ k) : bitLen n ≤ k := by
  by_cases h0 : n = 0
  · subst h0; rw [bitLen_zero]; omega
  · have h1 := (bitLen_spec n).2 h0
    have h2 : 2 ^ (bitLen n - 1) < 2 ^ k := by omega
    have h3 := (Nat.pow_lt_pow_iff_right (by decide : 1 < 2)).1 h2
    omega
theorem bitsI_le {x : Int} (h0 : -2147483648 ≤ x) (h1 : x ≤ 2147483648) : bitsI x ≤ 32 := bitLen_le (by omega)
def maxTo (f : Nat → Int) (a : Nat) : Nat → Int
  | 0 => 0
  | n + 1 => max (maxTo f a n) (f (a + n))
theorem maxTo_succ (f : Nat → Int) (a n : Nat) : maxTo f a (n + 1) = max (maxTo f a n) (f (a + n)) := rfl
theorem maxTo_bd {f : Nat → Int} {a : Nat} {m : Int} (h : 0 ≤ m) : ∀ n, (∀ i, i < n → f (a + i) ≤ m) → 0 ≤ maxTo f a n ∧ maxTo f a n ≤ m := by
  intro n
  induction n with
  | zero => intro _; exact ⟨Int.le_refl _, h⟩
  | succ n ih =>
    intro hf
    have := ih fun i hi => hf i (by omega)
    have := hf n (by omega)
    rw [maxTo_succ]; omega
def edgeK (k : Nat) : Nat := (edgeN k).toNat
theorem edgeK_eq {k : Nat} (h : k < 22) : edgeN k = (edgeK k : Int) := by have := edge_bd k h; unfold edgeK; omega
theorem edgeK_lt : ∀ k : Nat, k < 21 → edgeK k < edgeK (k + 1) ∧ edgeK (k + 1) ≤ 512 := by decide
def bitF (x : Nat → Int) (i : Nat) : Int := bitsI (x i)
def ceilF (x : Nat → Int) (b : Nat) : Int := maxTo (bitF x) (edgeK b) (edgeK (b + 1) - edgeK b)
theorem bitF_bd {x : Nat → Int} (h : ∀ i, i < 512 → -2147483648 ≤ x i ∧ x i ≤ 2147483647) {i : Nat} (hi : i < 512) : 0 ≤ bitF x i ∧ bitF x i ≤ 32 := by
  have := bitsI_le (x := x i) (by have := h i hi; omega) (by have := h i hi; omega)
  unfold bitF; omega
def rightB (zs : List Int) : Bool := decide (zs.length = 21) && zs.all fun z => decide (0 ≤ z) && decide (z ≤ 26)
theorem rightB_true {zs : List Int} (h : rightB zs = true) : zs.length = 21 ∧ ∀ j, j < 21 → 0 ≤ zs.getD j 0 ∧ zs.getD j 0 ≤ 26 := by
  unfold rightB at h
  rw [Bool.and_eq_true, decide_eq_true_eq, List.all_eq_true] at h
  refine ⟨h.1, fun j hj => ?_⟩
  have hj' : j < zs.length := by omega
  have := h.2 (zs.getD j 0) (by simp [List.getD, hj'])
  simpa using this
theorem rightB_of {zs : List Int} (hl : zs.length = 21) (h : ∀ j, j < 21 → 0 ≤ zs.getD j 0 ∧ zs.getD j 0 ≤ 26) : rightB zs = true := by
  unfold rightB
  rw [Bool.and_eq_true, decide_eq_true_eq, List.all_eq_true]
  refine ⟨hl, fun z hz => ?_⟩
  obtain ⟨j, hj, rfl⟩ := List.getElem_of_mem hz
  have := h j (by omega)
  simpa [List.getD, hj] using this
theorem rightB_len {zs : List Int} (h : zs.length ≠ 21) : rightB zs = false := by unfold rightB; simp [h]
theorem rightB_at {zs : List Int} {j : Nat} (hj : j < zs.length) (h : zs.getD j 0 < 0 ∨ 26 < zs.getD j 0) : rightB zs = false := by
  cases hr : rightB zs with
  | false => rfl
  | true =>
    have h1 := rightB_true hr
    have := h1.2 j (by omega)
    omega
def preF (F : Nat → Int) (k i : Nat) : Int := if i < k then F i else 0
theorem preF_zero (F : Nat → Int) (i : Nat) : preF F 0 i = 0 := if_neg (by omega)
theorem preF_next (F : Nat → Int) (k i : Nat) : (if i = k then F k else preF F k i) = preF F (k + 1) i := by
  unfold preF
  by_cases h : i = k
  · subst h; rw [if_pos rfl, if_pos (by omega)]
  · rw [if_neg h]; split
    · rw [if_pos (by omega)]
    · rw [if_neg (by omega)]
theorem preF_end (F : Nat → Int) {k i : Nat} (h : i < k) : preF F k i = F i := if_pos h
def accF (x : Nat → Int) (k m i : Nat) : Int := if i < k then ceilF x i else if i = k then maxTo (bitF x) (edgeK k) m else 0
theorem accF_zero (x : Nat → Int) (k i : Nat) : accF x k 0 i = preF (ceilF x) k i := by
  unfold accF preF
  split
  · rfl
  · split <;> rfl
theorem accF_here (x : Nat → Int) (k m : Nat) : accF x k m k = maxTo (bitF x) (edgeK k) m := by unfold accF; rw [if_neg (by omega), if_pos rfl]
theorem accF_next (x : Nat → Int) (k m i : Nat) {y : Int} (h : y = maxTo (bitF x) (edgeK k) (m + 1)) : (if i = k then y else accF x k m i) = accF x k (m + 1) i := by
  subst h
  unfold accF
  by_cases h : i = k
  · subst h; rw [if_pos rfl, if_neg (by omega), if_pos rfl]
  · rw [if_neg h]; split
    · rfl
    · rfl
theorem accF_end (x : Nat → Int) {k n : Nat} (i : Nat) (h : n = edgeK (k + 1) - edgeK k) : accF x k n i = preF (ceilF x) (k + 1) i := by
  subst h
  unfold accF preF
  by_cases h : i = k
  · subst h; rw [if_neg (by omega), if_pos rfl, if_pos (by omega)]; rfl
  · split
    · rw [if_pos (by omega)]
    · rw [if_neg (by omega)]
end Go.Proofs.YtmgfkdmjgjlkjaaGreat

namespace Go.Proofs.YtmgfkdmjgjlkjaaGreat
open Go
set_option linter.unusedVariables false
def sumN (l : List Int) (n : Nat) : Int := (l.take n).sum
theorem sumN_zero (l : List Int) : sumN l 0 = 0 := by simp [sumN]
theorem sumN_succ (l : List Int) (n : Nat) (h : n < l.length) : sumN l (n + 1) = sumN l n + l.getD n 0 := by
  unfold sumN; rw [take_snocI l n h]; simp
theorem sumN_all (l : List Int) : sumN l l.length = l.sum := by simp [sumN]
theorem sumN_bd {l : List Int} {a b : Int} (h : ∀ j, j < l.length → a ≤ l.getD j 0 ∧ l.getD j 0 ≤ b) : ∀ n, n ≤ l.length → a * n ≤ sumN l n ∧ sumN l n ≤ b * n := by
  intro n
  induction n with
  | zero => intro _; rw [sumN_zero]; simp
  | succ n ih =>
    intro hn
    obtain ⟨h1, h2⟩ := ih (by omega)
    obtain ⟨h3, h4⟩ := h n (by omega)
    rw [sumN_succ l n (by omega)]
    have e1 : a * ((n + 1 : Nat) : Int) = a * n + a := by rw [Int.natCast_add, Int.mul_add]; simp
    have e2 : b * ((n + 1 : Nat) : Int) = b * n + b := by rw [Int.natCast_add, Int.mul_add]; simp
    omega
theorem sumN_rise {l : List Int} (h : ∀ j, j < l.length → 0 ≤ l.getD j 0) {m n : Nat} (hmn : m ≤ n) (hn : n ≤ l.length) : sumN l m ≤ sumN l n := by
  induction n with
  | zero => obtain rfl : m = 0 := by omega
            exact Int.le_refl _
  | succ n ih =>
    rcases Nat.lt_or_ge m (n + 1) with h1 | h1
    · have := ih (by omega) (by omega)
      have := h n (by omega)
      rw [sumN_succ l n (by omega)]; omega
    · obtain rfl : m = n + 1 := by omega
      exact Int.le_refl _
def findGo (l : List Int) (at' : Int) : Nat → Nat → Nat
  | _, 0 => l.length - 1
  | i, n + 1 => if at' < sumN l (i + 1) then i else findGo l at' (i + 1) n
def findP (l : List Int) (at' : Int) : Nat := findGo l at' 0 l.length
theorem findP_is {l : List Int} {at' : Int} (h0 : 0 ≤ at') (h1 : at' < sumN l l.length) : findP l at' < l.length ∧ sumN l (findP l at') ≤ at' ∧ at' < sumN l (findP l at' + 1) := by
  have go : ∀ n i, i + n = l.length → sumN l i ≤ at' → findGo l at' i n < l.length ∧ sumN l (findGo l at' i n) ≤ at' ∧ at' < sumN l (findGo l at' i n + 1) := by
    intro n
    induction n with
    | zero =>
      intro i hi hs
      rw [show i = l.length by omega] at hs
      omega
    | succ n ih =>
      intro i hi hs
      unfold findGo
      by_cases h : at' < sumN l (i + 1)
      · rw [if_pos h]; exact ⟨by omega, hs, h⟩
      · rw [if_neg h]; exact ih (i + 1) (by omega) (by omega)
  exact go l.length 0 (by omega) (by rw [sumN_zero]; exact h0)
def GoodL (l : List Int) : Prop := 1 ≤ l.length ∧ l.length ≤ 64 ∧ (∀ j, j < l.length → 1 ≤ l.getD j 0) ∧ l.sum ≤ 8192
theorem GoodL.sum_le {l : List Int} (h : GoodL l) {n : Nat} (hn : n ≤ l.length) : 0 ≤ sumN l n ∧ sumN l n ≤ 8192 := by
  have a := sumN_rise (l := l) (fun j hj => by have := h.2.2.1 j hj; omega) (m := 0) (n := n) (by omega) hn
  have b := sumN_rise (l := l) (fun j hj => by have := h.2.2.1 j hj; omega) (m := n) (n := l.length) hn (Nat.le_refl _)
  rw [sumN_zero] at a
  rw [sumN_all] at b
  have := h.2.2.2
  omega
theorem GoodL.own {l : List Int} (h : GoodL l) {j : Nat} (hj : j < l.length) : 1 ≤ l.getD j 0 ∧ l.getD j 0 ≤ 8192 := by
  have a := h.sum_le (n := j) (by omega)
  have b := h.sum_le (n := j + 1) (by omega)
  rw [sumN_succ l j hj] at b
  have := h.2.2.1 j hj
  omega
theorem goodL_ones {n : Nat} (h0 : 1 ≤ n) (h1 : n ≤ 64) : GoodL (List.replicate n 1) := by
  refine ⟨by simp; omega, by simp; omega, fun j hj => ?_, ?_⟩
  · simp at hj; simp [List.getD, hj]
  · have : ∀ n : Nat, (List.replicate n (1 : Int)).sum = n := by
      intro n
      induction n with
      | zero => rfl
      | succ n ih => rw [List.replicate_succ, List.sum_cons, ih]; omega
    rw [this]; omega
def riseL (l : List Int) (s : Nat) : List Int := l.set s (l.getD s 0 + 32)
def halfK (l : List Int) (k : Nat) : List Int := (l.take k).map (fun x => (x + 1) / 2) ++ l.drop k
def halfL (l : List Int) : List Int := l.map fun x => (x + 1) / 2
def learnP (l : List Int) (s : Nat) : List Int := if 8192 < (riseL l s).sum then halfL (riseL l s) else riseL l s
theorem riseL_len (l : List Int) (s : Nat) : (riseL l s).length = l.length := by simp [riseL]
theorem halfL_len (l : List Int) : (halfL l).length = l.length := by simp [halfL]
theorem learnP_len (l : List Int) (s : Nat) : (learnP l s).length = l.length := by unfold learnP; split <;> simp [halfL_len, riseL_len]
theorem getD_set' (l : List Int) (j k : Nat) (x : Int) (h : j < l.length) : (l.set j x).getD k 0 = if k = j then x else l.getD k 0 := by
  simp only [List.getD, List.getElem?_set]
  by_cases e : j = k
  · subst e; simp [h]
  · rw [if_neg e, if_neg (fun c => e c.symm)]
theorem sum_set (l : List Int) (s : Nat) (x : Int) (h : s < l.length) : (l.set s x).sum = l.sum - l.getD s 0 + x := by
  induction l generalizing s with
  | nil => simp at h
  | cons a l ih =>
    cases s with
    | zero => simp [List.getD]; omega
    | succ s =>
      have := ih s (by simpa using h)
      simp only [List.set_cons_succ, List.sum_cons, List.getD_cons_succ] at this ⊢
      omega
theorem riseL_sum {l : List Int} {s : Nat} (h : s < l.length) : (riseL l s).sum = l.sum + 32 := by
  unfold riseL; rw [sum_set l s _ h]; omega
theorem halfL_sum {l : List Int} : (halfL l).sum * 2 ≤ l.sum + l.length := by
  induction l with
  | nil => simp [halfL]
  | cons a l ih =>
    unfold halfL at *
    simp only [List.map_cons, List.sum_cons, List.length_cons]
    omega
theorem halfL_getD {l : List Int} {j : Nat} (h : j < l.length) : (halfL l).getD j 0 = (l.getD j 0 + 1) / 2 := by simp [halfL, List.getD, h]
theorem riseL_own {l : List Int} (h : GoodL l) {s j : Nat} (hs : s < l.length) (hj : j < l.length) : 1 ≤ (riseL l s).getD j 0 ∧ (riseL l s).getD j 0 ≤ 8224 := by
  unfold riseL
  rw [getD_set' l s j _ hs]
  have a := h.own hs
  have b := h.own hj
  split <;> omega
theorem learnP_good {l : List Int} (h : GoodL l) {s : Nat} (hs : s < l.length) : GoodL (learnP l s) := by
  have hsum := riseL_sum hs
  have h3 := h.2.2.2
  unfold learnP
  split
  · refine ⟨by rw [halfL_len, riseL_len]; exact h.1, by rw [halfL_len, riseL_len]; exact h.2.1, fun j hj => ?_, ?_⟩
    · rw [halfL_len, riseL_len] at hj
      rw [halfL_getD (by rw [riseL_len]; exact hj)]
      have := riseL_own h hs hj
      omega
    · have := halfL_sum (l := riseL l s)
      rw [riseL_len] at this
      have := h.2.1
      omega
  · refine ⟨by rw [riseL_len]; exact h.1, by rw [riseL_len]; exact h.2.1, fun j hj => ?_, by omega⟩
    rw [riseL_len] at hj
    exact (riseL_own h hs hj).1
theorem halfK_zero (l : List Int) : halfK l 0 = l := by simp [halfK]
theorem halfK_all (l : List Int) : halfK l l.length = halfL l := by simp [halfK, halfL]
theorem halfK_len (l : List Int) {k : Nat} (h : k ≤ l.length) : (halfK l k).length = l.length := by simp [halfK]; omega
theorem halfK_at (l : List Int) {k : Nat} (h : k < l.length) : (halfK l k).getD k 0 = l.getD k 0 := by
  unfold halfK
  simp only [List.getD, List.getElem?_append]
  rw [if_neg (by simp; omega)]
  simp only [List.length_map, List.length_take, Nat.min_eq_left (Nat.le_of_lt h), Nat.sub_self, List.getElem?_drop, Nat.add_zero]
theorem halfK_next (l : List Int) {k : Nat} (h : k < l.length) : (halfK l k).set k ((l.getD k 0 + 1) / 2) = halfK l (k + 1) := by
  unfold halfK
  rw [take_snocI l k h, List.map_append, List.append_assoc, List.set_append_right _ _ (by simp; omega)]
  congr 1
  simp only [List.length_map, List.length_take, Nat.min_eq_left (Nat.le_of_lt h), Nat.sub_self]
  rw [List.drop_eq_getElem_cons h, List.set_cons_zero]
  simp [List.getD, h]
end Go.Proofs.YtmgfkdmjgjlkjaaGreat

namespace Go.Proofs.YtmgfkdmjgjlkjaaGreat
open Go
set_option linter.unusedVariables false
structure EncS where
  n : Int
  s : Int
  k : Nat
def P256 (k : Nat) : Int := 256 ^ k
theorem P256_succ (k : Nat) : P256 (k + 1) = P256 k * 256 := by unfold P256; rw [Int.pow_succ]
theorem P256_add (a b : Nat) : P256 (a + b) = P256 a * P256 b := by unfold P256; rw [Int.pow_add]
theorem P256_pos (k : Nat) : 1 ≤ P256 k := by
  induction k with
  | zero => decide
  | succ k ih => rw [P256_succ]; omega
def scaleE (e : EncS) : EncS := if 16777216 ≤ e.s then e else if 16777216 ≤ e.s * 256 then ⟨e.n * 256, e.s * 256, e.k + 1⟩ else ⟨e.n * 65536, e.s * 65536, e.k + 2⟩
def encNew : EncS := ⟨0, 4294967295, 0⟩
def encPre (e : EncS) (low own all : Int) : EncS := ⟨e.n + e.s / all * low, e.s / all * own, e.k⟩
def encPut (e : EncS) (low own all : Int) : EncS := scaleE (encPre e low own all)
def OkP (low own all : Int) : Prop := 1 ≤ all ∧ all ≤ 8192 ∧ 1 ≤ own ∧ 0 ≤ low ∧ low + own ≤ all
def GoodE (e : EncS) : Prop := 16777216 ≤ e.s ∧ e.s ≤ 4294967295 ∧ 0 ≤ e.n ∧ e.n + e.s ≤ 4294967296 * P256 e.k
theorem goodE_new : GoodE encNew := by unfold GoodE encNew P256; decide
theorem each_bd {s all : Int} (h0 : 16777216 ≤ s) (h1 : s ≤ 4294967295) (a0 : 1 ≤ all) (a1 : all ≤ 8192) : 2048 ≤ s / all ∧ s / all ≤ 4294967295 ∧ s / all * all ≤ s := by
  refine ⟨?_, ?_, Int.ediv_mul_le s (by omega)⟩
  · rw [Int.le_ediv_iff_mul_le (by omega)]; omega
  · have := Int.ediv_le_self all (show 0 ≤ s by omega); omega
theorem encPre_bd {e : EncS} {low own all : Int} (h : GoodE e) (p : OkP low own all) :
    2048 ≤ (encPre e low own all).s ∧ (encPre e low own all).s ≤ 4294967295 ∧ 0 ≤ (encPre e low own all).n ∧ e.n ≤ (encPre e low own all).n ∧ (encPre e low own all).n + (encPre e low own all).s ≤ e.n + e.s := by
  obtain ⟨h1, h2, h3, h4⟩ := h
  obtain ⟨p1, p2, p3, p4, p5⟩ := p
  obtain ⟨e1, e2, e3⟩ := each_bd h1 h2 p1 p2
  unfold encPre
  simp only
  generalize e.s / all = E at e1 e2 e3
  have a1 : E * 1 ≤ E * own := Int.mul_le_mul_of_nonneg_left p3 (by omega)
  have a2 : 0 ≤ E * low := Int.mul_nonneg (by omega) p4
  have a3 : E * (low + own) ≤ E * all := Int.mul_le_mul_of_nonneg_left p5 (by omega)
  rw [Int.mul_add] at a3
  omega
theorem scaleE_step {e : EncS} (h : 256 ≤ e.s) (hs : e.s < 16777216) : scaleE e = scaleE ⟨e.n * 256, e.s * 256, e.k + 1⟩ := by
  unfold scaleE
  simp only
  rw [if_neg (by omega)]
  by_cases h1 : 16777216 ≤ e.s * 256
  · rw [if_pos h1, if_pos h1]
  · rw [if_neg h1, if_neg h1, if_pos (by omega)]
    congr 1 <;> omega
theorem scaleE_end {e : EncS} (h : 16777216 ≤ e.s) : scaleE e = e := by unfold scaleE; rw [if_pos h]
def Inside (e f : EncS) : Prop := e.k ≤ f.k ∧ e.n * P256 (f.k - e.k) ≤ f.n ∧ f.n + f.s ≤ (e.n + e.s) * P256 (f.k - e.k)
theorem Inside.refl (e : EncS) : Inside e e := by
  unfold Inside
  rw [Nat.sub_self]
  show _ ∧ e.n * 1 ≤ _ ∧ _ ≤ (e.n + e.s) * 1
  omega
theorem Inside.trans {a b c : EncS} (h : Inside a b) (g : Inside b c) : Inside a c := by
  obtain ⟨h1, h2, h3⟩ := h
  obtain ⟨g1, g2, g3⟩ := g
  have e : c.k - a.k = (b.k - a.k) + (c.k - b.k) := by omega
  have p := P256_pos (c.k - b.k)
  refine ⟨by omega, ?_, ?_⟩
  · rw [e, P256_add, ← Int.mul_assoc]
    exact Int.le_trans (Int.mul_le_mul_of_nonneg_right h2 (by omega)) g2
  · rw [e, P256_add, ← Int.mul_assoc]
    exact Int.le_trans g3 (Int.mul_le_mul_of_nonneg_right h3 (by omega))
theorem scaleE_inside (e : EncS) : Inside e (scaleE e) ∧ (scaleE e).n = e.n * P256 ((scaleE e).k - e.k) ∧ (scaleE e).s = e.s * P256 ((scaleE e).k - e.k) := by
  have p1 : P256 1 = 256 := by decide
  have p2 : P256 2 = 65536 := by decide
  have p0 : P256 0 = 1 := by decide
  by_cases h1 : 16777216 ≤ e.s
  · rw [scaleE_end h1]
    refine ⟨Inside.refl e, ?_, ?_⟩
    · rw [Nat.sub_self, p0]; omega
    · rw [Nat.sub_self, p0]; omega
  · by_cases h2 : 16777216 ≤ e.s * 256
    · have hx : scaleE e = ⟨e.n * 256, e.s * 256, e.k + 1⟩ := by unfold scaleE; rw [if_neg h1, if_pos h2]
      have k1 : e.k + 1 - e.k = 1 := by omega
      rw [hx]
      unfold Inside
      simp only [k1, p1]
      refine ⟨⟨by omega, ?_, ?_⟩, trivial, trivial⟩
      · exact Int.le_refl _
      · omega
    · have hx : scaleE e = ⟨e.n * 65536, e.s * 65536, e.k + 2⟩ := by unfold scaleE; rw [if_neg h1, if_neg h2]
      have k2 : e.k + 2 - e.k = 2 := by omega
      rw [hx]
      unfold Inside
      simp only [k2, p2]
      refine ⟨⟨by omega, ?_, ?_⟩, trivial, trivial⟩
      · exact Int.le_refl _
      · omega
theorem encPre_inside {e : EncS} {low own all : Int} (h : GoodE e) (p : OkP low own all) : Inside e (encPre e low own all) := by
  obtain ⟨a, b, c, d, f⟩ := encPre_bd h p
  have k : (encPre e low own all).k - e.k = 0 := Nat.sub_self _
  refine ⟨Nat.le_refl _, ?_, ?_⟩ <;> rw [k] <;> show _ ≤ _
  · show e.n * 1 ≤ _; omega
  · show _ ≤ (e.n + e.s) * 1; omega
theorem encPut_inside {e : EncS} {low own all : Int} (h : GoodE e) (p : OkP low own all) : Inside e (encPut e low own all) := (encPre_inside h p).trans (scaleE_inside _).1
theorem scaleE_good {e : EncS} (h0 : 2048 ≤ e.s) (h1 : e.s ≤ 4294967295) (h2 : 0 ≤ e.n) (h3 : e.n + e.s ≤ 4294967296 * P256 e.k) : GoodE (scaleE e) := by
  have p := P256_pos e.k
  unfold scaleE GoodE
  split
  · exact ⟨by assumption, h1, h2, h3⟩
  · split
    · simp only [P256_succ]; omega
    · simp only [show e.k + 2 = e.k + 1 + 1 by omega, P256_succ]; omega
theorem encPut_good {e : EncS} {low own all : Int} (h : GoodE e) (p : OkP low own all) : GoodE (encPut e low own all) := by
  obtain ⟨a, b, c, d, f⟩ := encPre_bd h p
  exact scaleE_good a b c (Int.le_trans f h.2.2.2)
theorem encPut_k (e : EncS) (low own all : Int) : (encPut e low own all).k ≤ e.k + 2 := by
  unfold encPut scaleE
  have h : (encPre e low own all).k = e.k := rfl
  split
  · omega
  · split <;> simp only <;> omega
def valB (b : Nat → Int) : Nat → Int
  | 0 => 0
  | i + 1 => valB b i * 256 + b i
def digB (n : Int) (len j : Nat) : Int := n / P256 (len - 1 - j) % 256
theorem valB_dig {n : Int} {len : Nat} {b : Nat → Int} (hn : 0 ≤ n) (hl : n < P256 len) (hb : ∀ j, j < len → b j = digB n len j) : ∀ i, i ≤ len → valB b i = n / P256 (len - i) := by
  intro i
  induction i with
  | zero =>
    intro _
    show (0 : Int) = _
    rw [Nat.sub_zero, Int.ediv_eq_zero_of_lt hn hl]
  | succ i ih =>
    intro hi
    show valB b i * 256 + b i = _
    rw [ih (by omega), hb i (by omega)]
    unfold digB
    have e : len - i = (len - (i + 1)) + 1 := by omega
    have e2 : len - 1 - i = len - (i + 1) := by omega
    rw [e, e2, P256_succ, ← Int.ediv_ediv_of_nonneg (by have := P256_pos (len - (i + 1)); omega)]
    omega
theorem valB_same {b c : Nat → Int} : ∀ i, (∀ j, j < i → b j = c j) → valB b i = valB c i := by
  intro i
  induction i with
  | zero => intro _; rfl
  | succ i ih => intro h; show valB b i * 256 + b i = valB c i * 256 + c i; rw [ih (fun j hj => h j (by omega)), h i (by omega)]
structure DecS where
  c : Int
  s : Int
  i : Nat
def scaleD (b : Nat → Int) (d : DecS) : DecS :=
  if 16777216 ≤ d.s then d else if 16777216 ≤ d.s * 256 then ⟨d.c * 256 + b d.i, d.s * 256, d.i + 1⟩ else ⟨(d.c * 256 + b d.i) * 256 + b (d.i + 1), d.s * 65536, d.i + 2⟩
def decAt (d : DecS) (all : Int) : Int := if all ≤ d.c / (d.s / all) then all - 1 else d.c / (d.s / all)
def decPre (d : DecS) (low own all : Int) : DecS := ⟨if d.s / all * own ≤ d.c - d.s / all * low then d.s / all * own - 1 else d.c - d.s / all * low, d.s / all * own, d.i⟩
def decTake (b : Nat → Int) (d : DecS) (low own all : Int) : DecS := scaleD b (decPre d low own all)
def GoodD (d : DecS) : Prop := 16777216 ≤ d.s ∧ d.s ≤ 4294967295 ∧ 0 ≤ d.c ∧ d.c ≤ 4294967295
theorem scaleD_step (b : Nat → Int) {d : DecS} (h : 256 ≤ d.s) (hs : d.s < 16777216) : scaleD b d = scaleD b ⟨d.c * 256 + b d.i, d.s * 256, d.i + 1⟩ := by
  unfold scaleD
  simp only
  rw [if_neg (by omega)]
  by_cases h1 : 16777216 ≤ d.s * 256
  · rw [if_pos h1, if_pos h1]
  · rw [if_neg h1, if_neg h1, if_pos (by omega)]
    congr 1
    omega
theorem scaleD_end (b : Nat → Int) {d : DecS} (h : 16777216 ≤ d.s) : scaleD b d = d := by unfold scaleD; rw [if_pos h]
theorem decAt_bd {d : DecS} {all : Int} (h : GoodD d) (a0 : 1 ≤ all) (a1 : all ≤ 8192) : 0 ≤ decAt d all ∧ decAt d all < all ∧ d.s / all * decAt d all ≤ d.c := by
  obtain ⟨h1, h2, h3, h4⟩ := h
  obtain ⟨e1, e2, e3⟩ := each_bd h1 h2 a0 a1
  unfold decAt
  generalize d.s / all = E at e1 e2 e3
  have q0 : 0 ≤ d.c / E := Int.ediv_nonneg h3 (by omega)
  have q1 : d.c / E * E ≤ d.c := Int.ediv_mul_le d.c (by omega)
  split
  · have : E * (all - 1) ≤ E * (d.c / E) := Int.mul_le_mul_of_nonneg_left (by omega) (by omega)
    rw [Int.mul_comm E (d.c / E)] at this
    exact ⟨by omega, by omega, by omega⟩
  · rw [Int.mul_comm] at q1
    exact ⟨q0, by omega, q1⟩
theorem decPre_bd {d : DecS} {low own all : Int} (h : GoodD d) (p : OkP low own all) (hl : d.s / all * low ≤ d.c) :
    2048 ≤ (decPre d low own all).s ∧ (decPre d low own all).s ≤ 4294967295 ∧ 0 ≤ (decPre d low own all).c ∧ (decPre d low own all).c < (decPre d low own all).s := by
  obtain ⟨h1, h2, h3, h4⟩ := h
  obtain ⟨p1, p2, p3, p4, p5⟩ := p
  obtain ⟨e1, e2, e3⟩ := each_bd h1 h2 p1 p2
  unfold decPre
  simp only
  generalize d.s / all = E at e1 e2 e3 hl
  have a1 : E * 1 ≤ E * own := Int.mul_le_mul_of_nonneg_left p3 (by omega)
  have a2 : 0 ≤ E * low := Int.mul_nonneg (by omega) p4
  have a3 : E * (low + own) ≤ E * all := Int.mul_le_mul_of_nonneg_left p5 (by omega)
  rw [Int.mul_add] at a3
  refine ⟨by omega, by omega, ?_, ?_⟩
  · split <;> omega
  · split <;> omega
theorem scaleD_good {b : Nat → Int} {d : DecS} (hb : ∀ j, 0 ≤ b j ∧ b j ≤ 255) (h0 : 2048 ≤ d.s) (h1 : d.s ≤ 4294967295) (h2 : 0 ≤ d.c) (h3 : d.c < d.s) : GoodD (scaleD b d) ∧ (scaleD b d).c < (scaleD b d).s := by
  have b0 := hb d.i
  have b1 := hb (d.i + 1)
  unfold scaleD GoodD
  split
  · omega
  · split
    · simp only; omega
    · simp only; omega
theorem decTake_good {b : Nat → Int} {d : DecS} {low own all : Int} (hb : ∀ j, 0 ≤ b j ∧ b j ≤ 255) (h : GoodD d) (p : OkP low own all) (hl : d.s / all * low ≤ d.c) : GoodD (decTake b d low own all) ∧ (decTake b d low own all).c < (decTake b d low own all).s := by
  obtain ⟨a1, a2, a3, a4⟩ := decPre_bd h p hl
  exact scaleD_good hb a1 a2 a3 a4
end Go.Proofs.YtmgfkdmjgjlkjaaGreat
