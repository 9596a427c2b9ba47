/- Plain facts, and what functions give, for the proofs of this seat: several texts in one, each with its own first remark. -/
import Derived.Test.YtmgfkdmjgjlkjaaGreatCe

namespace Go.Proofs.YtmgfkdmjgjlkjaaGreat
open Go
set_option linter.unusedVariables false
def valL (D : List Int) : Int := valB (fun j => D.getD j 0) D.length
theorem valB_bump {b c : Nat → Int} {j : Nat} {x : Int} (h : ∀ i, i ≠ j → c i = b i) (hj : c j = b j + x) : ∀ i, (i ≤ j → valB c i = valB b i) ∧ (j < i → valB c i = valB b i + x * P256 (i - 1 - j)) := by
  intro i
  induction i with
  | zero => exact ⟨fun _ => rfl, fun h => by omega⟩
  | succ i ih =>
    constructor
    · intro hi
      show valB c i * 256 + c i = valB b i * 256 + b i
      rw [ih.1 (by omega), h i (by omega)]
    · intro hi
      show valB c i * 256 + c i = valB b i * 256 + b i + _
      by_cases e : i = j
      · subst e
        rw [ih.1 (Nat.le_refl _), hj, show i + 1 - 1 - i = 0 by omega]
        show _ = _ + x * 1
        omega
      · rw [ih.2 (by omega), h i e, show i + 1 - 1 - j = (i - 1 - j) + 1 by omega, P256_succ, Int.add_mul, ← Int.mul_assoc]
        omega
theorem valL_set (D : List Int) {j : Nat} (hj : j < D.length) (x : Int) : valL (D.set j x) = valL D + (x - D.getD j 0) * P256 (D.length - 1 - j) := by
  unfold valL
  rw [List.length_set]
  have := (valB_bump (b := fun i => D.getD i 0) (c := fun i => (D.set j x).getD i 0) (j := j) (x := x - D.getD j 0)
    (fun i hi => by rw [getD_set' D j i x hj, if_neg hi]) (by rw [getD_set' D j j x hj, if_pos rfl]; omega) D.length).2 hj
  exact this
theorem valL_snoc (D : List Int) (x : Int) : valL (D ++ [x]) = valL D * 256 + x := by
  unfold valL
  rw [List.length_append]
  show valB _ D.length * 256 + _ = _
  have e : valB (fun j => (D ++ [x]).getD j 0) D.length = valB (fun j => D.getD j 0) D.length := by
    refine valB_same _ fun j hj => ?_
    simp [List.getD, List.getElem?_append, hj]
  rw [e]
  simp [List.getD]
def IsDig (D : List Int) : Prop := ∀ j, j < D.length → 0 ≤ D.getD j 0 ∧ D.getD j 0 ≤ 255
theorem valL_take {D : List Int} (h : IsDig D) : ∀ i, i ≤ D.length → valB (fun j => D.getD j 0) (D.length - i) = valL D / P256 i := by
  intro i
  induction i with
  | zero => intro _; show _ = valL D / 1; rw [Int.ediv_one]; rfl
  | succ i ih =>
    intro hi
    have ih' := ih (by omega)
    have hd := h (D.length - (i + 1)) (by omega)
    have e : D.length - i = (D.length - (i + 1)) + 1 := by omega
    rw [e] at ih'
    have e2 : valB (fun j => D.getD j 0) (D.length - (i + 1) + 1) = valB (fun j => D.getD j 0) (D.length - (i + 1)) * 256 + D.getD (D.length - (i + 1)) 0 := rfl
    rw [e2] at ih'
    rw [P256_succ, ← Int.ediv_ediv_of_nonneg (by have := P256_pos i; omega), ← ih']
    omega
theorem dig_at {D : List Int} (h : IsDig D) {j : Nat} (hj : j < D.length) : D.getD j 0 = digB (valL D) D.length j := by
  have a := valL_take h (D.length - 1 - j) (by omega)
  have e : D.length - (D.length - 1 - j) = j + 1 := by omega
  rw [e] at a
  unfold digB
  rw [← a]
  have hd := h j hj
  have e2 : valB (fun i => D.getD i 0) (j + 1) = valB (fun i => D.getD i 0) j * 256 + D.getD j 0 := rfl
  rw [e2]
  omega
def digL (n : Int) (len : Nat) : List Int := (List.range len).map (digB n len)
theorem digL_len (n : Int) (len : Nat) : (digL n len).length = len := by simp [digL]
theorem digL_getD (n : Int) {len j : Nat} (h : j < len) : (digL n len).getD j 0 = digB n len j := by simp [digL, List.getD, h]
theorem digB_bd (n : Int) (len j : Nat) : 0 ≤ digB n len j ∧ digB n len j ≤ 255 := by unfold digB; omega
theorem digL_dig (n : Int) (len : Nat) : IsDig (digL n len) := by
  intro j hj
  rw [digL_len] at hj
  rw [digL_getD n hj]; exact digB_bd n len j
theorem dig_unique {D : List Int} (h : IsDig D) : D = digL (valL D) D.length := by
  apply List.ext_getElem?
  intro i
  by_cases hi : i < D.length
  · have := dig_at h hi
    rw [← digL_getD (valL D) hi] at this
    have h2 : i < (digL (valL D) D.length).length := by rw [digL_len]; exact hi
    rw [List.getElem?_eq_getElem hi, List.getElem?_eq_getElem h2]
    simpa [List.getD, List.getElem?_eq_getElem hi, List.getElem?_eq_getElem h2] using this
  · rw [List.getElem?_eq_none (by omega), List.getElem?_eq_none (by rw [digL_len]; omega)]
theorem digL_val {n : Int} {len : Nat} (h0 : 0 ≤ n) (h1 : n < P256 len) : valL (digL n len) = n := by
  have := valB_dig (b := fun j => (digL n len).getD j 0) h0 h1 (fun j hj => digL_getD n hj) len (Nat.le_refl _)
  rw [Nat.sub_self] at this
  unfold valL
  rw [digL_len, this]
  exact Int.ediv_one n
theorem digL_more {n : Int} {len : Nat} (h0 : 0 ≤ n) (h1 : n < P256 len) : digL n len ++ [0] = digL (n * 256) (len + 1) := by
  have hd : IsDig (digL n len ++ [0]) := by
    intro j hj
    rw [List.length_append, digL_len] at hj
    by_cases e : j < len
    · have : (digL n len ++ [0]).getD j 0 = digB n len j := by
        rw [← digL_getD n e]; simp [List.getD, List.getElem?_append, digL_len, e]
      rw [this]; exact digB_bd n len j
    · have : (digL n len ++ [0]).getD j 0 = 0 := by
        simp only [List.getD, List.getElem?_append, digL_len, if_neg e]
        cases hh : j - len <;> simp
      rw [this]; omega
  have := dig_unique hd
  rw [valL_snoc, digL_val h0 h1, List.length_append, digL_len, Int.add_zero] at this
  exact this
theorem valL_lt {D : List Int} (h : IsDig D) : 0 ≤ valL D ∧ valL D < P256 D.length := by
  have a := valL_take h D.length (Nat.le_refl _)
  rw [Nat.sub_self] at a
  have z : valB (fun j => D.getD j 0) 0 = 0 := rfl
  rw [z] at a
  have p := P256_pos D.length
  have n0 : 0 ≤ valL D := by
    unfold valL
    have : ∀ i, i ≤ D.length → 0 ≤ valB (fun j => D.getD j 0) i := by
      intro i
      induction i with
      | zero => intro _; exact Int.le_refl _
      | succ i ih =>
        intro hi
        have := ih (by omega)
        have := (h i (by omega)).1
        show 0 ≤ valB _ i * 256 + D.getD i 0
        omega
    exact this _ (Nat.le_refl _)
  refine ⟨n0, ?_⟩
  rcases Int.lt_or_le (valL D) (P256 D.length) with h1 | h1
  · exact h1
  · have : 1 ≤ valL D / P256 D.length := by rw [Int.le_ediv_iff_mul_le (by omega)]; omega
    omega
def addL (D : List Int) (K : Nat) (add : Int) : Nat → List Int
  | 0 => D
  | j + 1 => (addL D K add j).set (K + 3 - j) ((addL D K add j).getD (K + 3 - j) 0 + add / P256 j % 256)
theorem addL_len (D : List Int) (K : Nat) (add : Int) (j : Nat) : (addL D K add j).length = D.length := by
  induction j with
  | zero => rfl
  | succ j ih => unfold addL; rw [List.length_set]; exact ih
theorem addL_getD {D : List Int} {K : Nat} (add : Int) (hl : D.length = K + 4) : ∀ j, j ≤ 4 → ∀ i, (i + j ≤ K + 3 → (addL D K add j).getD i 0 = D.getD i 0) ∧ (K + 3 < i + j → i < K + 4 → (addL D K add j).getD i 0 = D.getD i 0 + add / P256 (K + 3 - i) % 256) := by
  intro j
  induction j with
  | zero => intro _ i; exact ⟨fun _ => rfl, fun h h' => by omega⟩
  | succ j ih =>
    intro hj i
    have ihi := ih (by omega) i
    have ihj := ih (by omega) (K + 3 - j)
    unfold addL
    rw [getD_set' _ _ _ _ (by rw [addL_len]; omega)]
    constructor
    · intro hi; rw [if_neg (by omega)]; exact ihi.1 (by omega)
    · intro hi hi'
      by_cases e : i = K + 3 - j
      · rw [if_pos e, e, ihj.1 (by omega), show K + 3 - (K + 3 - j) = j by omega]
      · rw [if_neg e]; exact ihi.2 (by omega) hi'
theorem addL_val {D : List Int} {K : Nat} {add : Int} (hl : D.length = K + 4) (h0 : 0 ≤ add) (h1 : add ≤ 4294967295) : valL (addL D K add 4) = valL D + add := by
  have s : ∀ j, j ≤ 3 → valL (addL D K add (j + 1)) = valL (addL D K add j) + add / P256 j % 256 * P256 j := by
    intro j hj
    conv => lhs; unfold addL
    rw [valL_set _ (by rw [addL_len]; omega), addL_len, hl, show K + 4 - 1 - (K + 3 - j) = j by omega]
    congr 2; omega
  rw [s 3 (by omega), s 2 (by omega), s 1 (by omega), s 0 (by omega)]
  show valL D + _ + _ + _ + _ = _
  have p0 : P256 0 = 1 := by decide
  have p1 : P256 1 = 256 := by decide
  have p2 : P256 2 = 65536 := by decide
  have p3 : P256 3 = 16777216 := by decide
  rw [p0, p1, p2, p3]
  omega
def Carry (D : List Int) (K i : Nat) : Prop :=
  D.length = K + 4 ∧ i < K + 4 ∧ (∀ j, i < j → j < K + 4 → 0 ≤ D.getD j 0 ∧ D.getD j 0 ≤ 255) ∧ (∀ j, j < i → 0 ≤ D.getD j 0 ∧ D.getD j 0 ≤ 510 ∧ (j < K → D.getD j 0 ≤ 255)) ∧ 0 ≤ D.getD i 0 ∧ D.getD i 0 ≤ 511 ∧ (i < K → D.getD i 0 ≤ 256)
theorem carry_start {D : List Int} {K : Nat} {add : Int} (hl : D.length = K + 4) (hd : IsDig D) : Carry (addL D K add 4) K (K + 3) := by
  have key := addL_getD (D := D) (K := K) add hl 4 (Nat.le_refl _)
  refine ⟨by rw [addL_len]; exact hl, by omega, fun j h1 h2 => by omega, fun j hj => ?_, ?_, ?_, fun h => by omega⟩
  · have dj := hd j (by omega)
    by_cases h : j < K
    · rw [(key j).1 (by omega)]; omega
    · rw [(key j).2 (by omega) (by omega)]
      have := Int.emod_nonneg (add / P256 (K + 3 - j)) (b := 256) (by decide)
      have := Int.emod_lt_of_pos (add / P256 (K + 3 - j)) (b := 256) (by decide)
      omega
  · have dj := hd (K + 3) (by omega)
    rw [(key (K + 3)).2 (by omega) (by omega)]
    have := Int.emod_nonneg (add / P256 (K + 3 - (K + 3))) (b := 256) (by decide)
    omega
  · have dj := hd (K + 3) (by omega)
    rw [(key (K + 3)).2 (by omega) (by omega)]
    have := Int.emod_lt_of_pos (add / P256 (K + 3 - (K + 3))) (b := 256) (by decide)
    omega
def carry1 (D : List Int) (i : Nat) : List Int := (D.set i (D.getD i 0 - 256)).set (i - 1) ((D.set i (D.getD i 0 - 256)).getD (i - 1) 0 + 1)
theorem carry1_val {D : List Int} {i : Nat} (h0 : 0 < i) (hi : i < D.length) : valL (carry1 D i) = valL D := by
  unfold carry1
  rw [valL_set _ (by rw [List.length_set]; omega), List.length_set, valL_set _ hi, show D.length - 1 - (i - 1) = (D.length - 1 - i) + 1 by omega, P256_succ]
  have e1 : D.getD i 0 - 256 - D.getD i 0 = -256 := by omega
  have e2 : (D.set i (D.getD i 0 - 256)).getD (i - 1) 0 + 1 - (D.set i (D.getD i 0 - 256)).getD (i - 1) 0 = 1 := by omega
  rw [e1, e2]
  omega
theorem carry1_getD {D : List Int} {i : Nat} (h0 : 0 < i) (hi : i < D.length) (j : Nat) : (carry1 D i).getD j 0 = if j = i then D.getD i 0 - 256 else if j = i - 1 then D.getD (i - 1) 0 + 1 else D.getD j 0 := by
  unfold carry1
  rw [getD_set' _ _ _ _ (by rw [List.length_set]; omega), getD_set' _ _ _ _ hi, getD_set' _ _ _ _ hi]
  by_cases e : j = i
  · rw [if_neg (by omega), if_pos e, if_pos e]
  · by_cases e2 : j = i - 1
    · rw [if_pos e2, if_neg (show ¬ i - 1 = i by omega), if_neg e, if_pos e2]
    · rw [if_neg e2, if_neg e, if_neg e, if_neg e2]
theorem carry_yes {D : List Int} {K i : Nat} (h : Carry D K i) (h0 : 0 < i) (hb : 255 < D.getD i 0) : Carry (carry1 D i) K (i - 1) := by
  obtain ⟨a, b, c, d, e, f, g⟩ := h
  have key := carry1_getD (D := D) h0 (by omega)
  have dm := d (i - 1) (by omega)
  refine ⟨by unfold carry1; rw [List.length_set, List.length_set]; exact a, by omega, fun j h1 h2 => ?_, fun j hj => ?_, ?_, ?_, fun hk => ?_⟩
  · rw [key j]
    by_cases e1 : j = i
    · rw [if_pos e1]; omega
    · rw [if_neg e1, if_neg (by omega)]; exact c j (by omega) h2
  · rw [key j, if_neg (by omega), if_neg (by omega)]; exact d j (by omega)
  · rw [key (i - 1), if_neg (by omega), if_pos rfl]; omega
  · rw [key (i - 1), if_neg (by omega), if_pos rfl]; omega
  · rw [key (i - 1), if_neg (by omega), if_pos rfl]; have := dm.2.2 hk; omega
theorem carry_no {D : List Int} {K i : Nat} (h : Carry D K i) (h0 : 0 < i) (hb : D.getD i 0 ≤ 255) : Carry D K (i - 1) := by
  obtain ⟨a, b, c, d, e, f, g⟩ := h
  have dm := d (i - 1) (by omega)
  refine ⟨a, by omega, fun j h1 h2 => ?_, fun j hj => d j (by omega), dm.1, by omega, fun hk => by have := dm.2.2 hk; omega⟩
  by_cases e1 : j = i
  · subst e1; exact ⟨e, hb⟩
  · exact c j (by omega) h2
theorem carry_stop {D : List Int} {K i : Nat} (h : Carry D K i) (hk : i < K) (hb : D.getD i 0 ≤ 255) : IsDig D := by
  obtain ⟨a, b, c, d, e, f, g⟩ := h
  intro j hj
  rcases Nat.lt_trichotomy j i with h1 | h1 | h1
  · have := d j h1; exact ⟨this.1, this.2.2 (by omega)⟩
  · subst h1; exact ⟨e, hb⟩
  · exact c j h1 (by omega)
theorem carry_head {D : List Int} {K : Nat} (h : Carry D K 0) (hv : valL D < P256 (K + 4)) : IsDig D := by
  obtain ⟨a, b, c, d, e, f, g⟩ := h
  have hb : D.getD 0 0 ≤ 255 := by
    rcases Int.lt_or_le 255 (D.getD 0 0) with h1 | h1
    · exfalso
      have s := valL_set D (j := 0) (by omega) 0
      have hd : IsDig (D.set 0 0) := by
        intro j hj
        rw [List.length_set] at hj
        rw [getD_set' D 0 j 0 (by omega)]
        by_cases e1 : j = 0
        · rw [if_pos e1]; omega
        · rw [if_neg e1]; exact c j (by omega) (by omega)
      have n0 := (valL_lt hd).1
      rw [s, a, show K + 4 - 1 - 0 = K + 3 by omega] at n0
      rw [P256_succ] at hv
      have p := P256_pos (K + 3)
      have : 256 * P256 (K + 3) ≤ D.getD 0 0 * P256 (K + 3) := Int.mul_le_mul_of_nonneg_right (by omega) (by omega)
      have e3 : (0 - D.getD 0 0) * P256 (K + 3) = -(D.getD 0 0 * P256 (K + 3)) := by rw [Int.zero_sub, Int.neg_mul]
      rw [e3] at n0
      omega
    · exact h1
  intro j hj
  by_cases e1 : j = 0
  · subst e1; exact ⟨e, hb⟩
  · exact c j (by omega) (by omega)
end Go.Proofs.YtmgfkdmjgjlkjaaGreat
