/- Plain facts of the circle, for the statements of layer 4, out of its table. Nothing here speaks of the program. -/
import Derived.Test.YtgjmpjfcnibgmaaBandT
namespace Go.Proofs.Ytgjmpjfcnibgmaa
open Go
set_option linter.unusedVariables false

theorem cosN_get {i : Nat} (h : i ≤ 1024) : cosL[i]? = some (cosN i) := by
  have hl : i < cosL.length := by rw [cosL_len]; omega
  unfold cosN
  simp [List.getD, List.getElem?_eq_getElem hl]
theorem cosN_bd {i : Nat} (h : i ≤ 1024) : 0 ≤ cosN i ∧ cosN i ≤ 16777216 := by
  have hm : cosN i ∈ cosL := List.mem_of_getElem? (cosN_get h)
  have := List.all_eq_true.1 cos_bds _ hm
  simpa using this
theorem cosN_falls {i : Nat} (h : i < 1024) : cosN (i + 1) < cosN i := by
  have hm : (cosN i, cosN (i + 1)) ∈ cosL.zip (cosL.drop 1) := by
    refine List.mem_of_getElem? (i := i) ?_
    rw [List.getElem?_zip_eq_some]
    refine ⟨cosN_get (by omega), ?_⟩
    rw [List.getElem?_drop, Nat.add_comm]
    exact cosN_get (by omega)
  have := List.all_eq_true.1 cos_falls _ hm
  simpa using this
theorem cosN_legs {i : Nat} (h : i ≤ 1024) : cosN i * cosN i + cosN (1024 - i) * cosN (1024 - i) - 281474976710656 < 4294967296 ∧ -4294967296 < cosN i * cosN i + cosN (1024 - i) * cosN (1024 - i) - 281474976710656 := by
  have hm : (cosN i, cosN (1024 - i)) ∈ cosL.zip cosL.reverse := by
    refine List.mem_of_getElem? (i := i) ?_
    rw [List.getElem?_zip_eq_some]
    refine ⟨cosN_get (by omega), ?_⟩
    rw [List.getElem?_reverse (by rw [cosL_len]; omega), cosL_len]
    exact cosN_get (by omega)
  have := List.all_eq_true.1 cos_legs _ hm
  simpa using this
theorem level_at {k : Nat} (h : k < 10) : levelOK (2 ^ (k + 1)) = true := by
  have := List.all_eq_true.1 levels (2 ^ (k + 1)) (by
    have : k = 0 ∨ k = 1 ∨ k = 2 ∨ k = 3 ∨ k = 4 ∨ k = 5 ∨ k = 6 ∨ k = 7 ∨ k = 8 ∨ k = 9 := by omega
    rcases this with rfl | rfl | rfl | rfl | rfl | rfl | rfl | rfl | rfl | rfl <;> decide)
  exact this
theorem half_pow (k : Nat) : 2 ^ (k + 1) / 2 = 2 ^ k := by rw [Nat.pow_succ]; omega
/-- The root of step 2 to the k + 1. -/
theorem cos_root {k : Nat} (h : k < 10) : IsRoot ((16777216 + cosN (2 ^ (k + 1))) * 8388608) (cosN (2 ^ k)) := by
  have := level_at h
  unfold levelOK at this
  rw [Bool.and_eq_true] at this
  have hr := this.1
  unfold rootOK at hr
  rw [half_pow] at hr
  simp only [Bool.and_eq_true, decide_eq_true_eq] at hr
  have hb := cosN_bd (i := 2 ^ k) (by have := Nat.pow_le_pow_right (n := 2) (by decide) (show k ≤ 10 by omega); omega)
  exact ⟨hr.1.1, by omega, hr.1.2, hr.2⟩
/-- The middle one of step 2 to the k + 1 from a on. -/
theorem cos_mid {k a : Nat} (h : k < 10) (ha0 : 0 < a) (ha : a % 2 ^ (k + 1) = 0) (hl : a < 1024) :
    cosN (a + 2 ^ k) = if 2 * (((cosN a + cosN (a + 2 ^ (k + 1))) * 8388608) % cosN (2 ^ k)) ≥ cosN (2 ^ k) then ((cosN a + cosN (a + 2 ^ (k + 1))) * 8388608) / cosN (2 ^ k) + 1 else ((cosN a + cosN (a + 2 ^ (k + 1))) * 8388608) / cosN (2 ^ k) := by
  have := level_at h
  unfold levelOK at this
  rw [Bool.and_eq_true] at this
  have hq : a / 2 ^ (k + 1) * 2 ^ (k + 1) = a := Nat.div_mul_cancel (Nat.dvd_of_mod_eq_zero ha)
  have hp : 0 < 2 ^ (k + 1) := Nat.two_pow_pos _
  have h1024 : 1024 % 2 ^ (k + 1) = 0 := by
    have : k = 0 ∨ k = 1 ∨ k = 2 ∨ k = 3 ∨ k = 4 ∨ k = 5 ∨ k = 6 ∨ k = 7 ∨ k = 8 ∨ k = 9 := by omega
    rcases this with rfl | rfl | rfl | rfl | rfl | rfl | rfl | rfl | rfl | rfl <;> decide
  have hm := List.all_eq_true.1 this.2 (a / 2 ^ (k + 1)) (List.mem_range.2 (by
    have e : 1024 / 2 ^ (k + 1) * 2 ^ (k + 1) = 1024 := Nat.div_mul_cancel (Nat.dvd_of_mod_eq_zero h1024)
    refine Nat.lt_of_mul_lt_mul_right (a := 2 ^ (k + 1)) ?_
    rw [hq, e]; exact hl))
  rw [Bool.or_eq_true] at hm
  rcases hm with hm | hm
  · have : a / 2 ^ (k + 1) = 0 := by simpa using hm
    rw [this] at hq; omega
  · rw [hq] at hm
    unfold midOK at hm
    rw [half_pow] at hm
    simpa using hm

/-! ### The whole circle -/
def cosQ (i : Int) : Int :=
  let m := i % 4096
  let m' := if 2048 < m then 4096 - m else m
  if 1024 < m' then -(cosN (2048 - m').toNat) else cosN m'.toNat
noncomputable def cosP (i : Int) : Int := hideI (cosQ i)
theorem cosP_q (i : Int) : cosP i = cosQ i := hideI_eq _
theorem cosQ_in {i : Int} {n : Nat} (h : i % 4096 = n) (hn : n ≤ 1024) : cosQ i = cosN n := by
  unfold cosQ
  simp only [h]
  rw [if_neg (by omega), if_neg (by omega)]
  simp
theorem cosQ_2 {i : Int} {n : Nat} (h : i % 4096 = 2048 - n) (hn : n < 1024) : cosQ i = -(cosN n) := by
  unfold cosQ
  simp only [h]
  rw [if_neg (show ¬ (2048 : Int) < 2048 - n by omega), if_pos (by omega)]
  congr 2; omega
theorem cosQ_3 {i : Int} {n : Nat} (h : i % 4096 = 2048 + n) (hn0 : 0 < n) (hn : n < 1024) : cosQ i = -(cosN n) := by
  unfold cosQ
  simp only [h]
  rw [if_pos (show (2048 : Int) < 2048 + n by omega), if_pos (by omega)]
  congr 2; omega
theorem cosQ_4 {i : Int} {n : Nat} (h : i % 4096 = 4096 - n) (hn0 : 0 < n) (hn : n ≤ 1024) : cosQ i = cosN n := by
  unfold cosQ
  simp only [h]
  rw [if_pos (show (2048 : Int) < 4096 - n by omega), if_neg (by omega)]
  congr 1; omega
/-- Each place of the circle is one of four. -/
theorem circle_at (i : Int) : (∃ n : Nat, i % 4096 = n ∧ n ≤ 1024) ∨ (∃ n : Nat, i % 4096 = 2048 - n ∧ n < 1024) ∨ (∃ n : Nat, i % 4096 = 2048 + n ∧ 0 < n ∧ n < 1024) ∨ (∃ n : Nat, i % 4096 = 4096 - n ∧ 0 < n ∧ n ≤ 1024) := by
  have h0 := Int.emod_nonneg i (b := 4096) (by decide)
  have h1 := Int.emod_lt_of_pos i (b := 4096) (by decide)
  by_cases a : i % 4096 ≤ 1024
  · exact .inl ⟨(i % 4096).toNat, by omega, by omega⟩
  · by_cases b : i % 4096 ≤ 2048
    · exact .inr (.inl ⟨(2048 - i % 4096).toNat, by omega, by omega⟩)
    · by_cases c : i % 4096 < 3072
      · exact .inr (.inr (.inl ⟨(i % 4096 - 2048).toNat, by omega, by omega, by omega⟩))
      · exact .inr (.inr (.inr ⟨(4096 - i % 4096).toNat, by omega, by omega, by omega⟩))
theorem cosP_bd (i : Int) : -16777216 ≤ cosP i ∧ cosP i ≤ 16777216 := by
  rw [cosP_q]
  rcases circle_at i with ⟨n, h, l⟩ | ⟨n, h, l⟩ | ⟨n, h, l0, l⟩ | ⟨n, h, l0, l⟩
  · rw [cosQ_in h l]; have := cosN_bd l; omega
  · rw [cosQ_2 h l]; have := cosN_bd (i := n) (by omega); omega
  · rw [cosQ_3 h l0 l]; have := cosN_bd (i := n) (by omega); omega
  · rw [cosQ_4 h l0 l]; have := cosN_bd l; omega
theorem cosP_neg (i : Int) : cosP (-i) = cosP i := by
  rw [cosP_q, cosP_q]
  rcases circle_at i with ⟨n, h, l⟩ | ⟨n, h, l⟩ | ⟨n, h, l0, l⟩ | ⟨n, h, l0, l⟩
  · by_cases n0 : n = 0
    · subst n0; rw [cosQ_in h l, cosQ_in (n := 0) (by omega) (by omega)]
    · rw [cosQ_in h l, cosQ_4 (n := n) (by omega) (by omega) (by omega)]
  · by_cases n0 : n = 0
    · subst n0; rw [cosQ_2 h l, cosQ_2 (n := 0) (by omega) (by omega)]
    · rw [cosQ_2 h l, cosQ_3 (n := n) (by omega) (by omega) (by omega)]
  · rw [cosQ_3 h l0 l, cosQ_2 (n := n) (by omega) (by omega)]
  · rw [cosQ_4 h l0 l, cosQ_in (n := n) (by omega) (by omega)]
theorem cosN_last : cosN 1024 = 0 := by decide +kernel
theorem cosN_first : cosN 0 = 16777216 := by decide +kernel
theorem cosP_half (i : Int) : cosP (i + 2048) = -(cosP i) := by
  rw [cosP_q, cosP_q]
  rcases circle_at i with ⟨n, h, l⟩ | ⟨n, h, l⟩ | ⟨n, h, l0, l⟩ | ⟨n, h, l0, l⟩
  · rw [cosQ_in h l]
    by_cases n0 : n = 0
    · subst n0; rw [cosQ_2 (n := 0) (by omega) (by omega)]
    · by_cases n1 : n = 1024
      · subst n1; rw [cosQ_4 (n := 1024) (by omega) (by omega) (by omega), cosN_last]; rfl
      · rw [cosQ_3 (n := n) (by omega) (by omega) (by omega)]
  · rw [cosQ_2 h l]
    by_cases n0 : n = 0
    · subst n0; rw [cosQ_in (n := 0) (by omega) (by omega)]; omega
    · rw [cosQ_4 (n := n) (by omega) (by omega) (by omega)]; omega
  · rw [cosQ_3 h l0 l, cosQ_in (n := n) (by omega) (by omega)]; omega
  · rw [cosQ_4 h l0 l]
    by_cases n1 : n = 1024
    · subst n1; rw [cosQ_in (n := 1024) (by omega) (by omega), cosN_last]; rfl
    · rw [cosQ_2 (n := n) (by omega) (by omega)]
theorem cosP_whole (i : Int) : cosP (i + 4096) = cosP i := by
  have := cosP_half (i + 2048)
  rw [cosP_half i] at this
  rw [show i + 4096 = i + 2048 + 2048 by omega, this]; omega
theorem sq_neg (x : Int) : -x * -x = x * x := by rw [Int.neg_mul_neg]
/-- Both legs' squares come together to one, but for a little. -/
theorem cosP_legs (i : Int) : cosP i * cosP i + cosP (i - 1024) * cosP (i - 1024) - 281474976710656 < 4294967296 ∧ -4294967296 < cosP i * cosP i + cosP (i - 1024) * cosP (i - 1024) - 281474976710656 := by
  rw [cosP_q, cosP_q]
  rcases circle_at i with ⟨n, h, l⟩ | ⟨n, h, l⟩ | ⟨n, h, l0, l⟩ | ⟨n, h, l0, l⟩
  · rw [cosQ_in h l]
    by_cases n1 : n = 1024
    · subst n1; rw [cosQ_in (n := 0) (by omega) (by omega)]; exact cosN_legs (i := 1024) (by omega)
    · rw [cosQ_4 (n := 1024 - n) (by omega) (by omega) (by omega)]; exact cosN_legs (i := n) (by omega)
  · rw [cosQ_2 h l, cosQ_in (n := 1024 - n) (by omega) (by omega), sq_neg]; exact cosN_legs (i := n) (by omega)
  · rw [cosQ_3 h l0 l, cosQ_2 (n := 1024 - n) (by omega) (by omega), sq_neg, sq_neg]; exact cosN_legs (i := n) (by omega)
  · rw [cosQ_4 h l0 l]
    by_cases n1 : n = 1024
    · subst n1; rw [cosQ_2 (n := 0) (by omega) (by omega), sq_neg]; exact cosN_legs (i := 1024) (by omega)
    · rw [cosQ_3 (n := 1024 - n) (by omega) (by omega) (by omega), sq_neg]; exact cosN_legs (i := n) (by omega)
theorem cosP_falls {q : Int} (h0 : 0 ≤ q) (h1 : q < 1024) : cosP (q + 1) < cosP q := by
  have e1 : cosQ (q + 1) = cosN (q.toNat + 1) := cosQ_in (by omega) (by omega)
  have e2 : cosQ q = cosN q.toNat := cosQ_in (by omega) (by omega)
  rw [cosP_q, cosP_q, e1, e2]
  exact cosN_falls (by omega)
theorem cosP_512 : cosP 512 = 11863283 := by rw [cosP_q]; decide +kernel
/-- A place of a slope. -/
noncomputable def riseP (i : Int) : Int := if i < 0 then 0 else if 128 ≤ i then 16777216 else cosP (1024 - 4 * (2 * i + 1))
theorem riseP_neg {i : Int} (h : i < 0) : riseP i = 0 := if_pos h
theorem riseP_big {i : Int} (h : 128 ≤ i) : riseP i = 16777216 := by unfold riseP; rw [if_neg (by omega), if_pos h]
theorem riseP_in {i : Int} (h : 0 ≤ i) (h' : i < 128) : riseP i = cosP (1024 - 4 * (2 * i + 1)) := by unfold riseP; rw [if_neg (by omega), if_neg (by omega)]
theorem riseP_legs {q : Int} (h : 0 ≤ q) (h' : q < 128) : riseP q * riseP q + riseP (127 - q) * riseP (127 - q) - 281474976710656 < 4294967296 ∧ -4294967296 < riseP q * riseP q + riseP (127 - q) * riseP (127 - q) - 281474976710656 := by
  rw [riseP_in h h', riseP_in (by omega) (by omega)]
  have e : cosP (1024 - 4 * (2 * (127 - q) + 1)) = cosP (1024 - 4 * (2 * q + 1) - 1024) := by
    rw [← cosP_neg]; congr 1; omega
  rw [e]
  exact cosP_legs _
end Go.Proofs.Ytgjmpjfcnibgmaa
