/- Plain facts of texts as numbers, for the statements of layer 16: what is read and written again is the same just where there are no needless noughts. Nothing here speaks of the program. -/
import Derived.Lib.AtoiTie
import Derived.Lib.ItoaLen
namespace Go.Proofs.YtjhihjkhbmbigaaDoor
open Go
set_option linter.unusedVariables false

theorem digit_of (d : Nat) (h : d < 10) : Lib.digitVal (UInt8.ofNat (48 + d)) = some d := by
  have e : (UInt8.ofNat (48 + d)).toNat = 48 + d := by simp; omega
  unfold Lib.digitVal
  rw [e, if_pos (by omega)]
  congr 1
  omega
theorem digit_is {b : UInt8} {d : Nat} (h : Lib.digitVal b = some d) : d < 10 ∧ b = UInt8.ofNat (48 + d) ∧ b.toNat = 48 + d := by
  unfold Lib.digitVal at h
  split at h
  · rename_i c
    injection h with h
    have e : b.toNat = 48 + d := by omega
    refine ⟨by omega, ?_, e⟩
    rw [← e]
    simp
  · cases h
theorem decFrom_snoc (l : List UInt8) : ∀ (acc : Nat) (b : UInt8), Lib.decFrom acc (l ++ [b]) = (Lib.decFrom acc l).bind fun n => (Lib.digitVal b).map fun d => n * 10 + d := by
  induction l with
  | nil =>
    intro acc b
    simp only [List.nil_append, Lib.decFrom, Option.bind_some]
    cases Lib.digitVal b <;> rfl
  | cons a t ih =>
    intro acc b
    simp only [List.cons_append, Lib.decFrom]
    cases Lib.digitVal a with
    | none => rfl
    | some e => exact ih _ b
theorem decDigits_ne (u : Nat) : Lib.decDigits u ≠ [] := by
  intro c
  have := Lib.decDigits_length u
  rw [c] at this
  have := Lib.nDigits_pos u
  simp at *
  omega
theorem decDigits_read (u : Nat) : Lib.decFrom 0 (Lib.decDigits u) = some u := by
  induction u using Nat.strongRecOn with
  | _ u ih =>
    by_cases h : u < 10
    · rw [Lib.decDigits_one h]
      simp only [Lib.decFrom, digit_of u h]
      simp
    · rw [Lib.decDigits, dif_neg h, decFrom_snoc, ih (u / 10) (by omega), digit_of (u % 10) (by omega)]
      simp only [Option.bind_some, Option.map_some, Option.some.injEq]
      omega
theorem decDigits_head (u : Nat) (h : 1 ≤ u) : ((Lib.decDigits u).getD 0 0).toNat ≠ 48 := by
  induction u using Nat.strongRecOn with
  | _ u ih =>
    by_cases k : u < 10
    · rw [Lib.decDigits_one k]
      simp
      omega
    · rw [Lib.decDigits, dif_neg k]
      have hne := decDigits_ne (u / 10)
      have := ih (u / 10) (by omega) (by omega)
      cases hc : Lib.decDigits (u / 10) with
      | nil => exact absurd hc hne
      | cons a t =>
        rw [hc] at this
        simpa using this
theorem decDigits_long (u : Nat) (h : 1 < (Lib.decDigits u).length) : ((Lib.decDigits u).getD 0 0).toNat ≠ 48 := by
  refine decDigits_head u ?_
  rcases Nat.eq_zero_or_pos u with rfl | h'
  · rw [Lib.decDigits_one (by omega)] at h
    simp at h
  · exact h'
/-- A text of figures without needless noughts is its number's. -/
theorem decDigits_of : ∀ (k : Nat) (l : List UInt8), l.length = k → l ≠ [] → ¬ (1 < l.length ∧ (l.getD 0 0).toNat = 48) → ∀ u, Lib.decFrom 0 l = some u → Lib.decDigits u = l := by
  intro k
  induction k with
  | zero =>
    intro l h1 h2
    exact absurd (List.eq_nil_of_length_eq_zero h1) h2
  | succ k ih =>
    intro l h1 h2 h3 u hu
    have e := List.dropLast_concat_getLast h2
    generalize l.getLast h2 = b at e
    generalize hd : l.dropLast = t at e
    have ht : t.length = k := by rw [← hd, List.length_dropLast]; omega
    subst e
    rw [decFrom_snoc] at hu
    cases hf : Lib.decFrom 0 t with
    | none => rw [hf] at hu; cases hu
    | some m =>
      rw [hf] at hu
      cases hb : Lib.digitVal b with
      | none => rw [hb] at hu; cases hu
      | some d =>
        rw [hb] at hu
        simp only [Option.bind_some, Option.map_some, Option.some.injEq] at hu
        obtain ⟨d0, d1, _⟩ := digit_is hb
        by_cases hn : t = []
        · subst hn
          simp only [Lib.decFrom, Option.some.injEq] at hf
          rw [Lib.decDigits_one (by omega), d1]
          simp
          congr 1
          omega
        · have hl : 0 < t.length := List.length_pos_iff.2 hn
          have hz : (t.getD 0 0).toNat ≠ 48 := by
            intro c
            refine h3 ⟨by simp; omega, ?_⟩
            cases t with
            | nil => exact absurd rfl hn
            | cons a r => simpa using c
          have := ih t ht hn (fun c => hz c.2) m hf
          have hm : 1 ≤ m := by
            rcases Nat.eq_zero_or_pos m with rfl | h'
            · rw [Lib.decDigits_one (by omega)] at this
              rw [← this] at hz
              simp at hz
            · exact h'
          rw [Lib.decDigits, dif_neg (by omega), show u / 10 = m by omega, this, d1, show u % 10 = d by omega]
theorem nDigits_lo : ∀ u : Nat, 1 ≤ u → 10 ^ (Lib.nDigits u - 1) ≤ u := by
  intro u
  induction u using Nat.strongRecOn with
  | _ u ih =>
    intro h
    by_cases k : u < 10
    · rw [Lib.nDigits_small k]
      simpa using h
    · rw [Lib.nDigits_big k]
      have := ih (u / 10) (by omega) (by omega)
      have hp := Lib.nDigits_pos (u / 10)
      rw [show Lib.nDigits (u / 10) + 1 - 1 = (Lib.nDigits (u / 10) - 1) + 1 by omega, Nat.pow_succ]
      omega
theorem nDigits_19 (u : Nat) (h : u < 9223372036854775808) : Lib.nDigits u ≤ 19 := by
  rcases Nat.eq_zero_or_pos u with rfl | h1
  · rw [Lib.nDigits_small (by omega)]; omega
  · have := nDigits_lo u h1
    rcases Nat.lt_or_ge 19 (Lib.nDigits u) with c | c
    · have hp : 10 ^ 19 ≤ 10 ^ (Lib.nDigits u - 1) := Nat.pow_le_pow_right (by decide) (by omega)
      have e : (10 : Nat) ^ 19 = 10000000000000000000 := by decide
      omega
    · exact c
theorem decFrom_mono : ∀ (l : List UInt8) (acc u : Nat), Lib.decFrom acc l = some u → acc ≤ u
  | [], acc, u, h => by
    simp only [Lib.decFrom, Option.some.injEq] at h
    omega
  | b :: r, acc, u, h => by
    simp only [Lib.decFrom] at h
    cases hb : Lib.digitVal b with
    | none => rw [hb] at h; cases h
    | some d =>
      rw [hb] at h
      have := decFrom_mono r _ u h
      omega
theorem parse_of : ∀ (l : List UInt8) (acc u : Nat), Lib.decFrom acc l = some u → u < 18446744073709551616 → Lib.parseUint10 acc l = .ok u
  | [], acc, u, h, _ => by
    simp only [Lib.decFrom, Option.some.injEq] at h
    subst h
    rfl
  | b :: r, acc, u, h, hu => by
    simp only [Lib.decFrom] at h
    cases hb : Lib.digitVal b with
    | none => rw [hb] at h; cases h
    | some d =>
      rw [hb] at h
      have hm := decFrom_mono r _ u h
      obtain ⟨d0, _, d2⟩ := digit_is hb
      simp only [Lib.parseUint10]
      rw [if_pos (by omega), if_neg (by omega), if_neg (by omega), show b.toNat - 48 = d by omega]
      exact parse_of r _ u h hu
theorem atoi_of (u : Nat) (h : u < 9223372036854775808) : Lib.atoiAll (Lib.decDigits u) = .ok (u : Int) := by
  have hr := decDigits_read u
  have hne := decDigits_ne u
  have hp := parse_of _ 0 u hr (by omega)
  cases hc : Lib.decDigits u with
  | nil => exact absurd hc hne
  | cons a t =>
    rw [hc] at hr hp
    have ha : 48 ≤ a.toNat ∧ a.toNat ≤ 57 := by
      simp only [Lib.decFrom] at hr
      cases hb : Lib.digitVal a with
      | none => rw [hb] at hr; cases hr
      | some d =>
        have := digit_is hb
        omega
    rw [Lib.atoiAll_plain a t (by omega) (by omega)]
    unfold Lib.parseMag
    rw [if_neg (by simp), hp]
    simp only [Lib.signless]
    rw [if_neg (by omega)]

/-- A text's number, without needless noughts, up to most; -1: it is none. -/
noncomputable def numF (l : List UInt8) (most : Int) : Int :=
  if l = [] ∨ (1 < l.length ∧ (l.getD 0 0).toNat = 48) ∨ 19 < l.length ∨ most < 0 then -1
  else match Lib.decFrom 0 l with
    | none => -1
    | some n => if most < (n : Int) then -1 else (n : Int)
/-- .. as what is read and written again. -/
noncomputable def numP (l : List UInt8) (most : Int) : Int :=
  match Lib.atoiAll l with
  | .ok v => if v < 0 ∨ most < v ∨ Lib.itoa v ≠ l then -1 else v
  | _ => -1
theorem numP_eq (l : List UInt8) (most : Int) (hm : most ≤ 9223372036854775807) : numP l most = numF l most := by
  by_cases h : ∃ u : Nat, l = Lib.decDigits u ∧ (u : Int) ≤ most
  · obtain ⟨u, rfl, hu⟩ := h
    have e1 : numP (Lib.decDigits u) most = u := by
      unfold numP
      rw [atoi_of u (by omega)]
      simp only []
      rw [if_neg]
      intro c
      rcases c with c | c | c
      · omega
      · omega
      · exact c (Lib.itoa_nonneg u)
    have e2 : numF (Lib.decDigits u) most = u := by
      unfold numF
      rw [if_neg, decDigits_read]
      · simp only []
        rw [if_neg (by omega)]
      · intro c
        rcases c with c | c | c | c
        · exact decDigits_ne u c
        · exact decDigits_long u c.1 c.2
        · rw [Lib.decDigits_length] at c
          have := nDigits_19 u (by omega)
          omega
        · omega
    rw [e1, e2]
  · have e1 : numP l most = -1 := by
      unfold numP
      split
      · rename_i v hv
        split
        · rfl
        · rename_i c
          exfalso
          refine h ⟨v.toNat, ?_, by omega⟩
          have : Lib.itoa v = l := Classical.byContradiction fun k => c (.inr (.inr k))
          rw [← this]
          obtain ⟨u, rfl⟩ : ∃ u : Nat, v = u := ⟨v.toNat, by omega⟩
          rw [Lib.itoa_nonneg]
          simp
      · rfl
    have e2 : numF l most = -1 := by
      unfold numF
      split
      · rfl
      · rename_i c
        split
        · rfl
        · rename_i n hn
          split
          · rfl
          · exfalso
            refine h ⟨n, (decDigits_of l.length l rfl (fun k => c (.inl k)) (fun k => c (.inr (.inl k))) n hn).symm, by omega⟩
    rw [e1, e2]
theorem numF_bd (l : List UInt8) (most : Int) (hm : most ≤ 9223372036854775807) : -1 ≤ numF l most ∧ numF l most ≤ 9223372036854775807 := by
  unfold numF
  split
  · omega
  · split
    · omega
    · split <;> omega
end Go.Proofs.YtjhihjkhbmbigaaDoor
