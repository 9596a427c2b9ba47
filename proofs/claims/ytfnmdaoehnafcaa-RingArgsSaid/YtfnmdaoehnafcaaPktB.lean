/- What package packet's number gives: the number that bytes are, the lowest first; the library's walk over a slice backwards. -/
import Derived.Test.YtfnmdaoehnafcaaPktA
namespace Go.Proofs.Ytfnmdaoehnafcaa
open Go.RowKit Go.Shelf
set_option linter.unusedVariables false
set_option linter.unusedSimpArgs false

theorem or_byte19 {c x : Int} (c0 : 0 ≤ c) (c1 : c ≤ 16777215) (x0 : 0 ≤ x) (x1 : x ≤ 255) : bits .or .u32 (c * 256) x = c * 256 + x := by
  obtain ⟨m, rfl⟩ : ∃ m : Nat, c = m := ⟨c.toNat, by omega⟩
  obtain ⟨n, rfl⟩ : ∃ n : Nat, x = n := ⟨x.toNat, by omega⟩
  have em : (m : Int) * 256 = ((m * 256 : Nat) : Int) := by omega
  rw [em, u32_or_nat _ _ (by omega) (by omega)]
  have := Nat.shiftLeft_add_eq_or_of_lt (b := n) (i := 8) (by omega) m
  rw [Nat.shiftLeft_eq] at this
  rw [← this]; omega
/-- Places and bytes, from the last one down. -/
def downL (f : Nat → Int) : Nat → List (Nat × Int)
  | 0 => []
  | k + 1 => (k, f k) :: downL f k
theorem downL_len (f : Nat → Int) (k : Nat) : (downL f k).length = k := by
  induction k with
  | zero => rfl
  | succ k ih => simp [downL, ih]
/-- Where one stands by how many have come. -/
theorem downL_at {f : Nat → Int} {N : Nat} : ∀ {pre : List (Nat × Int)} {x : Nat × Int} {rest : List (Nat × Int)}, downL f N = pre ++ x :: rest → pre.length < N ∧ x = (N - pre.length - 1, f (N - pre.length - 1)) := by
  induction N with
  | zero =>
    intro pre x rest h
    have := congrArg List.length h
    simp [downL] at this
  | succ N ih =>
    intro pre x rest h
    cases pre with
    | nil =>
      simp only [downL, List.nil_append, List.cons.injEq] at h
      exact ⟨by simp, h.1.symm⟩
    | cons y pre =>
      simp only [downL, List.cons_append, List.cons.injEq] at h
      obtain ⟨h1, h2⟩ := ih h.2
      refine ⟨by simp; omega, ?_⟩
      rw [h2]
      simp only [List.length_cons]
      rw [show N + 1 - (pre.length + 1) - 1 = N - pre.length - 1 by omega]

section
attribute [local go_sem] Oper.semAt_some
/-! ### The number that bytes are -/
end
end Go.Proofs.Ytfnmdaoehnafcaa
