/- Plain facts, and what functions give, for the proofs of this seat: several texts in one, each with its own first remark. -/
import Derived.Test.YtobhoecmmpijgaaGreatRe

/- Plain facts of the program's encoder of layer 6: digits ahead, one carried over, four more behind. Nothing here speaks of the program. -/
namespace Go.Proofs.YtobhoecmmpijgaaGreat
open Go
set_option linter.unusedVariables false

theorem IsDig.set_ {D : List Int} (h : IsDig D) (j : Nat) {x : Int} (x0 : 0 ≤ x) (x1 : x ≤ 255) : IsDig (D.set j x) := by
  intro i hi
  rw [List.length_set] at hi
  by_cases hj : j < D.length
  · rw [getD_set' D j i x hj]
    split
    · exact ⟨x0, x1⟩
    · exact h i hi
  · rw [List.set_eq_of_length_le (by omega)]; exact h i hi
theorem IsDig.snoc {D : List Int} (h : IsDig D) {x : Int} (x0 : 0 ≤ x) (x1 : x ≤ 255) : IsDig (D ++ [x]) := by
  intro i hi
  rw [List.length_append] at hi
  by_cases hj : i < D.length
  · have := h i hj
    simpa [List.getD, List.getElem?_append, hj] using this
  · obtain rfl : i = D.length := by simp at hi; omega
    simp [List.getD]; omega
theorem isDig_nil : IsDig [] := fun j hj => by simp at hj
/-- A digit that is full: it is a nought, and one is carried on. -/
theorem carry_full {D : List Int} {K p : Nat} {V : Int} (hd : IsDig D) (hl : D.length = K) (hp : p < K) (hx : D.getD p 0 = 255) (hv : valL D + P256 (K - (p + 1)) = V) :
    IsDig (D.set p 0) ∧ (D.set p 0).length = K ∧ valL (D.set p 0) + P256 (K - p) = V := by
  refine ⟨hd.set_ p (by omega) (by omega), by rw [List.length_set]; exact hl, ?_⟩
  rw [valL_set D (by omega), hx, hl, show K - p = (K - (p + 1)) + 1 by omega, P256_succ, show K - 1 - p = K - (p + 1) by omega]
  omega
/-- A digit that isn't: the carrying ends. -/
theorem carry_done {D : List Int} {K p : Nat} {V : Int} (hd : IsDig D) (hl : D.length = K) (hp : p < K) (hx : D.getD p 0 ≤ 254) (hv : valL D + P256 (K - (p + 1)) = V) :
    IsDig (D.set p (D.getD p 0 + 1)) ∧ (D.set p (D.getD p 0 + 1)).length = K ∧ valL (D.set p (D.getD p 0 + 1)) = V := by
  have := hd p (by omega)
  refine ⟨hd.set_ p (by omega) (by omega), by rw [List.length_set]; exact hl, ?_⟩
  rw [valL_set D (by omega), hl, show K - 1 - p = K - (p + 1) by omega, show D.getD p 0 + 1 - D.getD p 0 = 1 by omega]
  omega
/-- The last four digits. -/
def four (x : Int) : List Int := [x / 16777216 % 256, x / 65536 % 256, x / 256 % 256, x % 256]
theorem four_len (x : Int) : (four x).length = 4 := rfl
theorem four_val {D : List Int} (h : IsDig D) {x : Int} (x0 : 0 ≤ x) (x1 : x ≤ 4294967295) : IsDig (D ++ four x) ∧ valL (D ++ four x) = valL D * 4294967296 + x := by
  have e : D ++ four x = (((D ++ [x / 16777216 % 256]) ++ [x / 65536 % 256]) ++ [x / 256 % 256]) ++ [x % 256] := by simp [four]
  rw [e]
  refine ⟨(((h.snoc (by omega) (by omega)).snoc (by omega) (by omega)).snoc (by omega) (by omega)).snoc (by omega) (by omega), ?_⟩
  rw [valL_snoc, valL_snoc, valL_snoc, valL_snoc]
  omega
theorem four_dig {D : List Int} {k : Nat} {n x : Int} (h : IsDig D) (hl : D.length = k) (x0 : 0 ≤ x) (x1 : x ≤ 4294967295) (hn : n = valL D * 4294967296 + x) : D ++ four x = digL n (k + 4) := by
  obtain ⟨h1, h2⟩ := four_val h x0 x1
  have := dig_unique h1
  rw [h2, ← hn, List.length_append, four_len, hl] at this
  exact this
end Go.Proofs.YtobhoecmmpijgaaGreat
