/- From a reading of an argument to what the walks are told of it: an array of integers, by value. -/
import Derived.Test.YtkledfalplekeaaDoorOpen
namespace Go.Proofs.YtkledfalplekeaaDoor
open Go.ChangeShapes Go.WideShapes Go.ChangeAt Go.RowKit Go.Deep
set_option linter.unusedVariables false

theorem array_in {P : Program} {H : Type} {enc : TypeId × Value → H} {w : World} {base b0 n : Nat} {held : Bool} {r : Reach} {t e : TypeId} {k : IntKind} {v : Value} {d : DataW H} {ps : List MemPlace}
    (ht : P.underlying t = some (.array n e)) (he : P.underlying e = some (.int k)) (ce : P.cellsOf e = 1) (ct : P.cellsOf t = n)
    (hval : Value.okWide P w r b0 t v) (hd : DataW.Trod enc P w base (fun _ => true) held t v d ps) :
    ∃ xs : List Int, v = .agg (xs.map (Value.int k)).toArray ∧ xs.length = n ∧ ∀ x ∈ xs, (Lit.int k x).wf = true := by
  simp only [Value.okWide, ht] at hval
  obtain ⟨cs, rfl, hs, _⟩ := hval
  obtain ⟨fuel, hf⟩ := hd
  obtain ⟨ys, m, _, _, hl, _, hi⟩ := DataW.trod_array ht hf
  simp only [Value.cells] at hl hi
  rw [ct] at hl hs
  have hcs : ∀ i : Nat, ∃ x : Int, i < n → cs[i]? = some (Value.int k x) ∧ (Lit.int k x).wf = true := by
    intro i
    by_cases h : i < n
    · have h1 := hi i h
      rw [ce, Nat.mul_one] at h1
      have hc : (cs.toList.drop i).take 1 = [cs[i]'(by omega)] := by
        apply List.ext_getElem?
        intro j
        cases j with
        | zero => simp [List.getElem?_drop, show i < cs.size by omega]
        | succ j => simp [List.getElem?_take]
      rw [hc] at h1
      cases hy : ys[i]? with
      | none =>
        rename_i hlen _
        have := List.getElem?_eq_none_iff.1 hy
        omega
      | some y =>
        rw [hy] at h1
        obtain ⟨x, hx, _, hw⟩ := DataW.trod_int he h1
        refine ⟨x, fun _ => ⟨?_, hw⟩⟩
        simp only [List.cons.injEq, and_true] at hx
        rw [Array.getElem?_eq_getElem (by omega), hx]
    · exact ⟨0, fun c => absurd c h⟩
  refine ⟨(List.range n).map fun i => Classical.choose (hcs i), ?_, by simp, ?_⟩
  · congr 1
    apply Array.ext_getElem?
    intro i
    by_cases h : i < n
    · rw [(Classical.choose_spec (hcs i) h).1]
      simp [h]
    · rw [Array.getElem?_eq_none (by omega)]
      simp [h]
  · intro x hx
    obtain ⟨i, hi2, rfl⟩ := List.mem_map.1 hx
    exact (Classical.choose_spec (hcs i) (by simpa using hi2)).2
end Go.Proofs.YtkledfalplekeaaDoor
