/- Plain facts, and what functions give, for the proofs of this seat: several texts in one, each with its own first remark. -/
import Derived.Test.YtmgfkdmjgjlkjaaGreatAV

namespace Go.Proofs.YtmgfkdmjgjlkjaaGreat
open Go.ChangeShapes Go.WideShapes Go.ChangeAt Go.RowKit Go.Deep
set_option linter.unusedVariables false
def ks23 : List PT := [.int .u8, .str]
theorem bounds23_u8 {z : Int} (h : (Lit.int .u8 z).wf = true) : 0 ≤ z ∧ z ≤ 255 := by
  have e1 : IntKind.u8.min = 0 := rfl
  have e2 : IntKind.u8.max = 255 := rfl
  simp [Lit.wf, e1, e2] at h
  exact h
theorem acs_in23 {w : World} {a : Option Addr} {len : Nat} {Z : Nat → List Value} (h : StructsT w ks23 a len Z) : ∃ A, AcsIn23 w a len A := by
  obtain ⟨h1, h2, h3⟩ := h
  rcases h3 with h0 | ⟨b, off, e, hb, hc⟩
  · exact ⟨fun _ => (0, ⟨#[]⟩), h1, .inl h0⟩
  · have key : ∀ i, ∃ x : Int × ByteArray, i < len → w.cell? ⟨b, off + i * 2, none⟩ = some (.int .u8 x.1) ∧ w.cell? ⟨b, off + i * 2 + 1, none⟩ = some (.string x.2) ∧ (0 ≤ x.1 ∧ x.1 ≤ 255) ∧ x.2.size ≤ 9223372036854775807 := by
      intro i
      by_cases hi : i < len
      · obtain ⟨hl, hv⟩ := h2 i hi
        obtain ⟨v0, e0, t, rfl, ht⟩ := hv 0 _ rfl
        obtain ⟨v1, e1, s, rfl, hs⟩ := hv 1 _ rfl
        refine ⟨(t, s), fun _ => ⟨hc i hi 0 _ e0, ?_, bounds23_u8 ht, hs⟩⟩
        have := hc i hi 1 _ e1
        rw [← Nat.add_assoc] at this
        exact this
      · exact ⟨(0, ⟨#[]⟩), fun c => absurd c hi⟩
    exact ⟨fun i => Classical.choose (key i), h1, .inr ⟨b, off, e, hb, fun i hi => Classical.choose_spec (key i) hi⟩⟩
end Go.Proofs.YtmgfkdmjgjlkjaaGreat

namespace Go.Proofs.YtmgfkdmjgjlkjaaGreat
open Go.ChangeShapes Go.WideShapes Go.ChangeAt Go.RowKit Go.Deep
set_option linter.unusedVariables false
theorem array_in {P : Program} {H : Type} {enc : TypeId × Value → H} {w : World} {base b0 n : Nat} {held : Bool} {r : Reach} {t e : TypeId} {k : IntKind} {v : Value} {d : DataW H} {ps : List MemPlace}
    (ht : P.underlying t = some (.array n e)) (he : P.underlying e = some (.int k)) (ce : P.cellsOf e = 1) (ct : P.cellsOf t = n)
    (hval : Value.okWide P w r b0 t v) (hd : DataW.Trod enc P w base (fun _ => true) held t v d ps) :
    ∃ xs : List Int, v = .agg (xs.map (Value.int k)).toArray ∧ xs.length = n ∧ ∀ x ∈ xs, (Lit.int k x).wf = true := by
  simp only [Value.okWide, ht] at hval
  obtain ⟨cs, rfl, hs, _⟩ := hval
  obtain ⟨fuel, hf⟩ := hd
  obtain ⟨ys, m, _, _, hl, _, hi⟩ := DataW.trod_array ht hf
  simp only [Value.cells] at hl hi
  rw [ct] at hl hs
  have hcs : ∀ i : Nat, ∃ x : Int, i < n → cs[i]? = some (Value.int k x) ∧ (Lit.int k x).wf = true := by
    intro i
    by_cases h : i < n
    · have h1 := hi i h
      rw [ce, Nat.mul_one] at h1
      have hc : (cs.toList.drop i).take 1 = [cs[i]'(by omega)] := by
        apply List.ext_getElem?
        intro j
        cases j with
        | zero => simp [List.getElem?_drop, show i < cs.size by omega]
        | succ j => simp [List.getElem?_take]
      rw [hc] at h1
      cases hy : ys[i]? with
      | none =>
        rename_i hlen _
        have := List.getElem?_eq_none_iff.1 hy
        omega
      | some y =>
        rw [hy] at h1
        obtain ⟨x, hx, _, hw⟩ := DataW.trod_int he h1
        refine ⟨x, fun _ => ⟨?_, hw⟩⟩
        simp only [List.cons.injEq, and_true] at hx
        rw [Array.getElem?_eq_getElem (by omega), hx]
    · exact ⟨0, fun c => absurd c h⟩
  refine ⟨(List.range n).map fun i => Classical.choose (hcs i), ?_, by simp, ?_⟩
  · congr 1
    apply Array.ext_getElem?
    intro i
    by_cases h : i < n
    · rw [(Classical.choose_spec (hcs i) h).1]
      simp [h]
    · rw [Array.getElem?_eq_none (by omega)]
      simp [h]
  · intro x hx
    obtain ⟨i, hi2, rfl⟩ := List.mem_map.1 hx
    exact (Classical.choose_spec (hcs i) (by simpa using hi2)).2
end Go.Proofs.YtmgfkdmjgjlkjaaGreat
