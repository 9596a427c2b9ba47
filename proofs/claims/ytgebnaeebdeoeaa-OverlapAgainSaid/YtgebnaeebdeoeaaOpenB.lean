/- From a reading of an argument to what the walks are told of it: a slice of bools. -/
import Derived.Test.YtgebnaeebdeoeaaOpen
import Derived.Test.YtgebnaeebdeoeaaMemB
import Derived.Deep.Grids
namespace Go.Proofs.Ytgebnaeebdeoeaa
open Go.ChangeShapes Go.WideShapes Go.ChangeAt Go.RowKit Go.Deep
set_option linter.unusedVariables false

theorem bools_in {P : Program} {H : Type} {enc : TypeId × Value → H} {w : World} {base : Nat} {held : Bool} {t e : TypeId} {fuel : Nat} {a : Option Addr} {len cap : Nat} {x : DataW H × List MemPlace}
    (ht : P.underlying t = some (.slice e)) (he : P.underlying e = some .bool) (ce : P.cellsOf e = 1)
    (h : DataW.trod enc P w base (fun _ => true) held fuel t (Value.slice a len cap).cells.toList = some x) : ∃ bs, BoolsAt w w.heap.size a len bs := by
  rcases open_bools ht he ce h with ⟨hcs, _⟩ | ⟨a', len', cap', bs, hcs, _, hl, hm, _, hr⟩
  · simp [Value.cells] at hcs
    obtain ⟨rfl, rfl, rfl⟩ := hcs
    exact ⟨fun _ => false, by omega, .inl rfl⟩
  · simp [Value.cells] at hcs
    obtain ⟨rfl, rfl, rfl⟩ := hcs
    unfold maxLen at hm
    refine ⟨bs, by omega, ?_⟩
    by_cases h0 : len = 0
    · exact .inl h0
    · obtain ⟨b, off, rfl⟩ := addr_plain (hr 0 (by omega))
      refine .inr ⟨b, off, rfl, ?_, fun r hrl => ?_⟩
      · have := hr 0 (by omega)
        rw [Go.WideShapes.add_plain] at this
        exact cell_block this
      · have := hr r (by omega)
        rw [Go.WideShapes.add_plain] at this
        exact this
theorem wf9_i16 {zs : List Int} (h : ∀ n ∈ zs, (Lit.int .i16 n).wf = true) (j : Nat) : -32768 ≤ zs.getD j 0 ∧ zs.getD j 0 ≤ 32767 := by
  by_cases hj : j < zs.length
  · have := bounds_i16 (h (zs[j]) (List.getElem_mem hj))
    simpa [List.getD, hj] using this
  · simp [List.getD, hj]
theorem wf9_i32 {zs : List Int} (h : ∀ n ∈ zs, (Lit.int .i32 n).wf = true) (j : Nat) : -2147483648 ≤ zs.getD j 0 ∧ zs.getD j 0 ≤ 2147483647 := by
  by_cases hj : j < zs.length
  · have := bounds_i32 (h (zs[j]) (List.getElem_mem hj))
    simpa [List.getD, hj] using this
  · simp [List.getD, hj]
end Go.Proofs.Ytgebnaeebdeoeaa
