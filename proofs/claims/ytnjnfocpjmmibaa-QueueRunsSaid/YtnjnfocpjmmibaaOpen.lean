/- From a reading of an argument to what the walks are told of it: slices of slices of numbers. -/
import Derived.Test.YtnjnfocpjmmibaaMemA
import Derived.ProofKit
import Derived.OpenShut
import Derived.ShutString
import Derived.ChangeOld
import Derived.Below
import Derived.Deep.Matrix
namespace Go.Proofs.Ytnjnfocpjmmibaa
open Go.ChangeShapes Go.WideShapes Go.ChangeAt Go.RowKit Go.Deep
set_option linter.unusedVariables false

theorem addr_plain {w : World} {a : Addr} {v : Value} (h : w.cell? (a.add 0) = some v) : ∃ b off, a = ⟨b, off, none⟩ := by
  obtain ⟨b, off, spot⟩ := a
  have hs : spot = none := by simpa [Addr.add] using World.cell?_spot h
  subst hs
  exact ⟨b, off, rfl⟩

theorem rows_in {P : Program} {H : Type} {enc : TypeId × Value → H} {w : World} {base : Nat} {held : Bool} {t e q : TypeId} {k : IntKind} {fuel : Nat} {a : Option Addr} {len cap : Nat} {x : DataW H × List MemPlace}
    (ht : P.underlying t = some (.slice e)) (he : P.underlying e = some (.slice q)) (hq : P.underlying q = some (.int k)) (ce : P.cellsOf e = 1) (cq : P.cellsOf q = 1)
    (h : DataW.trod enc P w base (fun _ => true) held fuel t (Value.slice a len cap).cells.toList = some x) : ∃ A L C Z, RowsIn w k a len A L C Z := by
  rcases open_int_rows ht he hq ce cq h with ⟨hcs, _⟩ | ⟨a', len', cap', A, L, C, Z, hcs, _, hl, hm, _, hr⟩
  · simp [Value.cells] at hcs
    obtain ⟨rfl, rfl, rfl⟩ := hcs
    exact ⟨fun _ => none, fun _ => 0, fun _ => 0, fun _ => [], by omega, .inl rfl⟩
  · simp [Value.cells] at hcs
    obtain ⟨rfl, rfl, rfl⟩ := hcs
    unfold maxLen at hm
    refine ⟨A, L, C, fun r => (Z r).take (L r), by omega, ?_⟩
    by_cases h0 : len = 0
    · exact .inl h0
    · obtain ⟨b, off, rfl⟩ := addr_plain (hr 0 (by omega)).1
      refine .inr ⟨b, off, rfl, ?_, fun r hrl => ?_⟩
      · have := (hr 0 (by omega)).1
        rw [Go.WideShapes.add_plain] at this
        exact cell_block this
      · obtain ⟨g1, g2, g3, g4, g5, g6, g7⟩ := hr r (by omega)
        unfold maxLen at g3
        rw [Go.WideShapes.add_plain] at g1
        refine ⟨g1, by omega, g6, ⟨by simp; omega, ?_⟩, fun n hn => g5 n (List.mem_of_mem_take hn)⟩
        by_cases hL : L r = 0
        · exact .inl hL
        · cases hA : A r with
          | none => have := g6 hA; omega
          | some a' =>
            obtain ⟨_, hc⟩ := g7 a' hA
            obtain ⟨b', off', rfl⟩ := addr_plain (hc 0 (by omega))
            refine .inr ⟨b', off', rfl, ?_, by omega, fun j hj => ?_⟩
            · have := hc 0 (by omega)
              rw [Go.WideShapes.add_plain] at this
              exact cell_block this
            · have := hc j (by omega)
              rw [Go.WideShapes.add_plain] at this
              rw [this]
              simp [List.getD, hj]
end Go.Proofs.Ytnjnfocpjmmibaa
