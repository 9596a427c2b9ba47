/- From a reading of an argument to what the walks are told of it: packets. -/
import Derived.Test.YtfnmdaoehnafcaaOpenT
import Derived.Test.YtfnmdaoehnafcaaRigN
namespace Go.Proofs.Ytfnmdaoehnafcaa
open Go.ChangeShapes Go.WideShapes Go.ChangeAt Go.RowKit Go.Deep
set_option linter.unusedVariables false

def ks21 : List PT := [.int .u32, .int .u32, .bool, .ints .u8]
theorem pks_in21 {w : World} {a : Option Addr} {len : Nat} {Z : Nat → List Value} (h : StructsT w ks21 a len Z) : ∃ X, PksIn w a len X := by
  obtain ⟨h1, h2, h3⟩ := h
  rcases h3 with h0 | ⟨b, off, e, hb, hc⟩
  · exact ⟨fun _ => (⟨0, 0, false, []⟩, none, 0), h1, .inl h0⟩
  · have key : ∀ i, ∃ x : PkX, i < len → PkIn w b (off + i * 4) x := by
      intro i
      by_cases hi : i < len
      · obtain ⟨hl, hv⟩ := h2 i hi
        obtain ⟨v0, e0, n0, rfl, _⟩ := hv 0 _ rfl
        obtain ⟨v1, e1, n1, rfl, _⟩ := hv 1 _ rfl
        obtain ⟨v2, e2, t, rfl⟩ := hv 2 _ rfl
        obtain ⟨v3, e3, a2, m2, c2, zs, rfl, k1, k2, k3, k4, k5⟩ := hv 3 _ rfl
        have hz := k4.1
        subst hz
        refine ⟨(⟨n0, n1, t, zs⟩, a2, c2), fun _ => ⟨hc i hi 0 _ e0, ?_, ?_, ?_, k4, fun e => (k3 e).2, by simp only; omega⟩⟩
        · have := hc i hi 1 _ e1
          rw [← Nat.add_assoc] at this
          exact this
        · have := hc i hi 2 _ e2
          rw [← Nat.add_assoc] at this
          exact this
        · have := hc i hi 3 _ e3
          rw [← Nat.add_assoc] at this
          exact this
      · exact ⟨(⟨0, 0, false, []⟩, none, 0), fun c => absurd c hi⟩
    exact ⟨fun i => Classical.choose (key i), h1, .inr ⟨b, off, e, hb, fun i hi => Classical.choose_spec (key i) hi⟩⟩
end Go.Proofs.Ytfnmdaoehnafcaa
