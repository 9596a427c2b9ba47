/- From a reading of an argument to what the walks are told of it: acts. -/
import Derived.Test.YtnjnfocpjmmibaaOpenT
import Derived.Test.YtnjnfocpjmmibaaQueR
namespace Go.Proofs.Ytnjnfocpjmmibaa
open Go.ChangeShapes Go.WideShapes Go.ChangeAt Go.RowKit Go.Deep
set_option linter.unusedVariables false

def ks22 : List PT := [.int .u8, .bool, .int .i64, .ints .u8]
theorem acs_in22 {w : World} {a : Option Addr} {len : Nat} {Z : Nat → List Value} (h : StructsT w ks22 a len Z) : ∃ X, AcsIn22 w a len X := by
  obtain ⟨h1, h2, h3⟩ := h
  rcases h3 with h0 | ⟨b, off, e, hb, hc⟩
  · exact ⟨fun _ => ⟨0, false, 0, [], none, 0⟩, h1, .inl h0⟩
  · have key : ∀ i, ∃ x : Ac22, i < len → AcIn22 w b (off + i * 4) x := by
      intro i
      by_cases hi : i < len
      · obtain ⟨hl, hv⟩ := h2 i hi
        obtain ⟨v0, e0, n0, rfl, w0⟩ := hv 0 _ rfl
        obtain ⟨v1, e1, t, rfl⟩ := hv 1 _ rfl
        obtain ⟨v2, e2, n2, rfl, w2⟩ := hv 2 _ rfl
        obtain ⟨v3, e3, a2, m2, c2, zs, rfl, k1, k2, k3, k4, k5⟩ := hv 3 _ rfl
        have hz := k4.1
        subst hz
        have u0 : IntKind.u8.min = 0 := rfl
        have u1 : IntKind.u8.max = 255 := rfl
        have u2 : IntKind.i64.min = -9223372036854775808 := rfl
        have u3 : IntKind.i64.max = 9223372036854775807 := rfl
        simp [Lit.wf, u0, u1] at w0
        simp [Lit.wf, u2, u3] at w2
        refine ⟨⟨n0, t, n2, zs, a2, c2⟩, fun _ => ⟨hc i hi 0 _ e0, ?_, ?_, ?_, k4, fun e => (k3 e).2, k1, k2, w0, w2⟩⟩
        · have := hc i hi 1 _ e1
          rw [← Nat.add_assoc] at this
          exact this
        · have := hc i hi 2 _ e2
          rw [← Nat.add_assoc] at this
          exact this
        · have := hc i hi 3 _ e3
          rw [← Nat.add_assoc] at this
          exact this
      · exact ⟨⟨0, false, 0, [], none, 0⟩, fun c => absurd c hi⟩
    exact ⟨fun i => Classical.choose (key i), h1, .inr ⟨b, off, e, hb, fun i hi => Classical.choose_spec (key i) hi⟩⟩
end Go.Proofs.Ytnjnfocpjmmibaa
