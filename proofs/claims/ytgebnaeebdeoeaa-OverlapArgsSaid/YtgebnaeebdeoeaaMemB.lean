/- Words of mine for memory: a slice of bools that came in. -/
import Derived.Test.YtgebnaeebdeoeaaMem
namespace Go.Proofs.Ytgebnaeebdeoeaa
open Go.RowKit
set_option linter.unusedVariables false

/-- What is known of a slice of bools: it is empty, or it leads to its bools, which lie below block B. -/
def BoolsAt (w : World) (B : Nat) (a : Option Addr) (len : Nat) (bs : Nat → Bool) : Prop :=
  len ≤ 9223372036854775807 ∧ (len = 0 ∨ ∃ b off, a = some ⟨b, off, none⟩ ∧ b < B ∧ ∀ j, j < len → w.cell? ⟨b, off + j, none⟩ = some (.bool (bs j)))
theorem BoolsAt.below {w w' : World} {B len : Nat} {a : Option Addr} {bs : Nat → Bool} (h : BoolsAt w B a len bs) (hb : Below B w w') : BoolsAt w' B a len bs := by
  obtain ⟨h1, h2⟩ := h
  refine ⟨h1, ?_⟩
  rcases h2 with h2 | ⟨b, off, e, h3, h5⟩
  · exact .inl h2
  · exact .inr ⟨b, off, e, h3, fun j hj => (hb.cell (p := ⟨b, off + j, none⟩) h3).trans (h5 j hj)⟩
theorem BoolsAt.at_ {w : World} {B len : Nat} {a : Option Addr} {bs : Nat → Bool} (h : BoolsAt w B a len bs) {j : Nat} (hj : j < len) :
    ∃ b off, a = some ⟨b, off, none⟩ ∧ b < B ∧ ∀ j, j < len → w.cell? ⟨b, off + j, none⟩ = some (.bool (bs j)) := by
  rcases h.2 with h | h
  · omega
  · exact h
end Go.Proofs.Ytgebnaeebdeoeaa
