/- The walks of the statements of layer 5, by the contracts of the functions that they call. -/
import Derived.Test.YthoabpfcpkmhfaaModC
import Derived.Test.YthoabpfcpkmhfaaModF
import Derived.OwnWalk
import Derived.BigRegion
namespace Go.Proofs.Ythoabpfcpkmhfaa
open Go.RowKit
set_option linter.unusedVariables false

theorem modNew_at (n : Nat) (i : Int) (w : World) (hi : i = n) (h0 : 1 ≤ n) (h1 : n ≤ 64) :
    Calls Try.prog 6 #[.int .i64 i] w fun e w' => ∃ g, e = .returned (.tuple #[.pointer (some ⟨g, 0, none⟩), .int .i64 0]) ∧ w.heap.size ≤ g ∧ ModAt w' g (List.replicate n 1) false ∧ Below w.heap.size w w' := by
  subst hi; exact modNew_any n w h0 h1
theorem modLearn_at (g : Nat) (l : List Int) (s : Nat) (i : Int) (w : World) (hi : i = s) (h : ModAt w g l false) (hG : GoodL l) (hs : s < l.length) :
    Calls Try.prog 24 #[.pointer (some ⟨g, 0, none⟩), .int .i64 i] w fun e w' => e = .returned (.int .i64 0) ∧ ModAt w' g (learnP l s) false ∧ Keeps (fun k => k = g) w w' := by
  subst hi; exact modLearn_any g l s w h hG hs
theorem modPart_at (g : Nat) (l : List Int) (fx : Bool) (s : Nat) (i : Int) (v : Value) (w : World) (hi : i = s) (h : ModAt w g l fx) (hG : GoodL l) (hs : s < l.length) (hv : partV l s = v) :
    Calls Try.prog 23 #[.pointer (some ⟨g, 0, none⟩), .int .i64 i] w fun e w' => e = .returned (.tuple #[v, .int .i64 0]) ∧ Below w.heap.size w w' := by
  subst hi; subst hv; exact modPart_any g l fx s w h hG hs
/-! ### The same parts -/
end Go.Proofs.Ythoabpfcpkmhfaa
