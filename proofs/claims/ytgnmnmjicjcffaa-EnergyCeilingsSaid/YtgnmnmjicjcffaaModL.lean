/- The walks of the statements of layer 5, by the contracts of the functions that they call. -/
import Derived.Test.YtgnmnmjicjcffaaModC
import Derived.Test.YtgnmnmjicjcffaaModF
import Derived.OwnWalk
import Derived.BigRegion
namespace Go.Proofs.Ytgnmnmjicjcffaa
open Go.RowKit
set_option linter.unusedVariables false

theorem modLearn_at (g : Nat) (l : List Int) (s : Nat) (i : Int) (w : World) (hi : i = s) (h : ModAt w g l false) (hG : GoodL l) (hs : s < l.length) :
    Calls Try.prog 59 #[.pointer (some ⟨g, 0, none⟩), .int .i64 i] w fun e w' => e = .returned (.int .i64 0) ∧ ModAt w' g (learnP l s) false ∧ Keeps (fun k => k = g) w w' := by
  subst hi; exact modLearn_any g l s w h hG hs
theorem modPart_at (g : Nat) (l : List Int) (fx : Bool) (s : Nat) (i : Int) (v : Value) (w : World) (hi : i = s) (h : ModAt w g l fx) (hG : GoodL l) (hs : s < l.length) (hv : partV l s = v) :
    Calls Try.prog 58 #[.pointer (some ⟨g, 0, none⟩), .int .i64 i] w fun e w' => e = .returned (.tuple #[v, .int .i64 0]) ∧ Below w.heap.size w w' := by
  subst hi; subst hv; exact modPart_any g l fx s w h hG hs
theorem modFind_at (g : Nat) (l : List Int) (fx : Bool) (at' : Int) (i : Nat) (w : World) (h : ModAt w g l fx) (hG : GoodL l) (hv : findP l at' = i) :
    Calls Try.prog 71 #[.pointer (some ⟨g, 0, none⟩), .int .u32 at'] w fun e w' => e = .returned (.int .i64 i) ∧ ∃ n, w' = w.drewN n := by
  subst hv; exact modFind_any g l fx at' w h hG
theorem refFind_at (base g r : Nat) (l : List Int) (fx : Bool) (at' : Int) (i : Nat) (w : World) (hR : RefMod w base g r l fx) (hG : GoodL l) (hv : findP l at' = i) :
    Calls Try.prog 55 #[.pointer (some ⟨g, 0, none⟩), .int .i64 at'] w fun e w' => e = .returned (.int .i64 i) ∧ w = w' := by
  subst hv; exact refFind_any base g r l fx at' w hR hG.1 hG.2.1 (fun j hj => by have := hG.own hj; omega)

/-! ### The same parts -/
end Go.Proofs.Ytgnmnmjicjcffaa
