/- What the document's encoder of layer 6 gives: a model's symbol; its bytes. -/
import Derived.Test.YteffkhpofiloiaaRngE
import Derived.Test.YteffkhpofiloiaaModR
namespace Go.Proofs.Yteffkhpofiloiaa
open Go.RowKit
set_option linter.unusedVariables false

/-- What an encoder makes of a model's symbol. -/
def encSym (e : EncS) (l : List Int) (s : Nat) : EncS := encPut e (sumN l s) (l.getD s 0) l.sum
theorem okP_sym {l : List Int} (h : GoodL l) {s : Nat} (hs : s < l.length) : OkP (sumN l s) (l.getD s 0) l.sum := by
  have a := h.own hs
  have b := h.sum_le (n := s) (by omega)
  have c := sumN_succ l s hs
  have d := sumN_rise (l := l) (fun j hj => by have := h.2.2.1 j hj; omega) (m := s + 1) (n := l.length) (by omega) (Nat.le_refl _)
  rw [sumN_all] at d
  exact ⟨by omega, h.2.2.2, a.1, b.1, by omega⟩
/-- What a model has learnt then. -/
def nextL (l : List Int) (fx : Bool) (s : Nat) : List Int := if fx then l else learnP l s
theorem encSym_good {e : EncS} {l : List Int} {s : Nat} (hg : GoodE e) (hl : GoodL l) (hs : s < l.length) : GoodE (encSym e l s) := encPut_good hg (okP_sym hl hs)
theorem encSym_inside {e : EncS} {l : List Int} {s : Nat} (hg : GoodE e) (hl : GoodL l) (hs : s < l.length) : Inside e (encSym e l s) := encPut_inside hg (okP_sym hl hs)
theorem encSym_k (e : EncS) (l : List Int) (s : Nat) : (encSym e l s).k ≤ e.k + 2 := encPut_k e _ _ _
theorem nextL_good {l : List Int} (h : GoodL l) (fx : Bool) {s : Nat} (hs : s < l.length) : GoodL (nextL l fx s) ∧ (nextL l fx s).length = l.length := by
  cases fx with
  | true => exact ⟨h, rfl⟩
  | false => exact ⟨learnP_good h hs, learnP_len l s⟩
end Go.Proofs.Yteffkhpofiloiaa
