/- What the document's encoder of layer 6 gives: a model's symbol; its bytes. -/
import Derived.Test.YtgnmnmjicjcffaaRngE
import Derived.Test.YtgnmnmjicjcffaaModR
namespace Go.Proofs.Ytgnmnmjicjcffaa
open Go.RowKit
set_option linter.unusedVariables false

/-- What an encoder makes of a model's symbol. -/
def encSym (e : EncS) (l : List Int) (s : Nat) : EncS := encPut e (sumN l s) (l.getD s 0) l.sum
theorem okP_sym {l : List Int} (h : GoodL l) {s : Nat} (hs : s < l.length) : OkP (sumN l s) (l.getD s 0) l.sum := by
  have a := h.own hs
  have b := h.sum_le (n := s) (by omega)
  have c := sumN_succ l s hs
  have d := sumN_rise (l := l) (fun j hj => by have := h.2.2.1 j hj; omega) (m := s + 1) (n := l.length) (by omega) (Nat.le_refl _)
  rw [sumN_all] at d
  exact ⟨by omega, h.2.2.2, a.1, b.1, by omega⟩
/-- What a model has learnt then. -/
def nextL (l : List Int) (fx : Bool) (s : Nat) : List Int := if fx then l else learnP l s
/-- What a symbol's putting leaves: the encoder and the model. -/
def SymPost (base b2 g r mg mr : Nat) (f : EncS) (l : List Int) (fx : Bool) (w : World) (x : Ending) (w' : World) : Prop :=
  x = .returned (.tuple #[]) ∧ ∃ r' c', EncMem w' base g r' c' (digL f.n (f.k + 4)) f.s f.k ∧ RefMod w' b2 mg mr l fx ∧ Keeps (fun j => j = g ∨ j = r ∨ j = mr) w w' ∧ (r' = r ∨ w.heap.size ≤ r')

set_option maxRecDepth 100000 in
theorem refEncSymbol_any (base b2 g r c mg mr : Nat) (e : EncS) (l : List Int) (fx : Bool) (s : Nat) (w : World) (hE : EncMem w base g r c (digL e.n (e.k + 4)) e.s e.k) (hR : RefMod w b2 mg mr l fx) (hG : GoodE e) (hL : GoodL l) (hs : s < l.length) (hk : e.k ≤ 900000) (d1 : mg ≠ g) (d2 : mg ≠ r) (d3 : mr ≠ g) (d4 : mr ≠ r) :
    Calls Try.prog 33 #[.pointer (some ⟨g, 0, none⟩), .pointer (some ⟨mg, 0, none⟩), .int .i64 s] w (SymPost base b2 g r mg mr (encSym e l s) (nextL l fx s) fx w) := by
  obtain ⟨cm, h1, h2, h3⟩ := hR
  have HR := Lib.hid (show RefMod w b2 mg mr l fx from ⟨cm, h1, h2, h3⟩)
  have HE := Lib.hid hE
  have HG := Lib.hid hG
  have HL := Lib.hid hL
  have hl := hL.2.1
  have c0 := h1.cell 0
  simp only [List.getElem?_toArray, List.getElem?_cons_zero] at c0
  have hcell := HR.out.at_ hs
  have hb : ∀ j, j < l.length → 0 ≤ l.getD j 0 ∧ l.getD j 0 ≤ 4294967295 := fun j hj => by have := HL.out.own hj; omega
  have HB := Lib.hid hb
  have HOk := Lib.hid (okP_sym hL hs)
  have HS : RowKit.Hid (encSym e l s = encPut e (sumN l s) (l.getD s 0) l.sum) := rfl
  have HT := Lib.hid (sumN_all l)
  have hsl : (s : Int) < (l.length : Int) := by omega
  have HRd : RowKit.Hid (RefMod w.drew b2 mg mr l fx) := HR.out
  have HEd : RowKit.Hid (EncMem w.drew base g r c (digL e.n (e.k + 4)) e.s e.k) := HE.out
  clear h1 h2 h3 hE hG hL hb
  rw [HS.out]
  clear HS
  generalize l.getD s 0 = X2 at hcell HOk ⊢
  go_enter Try.func33, Try.ntmps33
  go_wp2
  go_still_tail 18, (by kernel_rfl)
  still_call ((refSum_at b2 mg mr l fx s _ _ (by omega) HRd.out (by omega) hl HB.out).mono fun _ _ h => ⟨h.1, h.2.symm⟩)
  repeat still_step
  still_call ((refSum_at b2 mg mr l fx l.length _ _ (by omega) HRd.out (by omega) hl HB.out).mono fun _ _ h => ⟨h.1, h.2.symm⟩)
  refine wpStill_nil ?_
  change wpList _ _ _ _ _ w.drew
  rw [HT.out]
  clear c0 hcell
  have hF : ∀ k : Nat, (k = g ∨ k = r) → (k = g ∨ k = r ∨ k = mr) := fun k h => by omega
  cases fx with
  | true =>
    go_wp2_with (first | (go_at_call 47; go_loud (refine (refEncPut_any base g r c e _ _ _ _ HEd.out HG.out HOk.out (by omega)).mono ?_); rintro e5 w5 ⟨rfl, hpost⟩; have HP5 := Lib.hid hpost; obtain ⟨r3, c3, u1, u2, u3⟩ := hpost; have HR5 := Lib.hid (HRd.out.keeps u2 (by omega) (by omega)); clear u1 u2 u3) | (go_at_call 50; go_loud (refine (refLearn_fixed b2 mg mr l _ _ HR5.out).mono ?_); rintro e6 w6 ⟨rfl, rfl⟩))
    go_end0
    obtain ⟨r3, c3, u1, u2, u3⟩ := HP5.out
    exact ⟨rfl, r3, c3, u1, HR5.out, ((Keeps.refl _ w).drewN 1).trans (u2.mono hF), u3⟩
  | false =>
    go_wp2_with (first | (go_at_call 47; go_loud (refine (refEncPut_any base g r c e _ _ _ _ HEd.out HG.out HOk.out (by omega)).mono ?_); rintro e5 w5 ⟨rfl, hpost⟩; have HP5 := Lib.hid hpost; obtain ⟨r3, c3, u1, u2, u3⟩ := hpost; have HR5 := Lib.hid (HRd.out.keeps u2 (by omega) (by omega)); clear u1 u2 u3) | (go_at_call 50; go_loud (refine (refLearn_any b2 mg mr l s _ HR5.out HL.out hs).mono ?_); rintro e6 w6 ⟨rfl, hm, hk6⟩; have HM6 := Lib.hid hm; have HK6 := Lib.hid hk6; clear hm hk6))
    go_end0
    obtain ⟨r3, c3, u1, u2, u3⟩ := HP5.out
    have hr3 := u1.lt
    refine ⟨rfl, r3, c3, u1.keeps HK6.out (by omega) ?_, HM6.out, (((Keeps.refl _ w).drewN 1).trans (u2.mono hF)).trans (HK6.out.mono fun k h => by omega), u3⟩
    intro hc
    have hsz : mr < w.heap.size := HR.out.lt.2.1
    rcases u3 with h | h
    · omega
    · have : w.heap.size ≤ r3 := h
      omega
theorem encSym_good {e : EncS} {l : List Int} {s : Nat} (hg : GoodE e) (hl : GoodL l) (hs : s < l.length) : GoodE (encSym e l s) := encPut_good hg (okP_sym hl hs)
theorem encSym_inside {e : EncS} {l : List Int} {s : Nat} (hg : GoodE e) (hl : GoodL l) (hs : s < l.length) : Inside e (encSym e l s) := encPut_inside hg (okP_sym hl hs)
theorem encSym_k (e : EncS) (l : List Int) (s : Nat) : (encSym e l s).k ≤ e.k + 2 := encPut_k e _ _ _
theorem nextL_good {l : List Int} (h : GoodL l) (fx : Bool) {s : Nat} (hs : s < l.length) : GoodL (nextL l fx s) ∧ (nextL l fx s).length = l.length := by
  cases fx with
  | true => exact ⟨h, rfl⟩
  | false => exact ⟨learnP_good h hs, learnP_len l s⟩
end Go.Proofs.Ytgnmnmjicjcffaa
