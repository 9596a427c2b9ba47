/- The walks of the statements of layer 7: the example, no decoder. -/
import Derived.Test.YteffkhpofiloiaaRdcE
import Derived.Test.YteffkhpofiloiaaRncK
import Derived.Test.YteffkhpofiloiaaRngH
import Derived.Test.YteffkhpofiloiaaRngA
import Derived.OwnWalk
namespace Go.Proofs.Yteffkhpofiloiaa
open Go.RowKit
set_option linter.unusedVariables false

theorem isDig_of {b : List Int} (h : ∀ x ∈ b, 0 ≤ x ∧ x ≤ 255) : IsDig b := by
  intro j hj
  simp only [List.getD, List.getElem?_eq_getElem hj, Option.getD_some]
  exact h _ (List.getElem_mem hj)
theorem byteF_bd {b : List Int} (h : IsDig b) (j : Nat) : 0 ≤ byteF b j ∧ byteF b j ≤ 255 := by
  unfold byteF
  by_cases hj : j < b.length
  · exact h j hj
  · rw [List.getD, List.getElem?_eq_none (by omega)]; decide
theorem some_of_ints {w : World} {B len : Nat} {k : IntKind} {a : Option Addr} {zs : List Int} {cap : Nat} (h : IntsAt w B k a len zs) (h0 : 0 < len) : a = none → cap = 0 := by
  intro e
  rcases h.2 with h2 | ⟨_, _, h2, _⟩
  · omega
  · rw [e] at h2; cases h2
theorem goodD_new {b : List Int} (h : IsDig b) : GoodD (decNew (byteF b)) := by
  have a := valB_nonneg (fun j => (byteF_bd h j).1) 4
  have b0 := byteF_bd h 0
  have b1 := byteF_bd h 1
  have b2 := byteF_bd h 2
  have b3 := byteF_bd h 3
  refine ⟨by show (16777216 : Int) ≤ 4294967295; decide, by show (4294967295 : Int) ≤ 4294967295; decide, a, ?_⟩
  show (((0 * 256 + byteF b 0) * 256 + byteF b 1) * 256 + byteF b 2) * 256 + byteF b 3 ≤ 4294967295
  omega
theorem drcBits_at (base g : Nat) (v : Value) (b : List Int) (d f : DecS) (n : Int) (wide : Nat) (i : Int) (w : World) (hi' : i = wide) (hf : decBits b d 0 wide = (n, f)) (hD : DrcAt w base g v b d) (hb : ∀ j, 0 ≤ byteF b j ∧ byteF b j ≤ 255) (hbl : b.length ≤ 1000000) (hi : d.i ≤ 4000000) (hG : GoodD d) (hw : wide ≤ 24) :
    Calls Try.prog 13 #[.pointer (some ⟨g, 0, none⟩), .int .i64 i] w (DrcBitsPost base g v b n f w) := by
  subst hi'
  have := drcBits_any base g v b d wide w hD hb hbl hi hG hw
  rw [hf] at this; exact this

/-- The example. -/
def exL : List Int := [18, 253, 14, 208, 47]
def exE : EncS := ⟨20878084550400, 268435200, 2⟩
def exD : DecS := ⟨0, 268435200, 6⟩
def exS : DecS := decNew (byteF exL)
theorem exE_eq : encBits encNew 77777 20 = exE := by kernel_rfl
theorem exE_bytes : bytesL (digL exE.n (exE.k + 4)) = exL := by decide
theorem exD_eq : decBits exL exS 0 20 = (77777, exD) := by kernel_rfl
theorem exL_dig : IsDig exL := isDig_of (by decide)

set_option maxHeartbeats 400000 in
set_option maxRecDepth 100000 in
theorem lives07_any (w : World) : Calls Try.prog 6 #[] w fun e w' => e = .returned (.bool true) ∧ Below w.heap.size w w' := by
  have HG := Lib.hid goodE_new
  have HA := Lib.hid exE_eq
  have HBa := Lib.hid exE_bytes
  have HDd := Lib.hid exD_eq
  have HDg := Lib.hid (goodD_new exL_dig)
  have HDb := Lib.hid (byteF_bd exL_dig)
  have hk0 : encNew.k ≤ 800000 := by decide
  have ha1 : exE.k ≤ 900000 := by decide
  have hl0 : exL.length ≤ 1000000 := by decide
  have hi0 : exS.i ≤ 4000000 := by decide
  go_enter Try.func6, Try.ntmps6
  go_wp2_with (first
    | (go_at_call 16; go_loud (refine (rncNew_any _).mono ?_); rintro e1 w1 ⟨rfl, hm, hb⟩; have HN1 := Lib.hid hm; have HB1 := Lib.hid hb; clear hm hb)
    | (go_at_call 18; go_loud (refine (rncBits_at w.heap.size w.heap.size (.slice none 0 0) encNew exE 77777 20 _ _ (by rfl) HA.out HN1.out HG.out (by decide) (by decide) (by decide) (by decide) hk0).mono ?_); rintro e3 w3 ⟨rfl, v3, hm, hk, ho⟩; have HP3 := Lib.hid hm; have HB3 := Lib.hid (HB1.out.trans (hk.below HB1.out.size (by rintro j (c | c); omega; cases c))); clear hm hk ho)
    | (go_at_call 19; go_loud (with_reducible refine (rncBytes_at w.heap.size w.heap.size v3 exE _ _ HP3.out ha1 HBa.out).mono ?_); rintro e5 w5 ⟨a5, c5, rfl, hI5, hb⟩; have HI5 := Lib.hid hI5; have HB5 := Lib.hid (HB3.out.trans (hb.mono HB3.out.size)); have HS5 := Lib.hid (show a5 = none → c5 = 0 from some_of_ints hI5 (by decide)); clear hI5 hb)
    | (go_at_call 9; go_loud (refine (drcNew_any a5 _ c5 exL _ HI5.out HS5.out HDb.out hl0).mono ?_); rintro e6 w6 ⟨g6, v6, rfl, hm, hb⟩; have HD6 : RowKit.Hid (DrcAt w6 w5.heap.size g6 v6 exL exS) := hm; have HB6 := Lib.hid (HB5.out.trans (hb.mono HB5.out.size)); clear hm hb)
    | (go_at_call 13; go_loud (refine (drcBits_at w5.heap.size g6 v6 exL exS exD 77777 20 _ _ (by rfl) HDd.out HD6.out HDb.out hl0 hi0 HDg.out (by decide)).mono ?_); rintro e7 w7 ⟨rfl, hm, hk⟩; have h6 := HD6.out.lt.2; have h5 := HB5.out.size; have HB7 := Lib.hid (HB6.out.trans (hk.below HB6.out.size (by intro j hj; omega))); clear hm hk))
  go_ret
  exact ⟨rfl, HB7.out⟩

def ex0S : DecS := decNew (byteF [])
def ex0D : DecS := ⟨0, 2147483392, 5⟩
theorem ex0_eq : decBits [] ex0S 0 9 = (0, ex0D) := by kernel_rfl
theorem dig_nil : IsDig [] := isDig_of (by decide)
theorem ints_nil (w : World) : IntsAt w w.heap.size .u8 none 0 [] := ⟨rfl, .inl rfl⟩
theorem drcNew_nil (w : World) : Calls Try.prog 9 #[.slice none 0 0] w (DrcNewPost [] w) :=
  drcNew_any none 0 0 [] w (ints_nil w) (fun _ => rfl) (byteF_bd dig_nil) (by decide)
set_option maxHeartbeats 400000 in
set_option maxRecDepth 100000 in
theorem rangedecNil_law (wide : Int) (w0 : (Lit.int .i64 wide).wf = true) (w : World) :
    Calls Try.prog 5 #[.int .i64 wide] w fun e w' => e = .returned (.bool true) ∧ Below w.heap.size w w' := by
  have hB := Lib.hid (Below.refl w.heap.size w)
  have HDd := Lib.hid ex0_eq
  have HDg : RowKit.Hid (GoodD ex0S) := goodD_new dig_nil
  have HDb := Lib.hid (byteF_bd dig_nil)
  have hl0 : ([] : List Int).length ≤ 1000000 := by decide
  have hi0 : ex0S.i ≤ 4000000 := by decide
  have hi1 : ex0S.i ≤ 10000000 := by decide
  have h924 : 9 ≤ 24 := by decide
  have H9 : RowKit.Hid ((9 : Int) = ((9 : Nat) : Int)) := rfl
  have H4 : RowKit.Hid (max ((ex0S.i : Int) - ([] : List Int).length) 0 = 4) := by show _ = _; decide
  go_enter Try.func5, Try.ntmps5
  go_wp2_with (first
    | (go_at_call 6; refine (lives07_any _).mono ?_; rintro e w1 ⟨rfl, hb⟩; replace hB := Lib.hid (chain hB.out hb); clear hb)
    | (go_at_call 7; go_loud (refine (modNew_at 3 _ _ (by decide) (by decide) (by decide)).mono ?_); rintro e w2 ⟨mg, rfl, hg, hm, hb⟩; replace hB := Lib.hid (chain hB.out hb); clear hm hb)
    | (go_at_call 11; with_reducible refine (drcSymbol_nil (some ⟨mg, 0, none⟩) _).mono ?_; rintro e w3 ⟨rfl, rfl⟩)
    | (go_at_call 13; with_reducible refine (drcBits_nil _ _).mono ?_; rintro e w3 ⟨rfl, rfl⟩)
    | (go_at_call 15; with_reducible refine (drcOver_nil _).mono ?_; rintro e w3 ⟨rfl, rfl⟩)
    | (go_at_call 9; go_loud (with_reducible refine (drcNew_nil _).mono ?_); rintro e6 w6 ⟨g6, v6, rfl, hm, hb⟩; have hs6 := hB.out.size; have HD6 : RowKit.Hid (DrcAt w6 _ g6 v6 [] ex0S) := hm; replace hB := Lib.hid (chain hB.out hb); clear hm hb)
    | (go_at_call 11; go_loud (with_reducible refine (drcSymbol_none _ _).mono ?_); rintro e w3 ⟨rfl, hb⟩; replace hB := Lib.hid (chain hB.out hb); clear hb)
    | (go_at_call 13; go_loud (with_reducible refine (drcBits_at _ _ _ [] ex0S ex0D 0 9 _ _ H9.out HDd.out HD6.out HDb.out hl0 hi0 HDg.out h924).mono ?_); rintro e7 w7 ⟨rfl, hm, hk⟩; replace hB := Lib.hid (hB.out.trans (hk.below hB.out.size (by intro j hj; have := HD6.out.lt.2; omega))); clear hm hk)
    | (go_at_call 15; go_loud (with_reducible refine (drcOver_any _ _ _ [] ex0S _ HD6.out hl0 hi1).mono ?_); rintro e7 w7 ⟨rfl, n7, rfl⟩; rw [H4.out]; replace hB := Lib.hid (Below.drewN' hB.out n7)))
  go_ret
  exact ⟨rfl, hB.out⟩
end Go.Proofs.Yteffkhpofiloiaa
