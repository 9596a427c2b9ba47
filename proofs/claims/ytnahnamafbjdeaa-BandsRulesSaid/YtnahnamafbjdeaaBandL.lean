/- The walks of the statements of layer 4, by the contracts of the functions that they call. -/
import Derived.Test.YtnahnamafbjdeaaBandC
import Derived.OpenShut
namespace Go.Proofs.Ytnahnamafbjdeaa
open Go.RowKit
set_option linter.unusedVariables false

theorem riseP_bd (i : Int) : -16777216 ≤ riseP i ∧ riseP i ≤ 16777216 := by
  unfold riseP
  split
  · omega
  · split
    · omega
    · exact cosP_bd _

theorem lives04_any (w : World) : Calls Try.prog 6 #[] w fun e w' => e = .returned (.bool true) ∧ Below w.heap.size w w' := by
  have hB := Lib.hid (Below.refl w.heap.size w)
  have E := Lib.hid cosP_512
  go_enter Try.func6, Try.ntmps6
  go_wp2_with (first | (go_at_call 7; ((with_reducible refine (circNew_any _).mono ?_));  rintro e w1 ⟨g, rfl, hg, hb⟩; replace hB := Lib.hid (chain hB.out hb); clear hb; have HG := Lib.hid hg; clear hg) | (go_at_call 9; ((with_reducible refine (circCos_any _ _ _ HG.out (by omega) (by omega)).mono ?_));  rintro e w1 ⟨rfl, hb⟩; replace hB := Lib.hid (chain hB.out hb); clear hb))
  go_ret
  exact ⟨ret_bool (by rw [E.out]; decide), hB.out⟩

/-- A table, and the document's, while blocks are added. -/
def CircSt (w wr : World) (g q : Nat) : Prop := CircAt wr g ∧ IFun wr q 2 .i64 1025 cosN ∧ Below w.heap.size w wr
theorem CircSt.c {w wr : World} {g q : Nat} (h : CircSt w wr g q) : CircAt wr g := h.1
theorem CircSt.q {w wr : World} {g q : Nat} (h : CircSt w wr g q) : IFun wr q 2 .i64 1025 cosN := h.2.1
theorem CircSt.b {w wr : World} {g q : Nat} (h : CircSt w wr g q) : Below w.heap.size w wr := h.2.2
theorem CircSt.below {w wr w' : World} {g q : Nat} (h : CircSt w wr g q) (hb : Below wr.heap.size wr w') : CircSt w w' g q :=
  ⟨h.1.keep (hb.block g h.1.lt), h.2.1.below hb h.2.1.lt, h.2.2.trans (hb.mono h.2.2.size)⟩

set_option maxRecDepth 100000 in
theorem bandsCircle_law (i at' : Int) (w0 : (Lit.int .i64 i).wf = true) (w1 : (Lit.int .i64 at').wf = true) (w : World) :
    Calls Try.prog 3 #[.int .i64 i, .int .i64 at'] w fun e w' => e = .returned (.bool true) ∧ Below w.heap.size w w' := by
  obtain ⟨i0, i1⟩ := bounds_i64 w0
  obtain ⟨a0, a1⟩ := bounds_i64 w1
  clear w0 w1
  have hB := Lib.hid (Below.refl w.heap.size w)
  obtain ⟨t0, t1⟩ := tmod_bd (n := at') (d := 200) (by decide)
  obtain ⟨c0, c1⟩ := cosP_bd i
  obtain ⟨r0, r1⟩ := riseP_bd at'
  obtain ⟨s0, s1⟩ := riseP_bd (at'.tmod 200)
  go_enter Try.func3, Try.ntmps3
  go_wp2_with (first | (go_at_call 6; refine (lives04_any _).mono ?_; rintro e w1 ⟨rfl, hb⟩; replace hB := Lib.hid (chain hB.out hb); clear hb) | (go_at_call 7; ((with_reducible refine (circNew_any _).mono ?_));  rintro e w1 ⟨g, rfl, hg, hb⟩; replace hB := Lib.hid (chain hB.out hb); clear hb; have HG := Lib.hid hg; clear hg) | (go_at_call 8; ((with_reducible refine (ref04Quarter_any _).mono ?_));  rintro e w2 ⟨rfl, hq, hb⟩; have HS := Lib.hid (show CircSt w w2 _ _ from ⟨HG.out.keep (hb.block _ HG.out.lt), hq, chain hB.out hb⟩); clear hq hb))
  generalize w1.heap.size = q at HS ⊢
  clear hB HG
  go_loopw [7, 13] (fun _ k wr => ∃ n : Nat, n ≤ 4096 ∧ k = .int .i64 n ∧ RowKit.Hid (CircSt w wr g q)) (fun _ k _ => (4096 - intOf k).toNat)
  case atStart => exact ⟨0, by omega, rfl, HS.out⟩
  case round =>
    obtain ⟨n, hn, rfl, HS⟩ := hrel
    by_cases hlt : n < 4096
    · obtain ⟨d0, d1⟩ := cosP_bd (n : Int)
      go_wp2_with (first | (go_at_call 9; ((with_reducible refine (circCos_any g _ _ HS.out.c (by omega) (by omega)).mono ?_));  rintro e w3 ⟨rfl, hb⟩; replace HS := Lib.hid (HS.out.below hb); clear hb) | (go_at_call 10; ((with_reducible refine (ref04Cos_any q _ _ HS.out.q (by omega) (by omega)).mono ?_));  rintro e w3 ⟨rfl, rfl⟩) | (go_at_call 11; ((with_reducible refine (circRise_any g _ _ HS.out.c (by omega) (by omega)).mono ?_));  rintro e w3 ⟨rfl, hb⟩; replace HS := Lib.hid (HS.out.below hb); clear hb) | (go_at_call 12; ((with_reducible refine (ref04Rise_any q _ _ HS.out.q (by omega) (by omega)).mono ?_));  rintro e w3 ⟨rfl, rfl⟩) | (go_at_call 9; ((with_reducible refine (circCos_nil _ _ (by omega) (by omega)).mono ?_));  rintro e w3 ⟨rfl, hb⟩; replace HS := Lib.hid (HS.out.below hb); clear hb) | (go_at_call 11; ((with_reducible refine (circRise_nil _ _ (by omega) (by omega)).mono ?_));  rintro e w3 ⟨rfl, hb⟩; replace HS := Lib.hid (HS.out.below hb); clear hb))
      go_roundw
      case rel => exact ⟨n + 1, by omega, by go_num, HS.out⟩
      case measure => simp [intOf] <;> omega
    · go_wp2_with (first | (go_at_call 9; ((with_reducible refine (circCos_any g _ _ HS.out.c (by omega) (by omega)).mono ?_));  rintro e w3 ⟨rfl, hb⟩; replace HS := Lib.hid (HS.out.below hb); clear hb) | (go_at_call 10; ((with_reducible refine (ref04Cos_any q _ _ HS.out.q (by omega) (by omega)).mono ?_));  rintro e w3 ⟨rfl, rfl⟩) | (go_at_call 11; ((with_reducible refine (circRise_any g _ _ HS.out.c (by omega) (by omega)).mono ?_));  rintro e w3 ⟨rfl, hb⟩; replace HS := Lib.hid (HS.out.below hb); clear hb) | (go_at_call 12; ((with_reducible refine (ref04Rise_any q _ _ HS.out.q (by omega) (by omega)).mono ?_));  rintro e w3 ⟨rfl, rfl⟩) | (go_at_call 9; ((with_reducible refine (circCos_nil _ _ (by omega) (by omega)).mono ?_));  rintro e w3 ⟨rfl, hb⟩; replace HS := Lib.hid (HS.out.below hb); clear hb) | (go_at_call 11; ((with_reducible refine (circRise_nil _ _ (by omega) (by omega)).mono ?_));  rintro e w3 ⟨rfl, hb⟩; replace HS := Lib.hid (HS.out.below hb); clear hb))
      go_ret
      exact ⟨ret_bool (by simp), HS.out.b⟩

theorem sq_bd {x : Int} (h0 : -16777216 ≤ x) (h1 : x ≤ 16777216) : 0 ≤ x * x ∧ x * x ≤ 281474976710656 := by
  rcases Int.le_total 0 x with h | h
  · have a := sq_mono (a := 0) (b := x) (by decide) h
    have b := sq_mono (a := x) (b := 16777216) h h1
    omega
  · have a := sq_mono (a := 0) (b := -x) (by decide) (by omega)
    have b := sq_mono (a := -x) (b := 16777216) (by omega) (by omega)
    rw [sq_neg] at a b
    omega

set_option maxRecDepth 100000 in
theorem bandsRules_law (i : Int) (w0 : (Lit.int .i64 i).wf = true) (w : World) :
    Calls Try.prog 5 #[.int .i64 i] w fun e w' => e = .returned (.bool true) ∧ Below w.heap.size w w' := by
  obtain ⟨i0, i1⟩ := bounds_i64 w0
  clear w0
  have hB := Lib.hid (Below.refl w.heap.size w)
  obtain ⟨t0, t1⟩ := tmod_bd (n := i) (d := 1000000) (by decide)
  obtain ⟨K, hK⟩ : ∃ K, i.tmod 1000000 = K := ⟨_, rfl⟩
  rw [hK] at t0 t1
  obtain ⟨Q, hQ, q0, q1⟩ : ∃ Q : Int, wrap64 ((IntKind.u64.wrap i).tmod 1024) = Q ∧ 0 ≤ Q ∧ Q < 1024 := by
    have hs : 0 ≤ IntKind.u64.wrap i := by rw [show IntKind.u64.wrap i = i % 18446744073709551616 by simp [IntKind.wrap, IntKind.bits, IntKind.signed]]; omega
    have e : (IntKind.u64.wrap i).tmod 1024 = IntKind.u64.wrap i % 1024 := Int.tmod_eq_emod_of_nonneg hs
    have l0 := Int.emod_nonneg (IntKind.u64.wrap i) (b := 1024) (by omega)
    have l1 := Int.emod_lt_of_pos (IntKind.u64.wrap i) (b := 1024) (by omega)
    rw [e, IntWalk.wrap64_in _ (by omega)]
    exact ⟨_, rfl, l0, l1⟩
  have r0 := Int.emod_nonneg Q (b := 128) (by omega)
  have r1 := Int.emod_lt_of_pos Q (b := 128) (by omega)
  obtain ⟨x0, x1⟩ := cosP_bd K
  obtain ⟨y0, y1⟩ := cosP_bd (K - 1024)
  obtain ⟨xx0, xx1⟩ := sq_bd x0 x1
  obtain ⟨yy0, yy1⟩ := sq_bd y0 y1
  obtain ⟨l0, l1⟩ := cosP_legs K
  obtain ⟨u0, u1⟩ := riseP_bd (Q % 128)
  obtain ⟨v0, v1⟩ := riseP_bd (127 - Q % 128)
  obtain ⟨uu0, uu1⟩ := sq_bd u0 u1
  obtain ⟨vv0, vv1⟩ := sq_bd v0 v1
  obtain ⟨m0, m1⟩ := riseP_legs r0 r1
  have hf := cosP_falls q0 q1
  have E1 := cosP_neg K
  have E2 := cosP_half K
  have E3 := cosP_whole K
  go_enter Try.func5, Try.ntmps5
  go_wp2_with (first | (go_at_call 6; ((with_reducible refine (lives04_any _).mono ?_)); rintro e w1 ⟨rfl, hb⟩; replace hB := Lib.hid (chain hB.out hb); clear hb) | (go_at_call 7; ((with_reducible refine (circNew_any _).mono ?_)); rintro e w1 ⟨g, rfl, hg, hb⟩; replace hB := Lib.hid (chain hB.out hb); clear hb; have HG := Lib.hid hg; clear hg) | (go_at_call 9; ((with_reducible refine (circCos_any _ _ _ HG.out (by omega) (by omega)).mono ?_)); rintro e w3 ⟨rfl, hb⟩; replace HG := Lib.hid (HG.out.keep (hb.block _ HG.out.lt)); replace hB := Lib.hid (chain hB.out hb); clear hb) | (go_at_call 11; ((with_reducible refine (circRise_any _ _ _ HG.out (by omega) (by omega)).mono ?_)); rintro e w3 ⟨rfl, hb⟩; replace HG := Lib.hid (HG.out.keep (hb.block _ HG.out.lt)); replace hB := Lib.hid (chain hB.out hb); clear hb))
  go_ret
  exact ⟨ret_bool (by simp), hB.out⟩
end Go.Proofs.Ytnahnamafbjdeaa
