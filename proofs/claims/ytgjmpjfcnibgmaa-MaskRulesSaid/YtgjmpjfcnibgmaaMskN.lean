/- The walk of MaskRules. -/
import Derived.Test.YtgjmpjfcnibgmaaMskL
namespace Go.Proofs.Ytgjmpjfcnibgmaa
open Go.RowKit
set_option linter.unusedVariables false

theorem maskRules_many (a : Option Addr) (len cap : Nat) (x y : Int) (w : World) (hm : len ≤ 9223372036854775807) (h : 60 < len) :
    Calls Try.prog 4 #[.slice a len cap, .int .i64 x, .int .i64 y] w fun e w' => e = .returned (.bool true) ∧ Below w.heap.size w w' := by
  have HB := Lib.hid (Below.refl w.heap.size w)
  have hd : decide ((60 : Int) < (len : Int)) = true := by simp; omega
  clear h
  go_enter Try.func4, Try.ntmps4
  go_wp2_with (go_at_call 6; go_loud (refine (lives11_any _).mono ?_); rintro e w1 ⟨rfl, hb⟩; replace HB := Lib.hid (chain HB.out hb); clear hb)
  go_ret
  exact ⟨rfl, HB.out⟩
/-- Steps of right ceilings in a row. -/
theorem mskSteps_row (g cap : Nat) (L : Nat → Int) (q x : Int) (w : World) (h : IFun w g 3 .i64 21 L) (hL : ∀ j, j < 21 → 0 ≤ L j ∧ L j ≤ 26) (hq : 1 ≤ q ∧ q ≤ 10 ∧ 0 ≤ x ∧ x ≤ 31) :
    Calls Try.prog 9 #[.slice (some ⟨g, 0, none⟩) 21 cap, .int .i64 q, .int .i64 x] w (StepsPost L q x w) := by
  have hr : rightB (tabF 21 L) = true := rightB_of (tabF_len _ _) fun j hj => by rw [tabF_getD _ hj]; exact hL j hj
  refine (mskSteps_any _ cap (tabF 21 L) q x w (h.ints (by decide)) ⟨hr, hq⟩).mono ?_
  rintro e w' ⟨g', rfl, hi, hs, hb⟩
  exact ⟨g', rfl, IFun.ext hi fun j hj => stepF_ext q x hj fun i hi => tabF_getD _ hi, hs, hb⟩
set_option maxHeartbeats 1000000 in
set_option maxRecDepth 100000 in
theorem maskRules_law (a : Option Addr) (len cap : Nat) (x y : Int) (zs : List Int) (w : World) (hn : IntsAt w w.heap.size .u8 a len zs) (hz : ∀ j, 0 ≤ zs.getD j 0 ∧ zs.getD j 0 ≤ 255) (hl : len ≤ 60) :
    Calls Try.prog 4 #[.slice a len cap, .int .i64 x, .int .i64 y] w fun e w' => e = .returned (.bool true) ∧ Below w.heap.size w w' := by
  have HB := Lib.hid (Below.refl w.heap.size w)
  have HN := Lib.hid hn
  have HZ := Lib.hid hz
  have hd : decide ((60 : Int) < (len : Int)) = false := by simp; omega
  obtain ⟨L, hL⟩ : ∃ L, L = cutF zs len := ⟨_, rfl⟩
  have HLb : RowKit.Hid (∀ j, j < 21 → 0 ≤ L j ∧ L j ≤ 26) := fun j _ => by rw [hL]; exact cutF_bd zs len j
  have HL := Lib.hid hL
  obtain ⟨U, hU⟩ : ∃ U, IntKind.u64.wrap x = U := ⟨_, rfl⟩
  obtain ⟨V, hV⟩ : ∃ V, IntKind.u64.wrap y = V := ⟨_, rfl⟩
  have hU0 : 0 ≤ U ∧ U ≤ 18446744073709551615 := by rw [← hU, IntKind.wrap_u64]; omega
  have hV0 : 0 ≤ V ∧ V ≤ 18446744073709551615 := by rw [← hV, IntKind.wrap_u64]; omega
  obtain ⟨r, hr⟩ : ∃ r, U.tmod 9 = r := ⟨_, rfl⟩
  obtain ⟨X, hX⟩ : ∃ X, V.tmod 31 = X := ⟨_, rfl⟩
  have hr0 : 0 ≤ r ∧ r ≤ 8 := by rw [← hr, Int.tmod_eq_emod_of_nonneg hU0.1]; omega
  have hX0 : 0 ≤ X ∧ X ≤ 30 := by rw [← hX, Int.tmod_eq_emod_of_nonneg hV0.1]; omega
  have g1 : IntKind.i64.wrap r = r := IntWalk.i64_in _ (by omega)
  have g2 : IntKind.i64.wrap X = X := IntWalk.i64_in _ (by omega)
  obtain ⟨Q, hQ⟩ : ∃ Q, 1 + r = Q := ⟨_, rfl⟩
  have hQ0 : 1 ≤ Q ∧ Q ≤ 9 := by omega
  obtain ⟨hQ1, hQ2⟩ := hQ0
  obtain ⟨hX1, hX2⟩ := hX0
  obtain ⟨hr1, hr2⟩ := hr0
  obtain ⟨hU1, hU2⟩ := hU0
  obtain ⟨hV1, hV2⟩ := hV0
  clear hn hz hL
  go_enter Try.func4, Try.ntmps4
  go_wp2_with (first
    | (go_at_call 6; go_loud (refine (lives11_any _).mono ?_); rintro e w1 ⟨rfl, hb⟩; replace HB := Lib.hid (chain HB.out hb); clear hb; have HN1 := Lib.hid (HN.out.now HB.out (Nat.le_refl _)))
    | (go_at_call 7; go_loud (refine (cut11_any a len cap zs w1 HN1.out HZ.out (by omega)).mono ?_); rintro e w2 ⟨gc, rfl, hi, _, hb⟩; rw [← HL.out] at hi; have HC2 := Lib.hid hi; have HB2 := Lib.hid (chain HB.out hb); clear hi hb HB HN1)
    | (go_at_call 9; have hs := HS5.out; go_loud (refine (mskSteps_row gc _ L _ _ w5 hs.1 HLb.out (by omega)).mono ?_); rintro e w6 ⟨g4, rfl, hi, _, hb⟩; have HS6 : RowKit.Hid (IFun w6 gc 3 .i64 21 L ∧ IFun w6 g1 3 .i64 21 (stepF L Q X) ∧ IFun w6 g2 3 .i64 21 (stepF L (Q + 1) X) ∧ IFun w6 g3 3 .i64 21 (stepF L Q (X + 1)) ∧ IFun w6 g4 3 .i64 21 (stepF L Q 31) ∧ Below w.heap.size w w6) := ⟨hs.1.below hb hs.1.lt, hs.2.1.below hb hs.2.1.lt, hs.2.2.1.below hb hs.2.2.1.lt, hs.2.2.2.1.below hb hs.2.2.2.1.lt, hi, chain hs.2.2.2.2 hb⟩; clear hi hb hs HS5)
    | (go_at_call 9; have hs := HS4.out; go_loud (refine (mskSteps_row gc _ L _ _ w4 hs.1 HLb.out (by omega)).mono ?_); rintro e w5 ⟨g3, rfl, hi, _, hb⟩; have HS5 : RowKit.Hid (IFun w5 gc 3 .i64 21 L ∧ IFun w5 g1 3 .i64 21 (stepF L Q X) ∧ IFun w5 g2 3 .i64 21 (stepF L (Q + 1) X) ∧ IFun w5 g3 3 .i64 21 (stepF L Q (X + 1)) ∧ Below w.heap.size w w5) := ⟨hs.1.below hb hs.1.lt, hs.2.1.below hb hs.2.1.lt, hs.2.2.1.below hb hs.2.2.1.lt, hi, chain hs.2.2.2 hb⟩; clear hi hb hs HS4)
    | (go_at_call 9; have hs := HS3.out; go_loud (refine (mskSteps_row gc _ L _ _ w3 hs.1 HLb.out (by omega)).mono ?_); rintro e w4 ⟨g2, rfl, hi, _, hb⟩; have HS4 : RowKit.Hid (IFun w4 gc 3 .i64 21 L ∧ IFun w4 g1 3 .i64 21 (stepF L Q X) ∧ IFun w4 g2 3 .i64 21 (stepF L (Q + 1) X) ∧ Below w.heap.size w w4) := ⟨hs.1.below hb hs.1.lt, hs.2.1.below hb hs.2.1.lt, hi, chain hs.2.2 hb⟩; clear hi hb hs HS3)
    | (go_at_call 9; have hs := HC2.out; go_loud (refine (mskSteps_row gc _ L _ _ w2 hs HLb.out (by omega)).mono ?_); rintro e w3 ⟨g1, rfl, hi, _, hb⟩; have HS3 : RowKit.Hid (IFun w3 gc 3 .i64 21 L ∧ IFun w3 g1 3 .i64 21 (stepF L Q X) ∧ Below w.heap.size w w3) := ⟨hs.below hb hs.lt, hi, chain HB2.out hb⟩; clear hi hb hs HC2)
    | fail)
  clear HN HZ HL
  go_loopw [84] (fun i wr => ∃ k : Nat, k ≤ 21 ∧ i = .int .i64 (k : Int) ∧ RowKit.Hid (∃ q, wr = w6.drewN q)) (fun i _ => 21 - (intOf i).toNat)
  case atStart => exact ⟨0, by omega, rfl, 0, rfl⟩
  case round =>
    obtain ⟨k, hk, rfl, HW⟩ := hrel
    by_cases hlt : k < 21
    · have HK : RowKit.Hid (∀ v : World, (∃ q, v = w6.drewN q) → v.cell? ⟨gc, k, none⟩ = some (.int .i64 (L k)) ∧ v.cell? ⟨g1, k, none⟩ = some (.int .i64 (stepF L Q X k)) ∧ v.cell? ⟨g2, k, none⟩ = some (.int .i64 (stepF L (Q + 1) X k)) ∧ v.cell? ⟨g3, k, none⟩ = some (.int .i64 (stepF L Q (X + 1) k)) ∧ v.cell? ⟨g4, k, none⟩ = some (.int .i64 (L k))) := fun v hv => by
        obtain ⟨q, rfl⟩ := hv
        have h5 := HS6.out.2.2.2.2.1.cell (j := k) hlt
        rw [stepF_worst (HLb.out k hlt).1 hlt (by omega)] at h5
        exact ⟨HS6.out.1.cell (j := k) hlt, HS6.out.2.1.cell (j := k) hlt, HS6.out.2.2.1.cell (j := k) hlt, HS6.out.2.2.2.1.cell (j := k) hlt, h5⟩
      have HD : RowKit.Hid (∀ (v : World) (m : Nat), (∃ q, v = w6.drewN q) → ∃ q, v.drewN m = w6.drewN q) := fun v m hv => by obtain ⟨q, rfl⟩ := hv; exact ⟨q + m, drewE_add _ _ _⟩
      obtain ⟨n0, n1⟩ := HLb.out k hlt
      have r1 := stepF_quality L Q X k
      have r2 := stepF_loss L Q X k
      obtain ⟨r3, r4, r5⟩ := stepF_bd (l := L) Q X (b := k) n0
      obtain ⟨r6, r7, _⟩ := stepF_bd (l := L) (Q + 1) X (b := k) n0
      obtain ⟨r8, r9, _⟩ := stepF_bd (l := L) Q (X + 1) (b := k) n0
      generalize stepF L Q X k = A at HK r1 r2 r3 r4 r5
      generalize stepF L (Q + 1) X k = B at HK r1 r6 r7
      generalize stepF L Q (X + 1) k = D at HK r2 r8 r9
      generalize L k = n at HK n0 n1 r4 r5 r7 r9
      have l1 : (k : Int) < 21 := by omega
      have d1 : decide (A < B) = false := by simp; omega
      have d2 : decide (D < A) = false := by simp; omega
      have d3 : decide (n < A) = false := by simp; omega
      have d4 : decide (A < 0) = false := by simp; omega
      have d5 : decide (12 < n - A) = false := by simp; omega
      have HT : RowKit.Hid (∀ i, Calls Try.prog 14 #[.int .i64 n, .int .i64 n] (wr.drewN i) fun e w' => e = .returned (.bool false) ∧ w' = wr.drewN i) := fun i => (mskTold_any n n (wr.drewN i)).mono fun e w' h => ⟨by rw [h.1]; simp, h.2.symm⟩
      obtain ⟨i1, i2, i3, i4, i5⟩ := HK.out wr HW.out
      go_wp2
      go_quiet ((go_at_call 14; exact Calls.quiet_of_same (HT.out _)))
      have HW1 : RowKit.Hid (∃ q, wr.drewN nq = w6.drewN q) := HD.out _ _ HW.out
      go_wp2
      go_roundw
      case rel => exact ⟨k + 1, by omega, by go_num, HW1.out⟩
      case measure => simp [intOf] <;> omega
    · obtain rfl : k = 21 := by omega
      have HK : RowKit.Hid (Below w.heap.size w wr) := by obtain ⟨q, e⟩ := HW.out; show Below _ _ _; rw [e]; exact Below.drewN' HS6.out.2.2.2.2.2 q
      go_wp2
      go_ret
      exact ⟨rfl, HK.out⟩
end Go.Proofs.Ytgjmpjfcnibgmaa
