/- The walks of the statements of layer 5, by the contracts of the functions that they call. -/
import Derived.Test.YtcffhfbfelnfeaaModC
import Derived.Test.YtcffhfbfelnfeaaModF
import Derived.OwnWalk
import Derived.BigRegion
namespace Go.Proofs.Ytcffhfbfelnfeaa
open Go.RowKit
set_option linter.unusedVariables false

theorem modNew_at (n : Nat) (i : Int) (w : World) (hi : i = n) (h0 : 1 ≤ n) (h1 : n ≤ 64) :
    Calls Try.prog 7 #[.int .i64 i] w fun e w' => ∃ g, e = .returned (.tuple #[.pointer (some ⟨g, 0, none⟩), .int .i64 0]) ∧ w.heap.size ≤ g ∧ ModAt w' g (List.replicate n 1) false ∧ Below w.heap.size w w' := by
  subst hi; exact modNew_any n w h0 h1
theorem modLearn_at (g : Nat) (l : List Int) (s : Nat) (i : Int) (w : World) (hi : i = s) (h : ModAt w g l false) (hG : GoodL l) (hs : s < l.length) :
    Calls Try.prog 9 #[.pointer (some ⟨g, 0, none⟩), .int .i64 i] w fun e w' => e = .returned (.int .i64 0) ∧ ModAt w' g (learnP l s) false ∧ Keeps (fun k => k = g) w w' := by
  subst hi; exact modLearn_any g l s w h hG hs
theorem modPart_at (g : Nat) (l : List Int) (fx : Bool) (s : Nat) (i : Int) (v : Value) (w : World) (hi : i = s) (h : ModAt w g l fx) (hG : GoodL l) (hs : s < l.length) (hv : partV l s = v) :
    Calls Try.prog 11 #[.pointer (some ⟨g, 0, none⟩), .int .i64 i] w fun e w' => e = .returned (.tuple #[v, .int .i64 0]) ∧ Below w.heap.size w w' := by
  subst hi; subst hv; exact modPart_any g l fx s w h hG hs
theorem modFind_at (g : Nat) (l : List Int) (fx : Bool) (at' : Int) (i : Nat) (w : World) (h : ModAt w g l fx) (hG : GoodL l) (hv : findP l at' = i) :
    Calls Try.prog 15 #[.pointer (some ⟨g, 0, none⟩), .int .u32 at'] w fun e w' => e = .returned (.int .i64 i) ∧ ∃ n, w' = w.drewN n := by
  subst hv; exact modFind_any g l fx at' w h hG
theorem refFind_at (base g r : Nat) (l : List Int) (fx : Bool) (at' : Int) (i : Nat) (w : World) (hR : RefMod w base g r l fx) (hG : GoodL l) (hv : findP l at' = i) :
    Calls Try.prog 22 #[.pointer (some ⟨g, 0, none⟩), .int .i64 at'] w fun e w' => e = .returned (.int .i64 i) ∧ w = w' := by
  subst hv; exact refFind_any base g r l fx at' w hR hG.1 hG.2.1 (fun j hj => by have := hG.own hj; omega)

theorem lives05_any (w : World) : Calls Try.prog 6 #[] w fun e w' => e = .returned (.bool true) ∧ Below w.heap.size w w' := by
  have e1 : List.replicate 3 (1 : Int) = [1, 1, 1] := rfl
  have hG1 : GoodL [1, 1, 1] := goodL_ones (n := 3) (by decide) (by decide)
  have HG1 := Lib.hid hG1
  have e2 : learnP [1, 1, 1] 1 = [1, 33, 1] := by decide
  have HG2 : RowKit.Hid (GoodL [1, 33, 1]) := by show GoodL _; rw [← e2]; exact learnP_good hG1 (by decide)
  have HV : RowKit.Hid (partV [1, 33, 1] 2 = .agg #[.int .u32 34, .int .u32 1, .int .u32 35]) := rfl
  have E2 := Lib.hid e2
  have E1 := Lib.hid e1
  clear e1 e2 hG1
  go_enter Try.func6, Try.ntmps6
  go_wp2_with (first | (go_at_call 7; go_loud (refine (modNew_at 3 _ _ (by decide) (by decide) (by decide)).mono ?_); rintro e w1 ⟨g, rfl, hg, hm, hb⟩; rw [E1.out] at hm; have HM1 := Lib.hid hm; have HB1 := Lib.hid hb; clear hm hb) | (go_at_call 9; go_loud (refine (modLearn_at g [1, 1, 1] 1 _ _ (by decide) HM1.out HG1.out (by decide)).mono ?_); rintro e w2 ⟨rfl, hm, hk⟩; rw [E2.out] at hm; have HM2 := Lib.hid hm; have HB2 := Lib.hid (HB1.out.trans (hk.below HB1.out.size (by intro k hk; omega))); clear hm hk) | (go_at_call 11; go_loud (refine (modPart_at g [1, 33, 1] false 2 _ _ _ (by decide) HM2.out HG2.out (by decide) HV.out).mono ?_); rintro e w3 ⟨rfl, hb⟩; have HB3 := Lib.hid (HB2.out.trans (hb.mono HB2.out.size)); clear hb))
  go_ret
  exact ⟨rfl, HB3.out.alloc HB3.out.size _⟩

theorem modelNil_law (s at' : Int) (w0 : (Lit.int .i64 s).wf = true) (w1 : (Lit.int .u32 at').wf = true) (w : World) :
    Calls Try.prog 5 #[.int .i64 s, .int .u32 at'] w fun e w' => e = .returned (.bool true) ∧ Below w.heap.size w w' := by
  have hB := Lib.hid (Below.refl w.heap.size w)
  have HZ : RowKit.Hid (partZ = .agg #[.int .u32 0, .int .u32 0, .int .u32 0]) := rfl
  go_enter Try.func5, Try.ntmps5
  go_wp2_with (first | (go_at_call 6; refine (lives05_any _).mono ?_; rintro e w1 ⟨rfl, hb⟩; replace hB := Lib.hid (chain hB.out hb); clear hb) | (go_at_call 11; go_loud (refine (modPart_nil s _).mono ?_); rintro e w2 ⟨rfl, hb⟩; rw [HZ.out]; replace hB := Lib.hid (hB.out.trans (hb.mono hB.out.size)); clear hb) | (go_at_call 9; refine (modLearn_nil s _).mono ?_; rintro e w2 ⟨rfl, rfl⟩) | (go_at_call 15; refine (modFind_nil _ _).mono ?_; rintro e w2 ⟨rfl, rfl⟩) | (go_at_call 16; refine (modLen_nil _).mono ?_; rintro e w2 ⟨rfl, rfl⟩))
  go_ret
  exact ⟨rfl, hB.out.alloc hB.out.size _⟩

/-! ### The same parts -/
set_option maxHeartbeats 400000 in
set_option maxRecDepth 100000 in
theorem same05_any (base g mg mr : Nat) (l : List Int) (fx : Bool) (at' : Int) (w : World) (hM : ModAt w g l fx) (hR : RefMod w base mg mr l fx) (hG : GoodL l) (b0 : 0 ≤ at') (b1 : at' ≤ 4294967295) :
    Calls Try.prog 12 #[.pointer (some ⟨g, 0, none⟩), .pointer (some ⟨mg, 0, none⟩), .int .u32 at'] w fun e w' => e = .returned (.bool true) ∧ Below w.heap.size w w' := by
  have HM := Lib.hid hM
  have HR := Lib.hid hR
  have HG := Lib.hid hG
  have h64 := hM.1
  have h1 := hG.1
  obtain ⟨c, q1, q2, q3⟩ := hR
  have c0 := q1.cell 0
  simp only [List.getElem?_toArray, List.getElem?_cons_zero] at c0
  have hlt0 := q1.lt
  have hb : ∀ j, j < l.length → 0 ≤ l.getD j 0 ∧ l.getD j 0 ≤ 4294967295 := fun j hj => by have := HG.out.own hj; omega
  have HB := Lib.hid hb
  have hs := HG.out.sum_le (Nat.le_refl _)
  obtain ⟨t, ht⟩ : ∃ t, t = sumN l l.length := ⟨_, rfl⟩
  have HT := Lib.hid ht
  rw [← ht] at hs
  clear hM hG q1 q2 q3 hb ht
  go_enter Try.func12, Try.ntmps12
  go_wp2_with (go_at_call 21; go_loud (refine (refSum_at base mg mr l fx l.length _ _ (by omega) HR.out (by omega) h64 HB.out).mono ?_); rintro e w' ⟨rfl, rfl⟩; rw [← HT.out])
  go_loopw [23] (fun i wr => ∃ k : Nat, k ≤ l.length ∧ i = .int .i64 k ∧ RowKit.Hid (Below w.heap.size w wr)) (fun i _ => l.length - (intOf i).toNat)
  case atStart => exact ⟨0, by omega, rfl, Below.refl _ _⟩
  case round =>
    obtain ⟨k, hk, rfl, HW⟩ := hrel
    have HMr := Lib.hid (HM.out.below HW.out)
    have HRr := Lib.hid (HR.out.below HW.out)
    have c1 := (HW.out.cell (p := ⟨mg, 0, none⟩) hlt0).trans c0
    by_cases hlt : k < l.length
    · have d0 := HRr.out.at_ hlt
      have x0 := HG.out.own hlt
      have y0 := HG.out.sum_le (n := k) (by omega)
      have y1 := HG.out.sum_le (n := k + 1) (by omega)
      have y2 := sumN_succ l k hlt
      rw [y2] at y1
      have F1 : RowKit.Hid (findP l (sumN l k) = k) := findP_eq (fun j hj => (HG.out.own hj).1) hlt (Int.le_refl _) (by rw [y2]; omega)
      have F2 : RowKit.Hid (findP l (sumN l k + l.getD k 0 - 1) = k) := findP_eq (fun j hj => (HG.out.own hj).1) hlt (by omega) (by rw [y2]; omega)
      have HV : RowKit.Hid (partV l k = .agg #[.int .u32 (sumN l k), .int .u32 (l.getD k 0), .int .u32 t]) := by show _ = _; rw [HT.out, sumN_all]; exact rfl
      clear y2
      have HS : RowKit.Hid (∀ wx : World, RefMod wx base mg mr l fx → Calls Try.prog 21 #[.pointer (some ⟨mg, 0, none⟩), .int .i64 k] wx fun e w' => e = .returned (.int .i64 (sumN l k)) ∧ wx = w') := fun wx hx => refSum_at base mg mr l fx k _ _ (by omega) hx (by omega) h64 HB.out
      obtain ⟨x, hx⟩ : ∃ x, x = l.getD k 0 := ⟨_, rfl⟩
      rw [← hx] at d0 x0 y1 F2 HV
      clear hx
      generalize sumN l k = y at y0 y1 F1 F2 HV HS
      have hkl : (k : Int) < (l.length : Int) := by omega
      go_wp2_with (go_at_call 11; go_loud (refine (modPart_at g l fx k _ _ _ rfl HMr.out HG.out hlt HV.out).mono ?_); rintro e w3 ⟨rfl, hb3⟩; have HB3 := Lib.hid hb3; have HM3 := Lib.hid (HMr.out.below hb3); have HR3 := Lib.hid (HRr.out.below hb3); clear hb3)
      obtain ⟨w4, hw4⟩ : ∃ w4, w4 = w3.alloc (.cells #[.int .u32 y, .int .u32 x, .int .u32 t] 36) := ⟨_, rfl⟩
      rw [← hw4]
      have hbA : Below w3.heap.size w3 w4 := by rw [hw4]; exact Below.alloc_new _ _
      have hcp : Cel w4 w3.heap.size 36 #[.int .u32 y, .int .u32 x, .int .u32 t] := by rw [hw4]; exact Cel.new _ _ _
      have HM4 := Lib.hid (HM3.out.below hbA)
      have HR4 := Lib.hid (HR3.out.below hbA)
      have HB4 := Lib.hid ((HW.out.trans (HB3.out.mono HW.out.size)).trans (hbA.mono (Nat.le_trans HW.out.size HB3.out.size)))
      have p0 := hcp.cell 0
      have p1 := hcp.cell 1
      have p2 := hcp.cell 2
      simp only [List.getElem?_toArray, List.getElem?_cons_zero, List.getElem?_cons_succ] at p0 p1 p2
      have c4 := (HB4.out.cell (p := ⟨mg, 0, none⟩) hlt0).trans c0
      have d4 := (hbA.cell (p := ⟨mr, k, none⟩) HR3.out.lt.2.1).trans ((HB3.out.cell (p := ⟨mr, k, none⟩) HRr.out.lt.2.1).trans d0)
      clear hw4 hbA hcp HM3 HR3 HB3 HMr HRr c1 d0
      have g1 : IntKind.i64.wrap y = y := IntWalk.i64_in _ (by omega)
      have g2 : IntKind.i64.wrap x = x := IntWalk.i64_in _ (by omega)
      have g3 : IntKind.i64.wrap t = t := IntWalk.i64_in _ (by omega)
      have g4 : IntKind.u32.wrap (y + x) = y + x := IntWalk.u32_in _ (by omega)
      have g5 : IntKind.u32.wrap (y + x - 1) = y + x - 1 := IntWalk.u32_in _ (by omega)
      go_quiet (first | (go_at_call 21; exact Calls.quiet_of_same ((HS.out _ (HR4.out.drewN _)).mono fun _ _ h => ⟨h.1, h.2.symm⟩)) | (go_at_call 15; exact Calls.quiet_of (modFind_at g l fx _ k _ (HM4.out.drewN _) HG.out (by first | (with_reducible exact F1.out) | (with_reducible exact F2.out)))))
      clear g1 g2 g3 g4 g5 p0 p1 p2 c4 d4
      go_wp2
      go_roundw
      case rel => exact ⟨k + 1, by omega, by go_num, Below.drewN' HB4.out _⟩
      case measure => simp [intOf] <;> omega
    · have hlt2 : ¬ (k : Int) < (l.length : Int) := by omega
      have z0 : 0 ≤ at' % 9000 := by omega
      have z1 : at' % 9000 ≤ 8999 := by omega
      have g1 : IntKind.i64.wrap at' = at' := IntWalk.i64_in _ (by omega)
      have g2 : IntKind.i64.wrap (at' % 9000) = at' % 9000 := IntWalk.i64_in _ (by omega)
      have g3 : IntKind.u32.wrap (at' % 9000) = at' % 9000 := IntWalk.u32_in _ (by omega)
      have g4 : at'.tmod 9000 = at' % 9000 := Int.tmod_eq_emod_of_nonneg b0
      clear hk hs
      go_wp2
      go_quiet (first | (go_at_call 16; exact Calls.quiet_of (modLen_any g l fx _ (HMr.out.drewN _))) | (go_at_call 15; exact Calls.quiet_of (modFind_any g l fx _ _ (HMr.out.drewN _) HG.out)) | (go_at_call 22; exact Calls.quiet_of_same ((refFind_any base mg mr l fx _ _ (HRr.out.drewN _) h1 h64 HB.out).mono fun _ _ h => ⟨h.1, h.2.symm⟩)))
      go_wp2
      go_ret
      exact ⟨rfl, Below.drewN' HW.out _⟩

end Go.Proofs.Ytcffhfbfelnfeaa
