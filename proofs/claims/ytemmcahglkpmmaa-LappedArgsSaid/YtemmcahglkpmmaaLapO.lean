/- Layer 8's statements, walked: sizes that there aren't, and what doesn't fit. -/
import Derived.Test.YtemmcahglkpmmaaLapL
namespace Go.Proofs.Ytemmcahglkpmmaa
open Go.RowKit
set_option linter.unusedVariables false

/-- All noughts but one. -/
def spotF (p : Nat) (x : Int) (i : Nat) : Int := if i = p then x else 0
theorem spot_bd {p : Nat} {x lo hi : Int} (h : lo ≤ x) (h' : x ≤ hi) (h0 : lo ≤ 0) (h1 : 0 ≤ hi) (i : Nat) : lo ≤ spotF p x i ∧ spotF p x i ≤ hi := by unfold spotF; split <;> omega
theorem spot_at (p : Nat) (x : Int) : spotF p x p = x := if_pos rfl
def ErrPost (k : Int) (w : World) (e : Ending) (w' : World) : Prop := ∃ v, e = .returned (.tuple #[v, .int .i64 k]) ∧ Below w.heap.size w w'
noncomputable def fwdE (sz : Nat) (x : Int) : Int := if sz = 256 ∧ -1048576 ≤ x ∧ x < 1048576 then 0 else 1
noncomputable def backE (sz : Nat) (x : Int) : Int := if sz = 128 ∧ -33554432 ≤ x ∧ x < 33554432 then 0 else 1
theorem fwd_args (g c gl sz p : Nat) (x : Int) (w : World) (hT : TrAt w g c 128) (hl : 0 < sz → p < sz ∧ IFun w gl 21 .i32 sz (spotF p x)) (hsz : sz < 300) (x0 : -2147483648 ≤ x) (x1 : x ≤ 2147483647) :
    Calls Try.prog 12 #[.pointer (some ⟨g, 0, none⟩), .slice (some ⟨gl, 0, none⟩) sz sz] w (ErrPost (fwdE sz x) w) := by
  by_cases h : sz = 256
  · subst h
    obtain ⟨hp, hi⟩ := hl (by decide)
    by_cases hx : -1048576 ≤ x ∧ x < 1048576
    · have e : fwdE 256 x = 0 := if_pos ⟨rfl, hx⟩
      rw [e]
      refine (lapForward_any g c 128 256 256 _ (spotF p x) w hT (.inl rfl) rfl (FnAt.of_ifun hi) (fun j _ => spot_bd (by omega) (by omega) (by decide) (by decide) j)).mono ?_
      rintro e w' ⟨g', rfl, _, _, hb⟩
      exact ⟨_, rfl, hb⟩
    · have e : fwdE 256 x = 1 := if_neg (by rintro ⟨_, h1⟩; exact hx h1)
      rw [e]
      refine (lapForward_no g c 128 256 256 _ w hT (.inl rfl) (by decide) (lapFit_no _ 256 256 p 21 (spotF p x) w (FnAt.of_ifun hi) (by decide) (fun j _ => spot_bd x0 x1 (by decide) (by decide) j) hp (by rw [spot_at]; exact satP_21_no (by omega)))).mono ?_
      rintro e w' ⟨rfl, rfl⟩
      exact ⟨_, rfl, Below.refl _ _⟩
  · have e : fwdE sz x = 1 := if_neg (by rintro ⟨h1, _⟩; exact h h1)
    rw [e]
    refine (lapForward_no g c 128 sz sz _ w hT (.inl rfl) (by omega) (lapFit_len _ sz sz _ 21 w (by omega) (by omega))).mono ?_
    rintro e w' ⟨rfl, rfl⟩
    exact ⟨_, rfl, Below.refl _ _⟩
theorem back_args (g c gl sz p : Nat) (x : Int) (w : World) (hT : TrAt w g c 128) (hl : 0 < sz → p < sz ∧ IFun w gl 21 .i32 sz (spotF p x)) (hsz : sz < 300) (x0 : -2147483648 ≤ x) (x1 : x ≤ 2147483647) :
    Calls Try.prog 16 #[.pointer (some ⟨g, 0, none⟩), .slice (some ⟨gl, 0, none⟩) sz sz] w (ErrPost (backE sz x) w) := by
  by_cases h : sz = 128
  · subst h
    obtain ⟨hp, hi⟩ := hl (by decide)
    by_cases hx : -33554432 ≤ x ∧ x < 33554432
    · have e : backE 128 x = 0 := if_pos ⟨rfl, hx⟩
      rw [e]
      refine (lapBack_any g c 128 256 128 _ (spotF p x) w hT (.inl rfl) rfl (FnAt.of_ifun hi) (fun j _ => spot_bd (by omega) (by omega) (by decide) (by decide) j)).mono ?_
      rintro e w' ⟨g', rfl, _, _, hb⟩
      exact ⟨_, rfl, hb⟩
    · have e : backE 128 x = 1 := if_neg (by rintro ⟨_, h1⟩; exact hx h1)
      rw [e]
      refine (lapBack_no g c 128 128 128 _ w hT (.inl rfl) (lapFit_no _ 128 128 p 26 (spotF p x) w (FnAt.of_ifun hi) (by decide) (fun j _ => spot_bd x0 x1 (by decide) (by decide) j) hp (by rw [spot_at]; exact satP_26_no (by omega)))).mono ?_
      rintro e w' ⟨rfl, rfl⟩
      exact ⟨_, rfl, Below.refl _ _⟩
  · have e : backE sz x = 1 := if_neg (by rintro ⟨h1, _⟩; exact h h1)
    rw [e]
    refine (lapBack_no g c 128 sz sz _ w hT (.inl rfl) (lapFit_len _ sz sz _ 26 w (by omega) (by omega))).mono ?_
    rintro e w' ⟨rfl, rfl⟩
    exact ⟨_, rfl, Below.refl _ _⟩
theorem fwdE_0 {sz : Nat} {x : Int} (h : sz = 256) (h0 : -1048576 ≤ x) (h1 : x < 1048576) : fwdE sz x = 0 := if_pos ⟨h, h0, h1⟩
theorem fwdE_1 {sz : Nat} {x : Int} (h : sz ≠ 256 ∨ x < -1048576 ∨ 1048576 ≤ x) : fwdE sz x = 1 := if_neg (by rintro ⟨h1, h2, h3⟩; omega)
theorem backE_0 {sz : Nat} {x : Int} (h : sz = 128) (h0 : -33554432 ≤ x) (h1 : x < 33554432) : backE sz x = 0 := if_pos ⟨h, h0, h1⟩
theorem backE_1 {sz : Nat} {x : Int} (h : sz ≠ 128 ∨ x < -33554432 ∨ 33554432 ≤ x) : backE sz x = 1 := if_neg (by rintro ⟨h1, h2, h3⟩; omega)
set_option maxHeartbeats 1000000 in
set_option maxRecDepth 100000 in
theorem args_128 (k at' x ef eb : Int) (K A sz p : Nat) (w : World) (hk : -9223372036854775808 ≤ k) (hk' : k ≤ 9223372036854775807) (ha : -9223372036854775808 ≤ at') (ha' : at' ≤ 9223372036854775807) (x0 : -2147483648 ≤ x) (x1 : x ≤ 2147483647)
    (hKb : K ≤ 18446744073709551615) (hAb : A ≤ 18446744073709551615) (f1 : k % 18446744073709551616 = (K : Int)) (f2 : IntKind.u64.wrap k = (K : Int)) (f3 : at' % 18446744073709551616 = (A : Int)) (f4 : IntKind.u64.wrap at' = (A : Int)) (hs3 : sz < 300) (f5 : (K : Int) % 300 = (sz : Int)) (f6 : (K : Int).tmod 300 = (sz : Int)) (f7 : (A : Int) % (sz : Int) = (p : Int)) (f8 : (A : Int).tmod (sz : Int) = (p : Int))
    (KF : RowKit.Hid (∀ (w : World) (g c gl : Nat), TrAt w g c 128 → IFun w gl 21 .i32 sz (if 0 < sz then spotF p x else fun _ => 0) → Calls Try.prog 12 #[.pointer (some ⟨g, 0, none⟩), .slice (some ⟨gl, 0, none⟩) sz sz] w (ErrPost ef w)))
    (KB : RowKit.Hid (∀ (w : World) (g c gl : Nat), TrAt w g c 128 → IFun w gl 21 .i32 sz (if 0 < sz then spotF p x else fun _ => 0) → Calls Try.prog 16 #[.pointer (some ⟨g, 0, none⟩), .slice (some ⟨gl, 0, none⟩) sz sz] w (ErrPost eb w)))
    (hc : (0 < sz ∧ p < sz ∧ ((((sz : Int) == 256) = true ∧ ((sz : Int) == 128) = false ∧ eb = 1 ∧ ((-1048576 ≤ x ∧ x < 1048576 ∧ ef = 0) ∨ (x < -1048576 ∧ ef = 1) ∨ (-1048576 ≤ x ∧ 1048576 ≤ x ∧ ef = 1)))
      ∨ (((sz : Int) == 256) = false ∧ ((sz : Int) == 128) = true ∧ ef = 1 ∧ ((-33554432 ≤ x ∧ x < 33554432 ∧ eb = 0) ∨ (x < -33554432 ∧ eb = 1) ∨ (-33554432 ≤ x ∧ 33554432 ≤ x ∧ eb = 1)))
      ∨ (((sz : Int) == 256) = false ∧ ((sz : Int) == 128) = false ∧ ef = 1 ∧ eb = 1))) ∨ (sz ≤ 0 ∧ ((sz : Int) == 256) = false ∧ ((sz : Int) == 128) = false ∧ ef = 1 ∧ eb = 1)) :
    Calls Try.prog 6 #[.int .i64 128, .agg #[.int .i64 k, .int .i64 at'], .int .i32 x] w fun e w' => e = .returned (.bool true) ∧ Below w.heap.size w w' := by
  have KN : RowKit.Hid (∀ (w : World) (c : Nat), CircAt w c → Calls Try.prog 9 #[.int .i64 128, .pointer (some ⟨c, 0, none⟩)] w (LapNewPost 128 c w)) := fun w c h => lapNew_any 128 c w (.inl rfl) h
  have KNil : RowKit.Hid (∀ w : World, Calls Try.prog 9 #[.int .i64 128, .pointer none] w fun e w' => e = .returned (.tuple #[.pointer none, .int .i64 1]) ∧ w = w') := fun w => lapNew_nil 128 w (by decide) (by decide)
  have hmk : ∀ w : World, (Instr.makeSlice 22 (.int .i64 (sz : Int)) (.int .i64 (sz : Int))).run Try.prog w = .ok (.slice (some ⟨w.heap.size, 0, none⟩) sz sz) (w.alloc (.cells (madeCells #[.int .i32 0] sz) 21)) :=
    fun w => make_zeros (P := Try.prog) Try.underlying22 info_i32 sz (by omega) (by omega) w
  have HB := Lib.hid (Below.alloc_new w (.cells #[.int .i64 k, .int .i64 at'] 41))
  have HC1 := Lib.hid (Cel.new w 41 #[.int .i64 k, .int .i64 at'])
  have d0 : (w.alloc (.cells #[.int .i64 k, .int .i64 at'] 41)).cell? ⟨w.heap.size, 0, none⟩ = some (.int .i64 k) := by rw [HC1.out.cell 0]; rfl
  have d1 : (w.alloc (.cells #[.int .i64 k, .int .i64 at'] 41)).cell? ⟨w.heap.size, 1, none⟩ = some (.int .i64 at') := by rw [HC1.out.cell 1]; rfl
  have K1 := KN
  rcases hc with ⟨h0, hp3, hc⟩ | ⟨h0, z1, z2, rfl, rfl⟩
  · rw [if_pos h0] at KF KB
    have hp4 : (p : Int) < (sz : Int) := by omega
    have h00 : (0 : Int) < (sz : Int) := by omega
    have h01 : ¬ (sz : Int) = 0 := by omega
    rcases hc with ⟨z1, z2, rfl, ⟨r1, r2, rfl⟩ | ⟨r1, rfl⟩ | ⟨r1, r2, rfl⟩⟩ | ⟨z1, z2, rfl, ⟨r1, r2, rfl⟩ | ⟨r1, rfl⟩ | ⟨r1, r2, rfl⟩⟩ | ⟨z1, z2, rfl, rfl⟩
    all_goals
      go_enter Try.func6, Try.ntmps6
      go_wp2
      go_quiet (fail)
      have HB2 : RowKit.Hid (∀ i, Below w.heap.size w ((w.alloc (.cells #[.int .i64 k, .int .i64 at'] 41)).drewN i)) := fun i => Below.drewN' HB.out i
      replace HB := Lib.hid (HB2.out nq)
      clear HB2 d0 d1 HC1
      generalize (w.alloc (.cells #[.int .i64 k, .int .i64 at'] 41)).drewN nq = w0 at HB ⊢
      go_wp2_with (first | (go_at_call 7; refine (lives08_any _).mono ?_; rintro e w1 ⟨rfl, hb⟩; replace HB := Lib.hid (HB.out.trans (hb.mono HB.out.size)); clear hb) | (go_at_call 10; ((with_reducible refine (circNew_any _).mono ?_)); rintro e w2 ⟨c, rfl, hc, hb⟩; have HC := Lib.hid hc; replace HB := Lib.hid (chain HB.out hb); clear hc hb) | (go_at_call 12; ((with_reducible refine (lapForward_nil _ _ _ _).mono ?_)); rintro e w' ⟨rfl, rfl⟩) | (go_at_call 16; ((with_reducible refine (lapBack_nil _ _ _ _).mono ?_)); rintro e w' ⟨rfl, rfl⟩) | (go_at_call 9; have hq := H2N.out; refine (KN.out _ c HC.out).mono ?_; rintro e w4 ⟨g2, rfl, ht, hb⟩; have HT := Lib.hid ht; replace HB := Lib.hid (chain HB.out hb); clear ht hb; have HI0 := Lib.hid (IFun.zeros w4 21 .i32 sz); have o0 := HI0.out.cell (j := p) hp3; have f0 := HI0.out.frozen p) | (go_at_call 9; have hq := H1N.out; refine (KNil.out _).mono ?_; rintro e w' ⟨rfl, rfl⟩; have H2N := Lib.hid True.intro) | (go_at_call 9; refine (K1.out _ c HC.out).mono ?_; rintro e w3 ⟨g1, rfl, ht, hb⟩; replace HC := Lib.hid (CircAt.keep HC.out (hb.block c HC.out.lt)); replace HB := Lib.hid (chain HB.out hb); clear ht hb; have H1N := Lib.hid True.intro) | (go_at_call 12; have h4 := HI0.out.set (j := p) hp3 x; rw [World.setCell_alloc_at _ _ _ _ _ rfl] at h4; have H5 := Lib.hid (IFun.ext (f' := spotF p x) h4 (fun j _ => rfl)); have H6 := Lib.hid (Below.alloc_new w4 (.cells ((madeCells #[.int .i32 0] sz).setIfInBounds p (.int .i32 x)) 21)); replace HT := Lib.hid (HT.out.below H6.out (Nat.le_refl _)); replace HB := Lib.hid (chain HB.out H6.out); replace HI0 := H5; clear h4 H5 H6 o0 f0; go_loud (refine (KF.out _ _ _ _ HT.out HI0.out).mono ?_); rintro e w6 ⟨v6, rfl, hb⟩; replace HT := Lib.hid (HT.out.below hb (Nat.le_refl _)); replace HI0 := Lib.hid (IFun.below HI0.out hb HI0.out.lt); replace HB := Lib.hid (chain HB.out hb); clear hb) | (go_at_call 16; go_loud (refine (KB.out _ _ _ _ HT.out HI0.out).mono ?_); rintro e w7 ⟨v7, rfl, hb⟩; replace HB := Lib.hid (chain HB.out hb); clear hb))
      go_ret
      first | exact ⟨rfl, HB.out⟩ | exact ⟨ret_bool (by simp; omega), HB.out⟩
  · rw [if_neg (by omega)] at KF KB
    have h00 : ¬ (0 : Int) < (sz : Int) := by omega
    go_enter Try.func6, Try.ntmps6
    go_wp2
    go_quiet (fail)
    have HB2 : RowKit.Hid (∀ i, Below w.heap.size w ((w.alloc (.cells #[.int .i64 k, .int .i64 at'] 41)).drewN i)) := fun i => Below.drewN' HB.out i
    replace HB := Lib.hid (HB2.out nq)
    clear HB2 d0 d1 HC1
    generalize (w.alloc (.cells #[.int .i64 k, .int .i64 at'] 41)).drewN nq = w0 at HB ⊢
    go_wp2_with (first | (go_at_call 7; refine (lives08_any _).mono ?_; rintro e w1 ⟨rfl, hb⟩; replace HB := Lib.hid (HB.out.trans (hb.mono HB.out.size)); clear hb) | (go_at_call 10; ((with_reducible refine (circNew_any _).mono ?_)); rintro e w2 ⟨c, rfl, hc, hb⟩; have HC := Lib.hid hc; replace HB := Lib.hid (chain HB.out hb); clear hc hb) | (go_at_call 12; ((with_reducible refine (lapForward_nil _ _ _ _).mono ?_)); rintro e w' ⟨rfl, rfl⟩) | (go_at_call 16; ((with_reducible refine (lapBack_nil _ _ _ _).mono ?_)); rintro e w' ⟨rfl, rfl⟩) | (go_at_call 9; have hq := H2N.out; refine (KN.out _ c HC.out).mono ?_; rintro e w4 ⟨g2, rfl, ht, hb⟩; have HT := Lib.hid ht; replace HB := Lib.hid (chain HB.out hb); clear ht hb; have HI0 := Lib.hid (IFun.zeros w4 21 .i32 sz)) | (go_at_call 9; have hq := H1N.out; refine (KNil.out _).mono ?_; rintro e w' ⟨rfl, rfl⟩; have H2N := Lib.hid True.intro) | (go_at_call 9; refine (K1.out _ c HC.out).mono ?_; rintro e w3 ⟨g1, rfl, ht, hb⟩; replace HC := Lib.hid (CircAt.keep HC.out (hb.block c HC.out.lt)); replace HB := Lib.hid (chain HB.out hb); clear ht hb; have H1N := Lib.hid True.intro) | (go_at_call 12; have H6 := Lib.hid (Below.alloc_new w4 (.cells (madeCells #[.int .i32 0] sz) 21)); replace HT := Lib.hid (HT.out.below H6.out (Nat.le_refl _)); replace HB := Lib.hid (chain HB.out H6.out); clear H6; go_loud (refine (KF.out _ _ _ _ HT.out HI0.out).mono ?_); rintro e w6 ⟨v6, rfl, hb⟩; replace HT := Lib.hid (HT.out.below hb (Nat.le_refl _)); replace HI0 := Lib.hid (IFun.below HI0.out hb HI0.out.lt); replace HB := Lib.hid (chain HB.out hb); clear hb) | (go_at_call 16; go_loud (refine (KB.out _ _ _ _ HT.out HI0.out).mono ?_); rintro e w7 ⟨v7, rfl, hb⟩; replace HB := Lib.hid (chain HB.out hb); clear hb))
    go_ret
    first | exact ⟨rfl, HB.out⟩ | exact ⟨ret_bool (by simp; omega), HB.out⟩
set_option maxHeartbeats 1000000 in
set_option maxRecDepth 100000 in
theorem args_512 (k at' x ef eb : Int) (K A sz p : Nat) (w : World) (hk : -9223372036854775808 ≤ k) (hk' : k ≤ 9223372036854775807) (ha : -9223372036854775808 ≤ at') (ha' : at' ≤ 9223372036854775807) (x0 : -2147483648 ≤ x) (x1 : x ≤ 2147483647)
    (hKb : K ≤ 18446744073709551615) (hAb : A ≤ 18446744073709551615) (f1 : k % 18446744073709551616 = (K : Int)) (f2 : IntKind.u64.wrap k = (K : Int)) (f3 : at' % 18446744073709551616 = (A : Int)) (f4 : IntKind.u64.wrap at' = (A : Int)) (hs3 : sz < 300) (f5 : (K : Int) % 300 = (sz : Int)) (f6 : (K : Int).tmod 300 = (sz : Int)) (f7 : (A : Int) % (sz : Int) = (p : Int)) (f8 : (A : Int).tmod (sz : Int) = (p : Int))
    (KF : RowKit.Hid (∀ (w : World) (g c gl : Nat), TrAt w g c 128 → IFun w gl 21 .i32 sz (if 0 < sz then spotF p x else fun _ => 0) → Calls Try.prog 12 #[.pointer (some ⟨g, 0, none⟩), .slice (some ⟨gl, 0, none⟩) sz sz] w (ErrPost ef w)))
    (KB : RowKit.Hid (∀ (w : World) (g c gl : Nat), TrAt w g c 128 → IFun w gl 21 .i32 sz (if 0 < sz then spotF p x else fun _ => 0) → Calls Try.prog 16 #[.pointer (some ⟨g, 0, none⟩), .slice (some ⟨gl, 0, none⟩) sz sz] w (ErrPost eb w)))
    (hc : (0 < sz ∧ p < sz ∧ ((((sz : Int) == 256) = true ∧ ((sz : Int) == 128) = false ∧ eb = 1 ∧ ((-1048576 ≤ x ∧ x < 1048576 ∧ ef = 0) ∨ (x < -1048576 ∧ ef = 1) ∨ (-1048576 ≤ x ∧ 1048576 ≤ x ∧ ef = 1)))
      ∨ (((sz : Int) == 256) = false ∧ ((sz : Int) == 128) = true ∧ ef = 1 ∧ ((-33554432 ≤ x ∧ x < 33554432 ∧ eb = 0) ∨ (x < -33554432 ∧ eb = 1) ∨ (-33554432 ≤ x ∧ 33554432 ≤ x ∧ eb = 1)))
      ∨ (((sz : Int) == 256) = false ∧ ((sz : Int) == 128) = false ∧ ef = 1 ∧ eb = 1))) ∨ (sz ≤ 0 ∧ ((sz : Int) == 256) = false ∧ ((sz : Int) == 128) = false ∧ ef = 1 ∧ eb = 1)) :
    Calls Try.prog 6 #[.int .i64 512, .agg #[.int .i64 k, .int .i64 at'], .int .i32 x] w fun e w' => e = .returned (.bool true) ∧ Below w.heap.size w w' := by
  have KN : RowKit.Hid (∀ (w : World) (c : Nat), CircAt w c → Calls Try.prog 9 #[.int .i64 128, .pointer (some ⟨c, 0, none⟩)] w (LapNewPost 128 c w)) := fun w c h => lapNew_any 128 c w (.inl rfl) h
  have KNil : RowKit.Hid (∀ w : World, Calls Try.prog 9 #[.int .i64 128, .pointer none] w fun e w' => e = .returned (.tuple #[.pointer none, .int .i64 1]) ∧ w = w') := fun w => lapNew_nil 128 w (by decide) (by decide)
  have hmk : ∀ w : World, (Instr.makeSlice 22 (.int .i64 (sz : Int)) (.int .i64 (sz : Int))).run Try.prog w = .ok (.slice (some ⟨w.heap.size, 0, none⟩) sz sz) (w.alloc (.cells (madeCells #[.int .i32 0] sz) 21)) :=
    fun w => make_zeros (P := Try.prog) Try.underlying22 info_i32 sz (by omega) (by omega) w
  have HB := Lib.hid (Below.alloc_new w (.cells #[.int .i64 k, .int .i64 at'] 41))
  have HC1 := Lib.hid (Cel.new w 41 #[.int .i64 k, .int .i64 at'])
  have d0 : (w.alloc (.cells #[.int .i64 k, .int .i64 at'] 41)).cell? ⟨w.heap.size, 0, none⟩ = some (.int .i64 k) := by rw [HC1.out.cell 0]; rfl
  have d1 : (w.alloc (.cells #[.int .i64 k, .int .i64 at'] 41)).cell? ⟨w.heap.size, 1, none⟩ = some (.int .i64 at') := by rw [HC1.out.cell 1]; rfl
  have K1 : RowKit.Hid (∀ (w : World) (c : Nat), CircAt w c → Calls Try.prog 9 #[.int .i64 512, .pointer (some ⟨c, 0, none⟩)] w (LapNewPost 512 c w)) := fun w c h => lapNew_any 512 c w (.inr rfl) h
  rcases hc with ⟨h0, hp3, hc⟩ | ⟨h0, z1, z2, rfl, rfl⟩
  · rw [if_pos h0] at KF KB
    have hp4 : (p : Int) < (sz : Int) := by omega
    have h00 : (0 : Int) < (sz : Int) := by omega
    have h01 : ¬ (sz : Int) = 0 := by omega
    rcases hc with ⟨z1, z2, rfl, ⟨r1, r2, rfl⟩ | ⟨r1, rfl⟩ | ⟨r1, r2, rfl⟩⟩ | ⟨z1, z2, rfl, ⟨r1, r2, rfl⟩ | ⟨r1, rfl⟩ | ⟨r1, r2, rfl⟩⟩ | ⟨z1, z2, rfl, rfl⟩
    all_goals
      go_enter Try.func6, Try.ntmps6
      go_wp2
      go_quiet (fail)
      have HB2 : RowKit.Hid (∀ i, Below w.heap.size w ((w.alloc (.cells #[.int .i64 k, .int .i64 at'] 41)).drewN i)) := fun i => Below.drewN' HB.out i
      replace HB := Lib.hid (HB2.out nq)
      clear HB2 d0 d1 HC1
      generalize (w.alloc (.cells #[.int .i64 k, .int .i64 at'] 41)).drewN nq = w0 at HB ⊢
      go_wp2_with (first | (go_at_call 7; refine (lives08_any _).mono ?_; rintro e w1 ⟨rfl, hb⟩; replace HB := Lib.hid (HB.out.trans (hb.mono HB.out.size)); clear hb) | (go_at_call 10; ((with_reducible refine (circNew_any _).mono ?_)); rintro e w2 ⟨c, rfl, hc, hb⟩; have HC := Lib.hid hc; replace HB := Lib.hid (chain HB.out hb); clear hc hb) | (go_at_call 12; ((with_reducible refine (lapForward_nil _ _ _ _).mono ?_)); rintro e w' ⟨rfl, rfl⟩) | (go_at_call 16; ((with_reducible refine (lapBack_nil _ _ _ _).mono ?_)); rintro e w' ⟨rfl, rfl⟩) | (go_at_call 9; have hq := H2N.out; refine (KN.out _ c HC.out).mono ?_; rintro e w4 ⟨g2, rfl, ht, hb⟩; have HT := Lib.hid ht; replace HB := Lib.hid (chain HB.out hb); clear ht hb; have HI0 := Lib.hid (IFun.zeros w4 21 .i32 sz); have o0 := HI0.out.cell (j := p) hp3; have f0 := HI0.out.frozen p) | (go_at_call 9; have hq := H1N.out; refine (KNil.out _).mono ?_; rintro e w' ⟨rfl, rfl⟩; have H2N := Lib.hid True.intro) | (go_at_call 9; refine (K1.out _ c HC.out).mono ?_; rintro e w3 ⟨g1, rfl, ht, hb⟩; replace HC := Lib.hid (CircAt.keep HC.out (hb.block c HC.out.lt)); replace HB := Lib.hid (chain HB.out hb); clear ht hb; have H1N := Lib.hid True.intro) | (go_at_call 12; have h4 := HI0.out.set (j := p) hp3 x; rw [World.setCell_alloc_at _ _ _ _ _ rfl] at h4; have H5 := Lib.hid (IFun.ext (f' := spotF p x) h4 (fun j _ => rfl)); have H6 := Lib.hid (Below.alloc_new w4 (.cells ((madeCells #[.int .i32 0] sz).setIfInBounds p (.int .i32 x)) 21)); replace HT := Lib.hid (HT.out.below H6.out (Nat.le_refl _)); replace HB := Lib.hid (chain HB.out H6.out); replace HI0 := H5; clear h4 H5 H6 o0 f0; go_loud (refine (KF.out _ _ _ _ HT.out HI0.out).mono ?_); rintro e w6 ⟨v6, rfl, hb⟩; replace HT := Lib.hid (HT.out.below hb (Nat.le_refl _)); replace HI0 := Lib.hid (IFun.below HI0.out hb HI0.out.lt); replace HB := Lib.hid (chain HB.out hb); clear hb) | (go_at_call 16; go_loud (refine (KB.out _ _ _ _ HT.out HI0.out).mono ?_); rintro e w7 ⟨v7, rfl, hb⟩; replace HB := Lib.hid (chain HB.out hb); clear hb))
      go_ret
      first | exact ⟨rfl, HB.out⟩ | exact ⟨ret_bool (by simp; omega), HB.out⟩
  · rw [if_neg (by omega)] at KF KB
    have h00 : ¬ (0 : Int) < (sz : Int) := by omega
    go_enter Try.func6, Try.ntmps6
    go_wp2
    go_quiet (fail)
    have HB2 : RowKit.Hid (∀ i, Below w.heap.size w ((w.alloc (.cells #[.int .i64 k, .int .i64 at'] 41)).drewN i)) := fun i => Below.drewN' HB.out i
    replace HB := Lib.hid (HB2.out nq)
    clear HB2 d0 d1 HC1
    generalize (w.alloc (.cells #[.int .i64 k, .int .i64 at'] 41)).drewN nq = w0 at HB ⊢
    go_wp2_with (first | (go_at_call 7; refine (lives08_any _).mono ?_; rintro e w1 ⟨rfl, hb⟩; replace HB := Lib.hid (HB.out.trans (hb.mono HB.out.size)); clear hb) | (go_at_call 10; ((with_reducible refine (circNew_any _).mono ?_)); rintro e w2 ⟨c, rfl, hc, hb⟩; have HC := Lib.hid hc; replace HB := Lib.hid (chain HB.out hb); clear hc hb) | (go_at_call 12; ((with_reducible refine (lapForward_nil _ _ _ _).mono ?_)); rintro e w' ⟨rfl, rfl⟩) | (go_at_call 16; ((with_reducible refine (lapBack_nil _ _ _ _).mono ?_)); rintro e w' ⟨rfl, rfl⟩) | (go_at_call 9; have hq := H2N.out; refine (KN.out _ c HC.out).mono ?_; rintro e w4 ⟨g2, rfl, ht, hb⟩; have HT := Lib.hid ht; replace HB := Lib.hid (chain HB.out hb); clear ht hb; have HI0 := Lib.hid (IFun.zeros w4 21 .i32 sz)) | (go_at_call 9; have hq := H1N.out; refine (KNil.out _).mono ?_; rintro e w' ⟨rfl, rfl⟩; have H2N := Lib.hid True.intro) | (go_at_call 9; refine (K1.out _ c HC.out).mono ?_; rintro e w3 ⟨g1, rfl, ht, hb⟩; replace HC := Lib.hid (CircAt.keep HC.out (hb.block c HC.out.lt)); replace HB := Lib.hid (chain HB.out hb); clear ht hb; have H1N := Lib.hid True.intro) | (go_at_call 12; have H6 := Lib.hid (Below.alloc_new w4 (.cells (madeCells #[.int .i32 0] sz) 21)); replace HT := Lib.hid (HT.out.below H6.out (Nat.le_refl _)); replace HB := Lib.hid (chain HB.out H6.out); clear H6; go_loud (refine (KF.out _ _ _ _ HT.out HI0.out).mono ?_); rintro e w6 ⟨v6, rfl, hb⟩; replace HT := Lib.hid (HT.out.below hb (Nat.le_refl _)); replace HI0 := Lib.hid (IFun.below HI0.out hb HI0.out.lt); replace HB := Lib.hid (chain HB.out hb); clear hb) | (go_at_call 16; go_loud (refine (KB.out _ _ _ _ HT.out HI0.out).mono ?_); rintro e w7 ⟨v7, rfl, hb⟩; replace HB := Lib.hid (chain HB.out hb); clear hb))
    go_ret
    first | exact ⟨rfl, HB.out⟩ | exact ⟨ret_bool (by simp; omega), HB.out⟩
end Go.Proofs.Ytemmcahglkpmmaa
