/- Layer 8's statements, walked: sizes that there aren't, and what doesn't fit, whichever size. -/
import Derived.Test.YtemmcahglkpmmaaLapO
namespace Go.Proofs.Ytemmcahglkpmmaa
open Go.RowKit
set_option linter.unusedVariables false

set_option maxHeartbeats 1000000 in
set_option maxRecDepth 100000 in
theorem args_no (n k at' x ef eb : Int) (K A sz p : Nat) (w : World) (hn : -9223372036854775808 ≤ n) (hn' : n ≤ 9223372036854775807) (hk : -9223372036854775808 ≤ k) (hk' : k ≤ 9223372036854775807) (ha : -9223372036854775808 ≤ at') (ha' : at' ≤ 9223372036854775807) (x0 : -2147483648 ≤ x) (x1 : x ≤ 2147483647) (c1 : n ≠ 128) (c2 : n ≠ 512)
    (hKb : K ≤ 18446744073709551615) (hAb : A ≤ 18446744073709551615) (f1 : k % 18446744073709551616 = (K : Int)) (f2 : IntKind.u64.wrap k = (K : Int)) (f3 : at' % 18446744073709551616 = (A : Int)) (f4 : IntKind.u64.wrap at' = (A : Int)) (hs3 : sz < 300) (f5 : (K : Int) % 300 = (sz : Int)) (f6 : (K : Int).tmod 300 = (sz : Int)) (f7 : (A : Int) % (sz : Int) = (p : Int)) (f8 : (A : Int).tmod (sz : Int) = (p : Int))
    (KF : RowKit.Hid (∀ (w : World) (g c gl : Nat), TrAt w g c 128 → IFun w gl 21 .i32 sz (if 0 < sz then spotF p x else fun _ => 0) → Calls Try.prog 12 #[.pointer (some ⟨g, 0, none⟩), .slice (some ⟨gl, 0, none⟩) sz sz] w (ErrPost ef w)))
    (KB : RowKit.Hid (∀ (w : World) (g c gl : Nat), TrAt w g c 128 → IFun w gl 21 .i32 sz (if 0 < sz then spotF p x else fun _ => 0) → Calls Try.prog 16 #[.pointer (some ⟨g, 0, none⟩), .slice (some ⟨gl, 0, none⟩) sz sz] w (ErrPost eb w)))
    (hc : (0 < sz ∧ p < sz ∧ ((((sz : Int) == 256) = true ∧ ((sz : Int) == 128) = false ∧ eb = 1 ∧ ((-1048576 ≤ x ∧ x < 1048576 ∧ ef = 0) ∨ (x < -1048576 ∧ ef = 1) ∨ (-1048576 ≤ x ∧ 1048576 ≤ x ∧ ef = 1)))
      ∨ (((sz : Int) == 256) = false ∧ ((sz : Int) == 128) = true ∧ ef = 1 ∧ ((-33554432 ≤ x ∧ x < 33554432 ∧ eb = 0) ∨ (x < -33554432 ∧ eb = 1) ∨ (-33554432 ≤ x ∧ 33554432 ≤ x ∧ eb = 1)))
      ∨ (((sz : Int) == 256) = false ∧ ((sz : Int) == 128) = false ∧ ef = 1 ∧ eb = 1))) ∨ (sz ≤ 0 ∧ ((sz : Int) == 256) = false ∧ ((sz : Int) == 128) = false ∧ ef = 1 ∧ eb = 1)) :
    Calls Try.prog 6 #[.int .i64 n, .agg #[.int .i64 k, .int .i64 at'], .int .i32 x] w fun e w' => e = .returned (.bool true) ∧ Below w.heap.size w w' := by
  have KN : RowKit.Hid (∀ (w : World) (c : Nat), CircAt w c → Calls Try.prog 9 #[.int .i64 128, .pointer (some ⟨c, 0, none⟩)] w (LapNewPost 128 c w)) := fun w c h => lapNew_any 128 c w (.inl rfl) h
  have KNil : RowKit.Hid (∀ w : World, Calls Try.prog 9 #[.int .i64 128, .pointer none] w fun e w' => e = .returned (.tuple #[.pointer none, .int .i64 1]) ∧ w = w') := fun w => lapNew_nil 128 w (by decide) (by decide)
  have hmk : ∀ w : World, (Instr.makeSlice 22 (.int .i64 (sz : Int)) (.int .i64 (sz : Int))).run Try.prog w = .ok (.slice (some ⟨w.heap.size, 0, none⟩) sz sz) (w.alloc (.cells (madeCells #[.int .i32 0] sz) 21)) :=
    fun w => make_zeros (P := Try.prog) Try.underlying22 info_i32 sz (by omega) (by omega) w
  have HB := Lib.hid (Below.alloc_new w (.cells #[.int .i64 k, .int .i64 at'] 41))
  have HC1 := Lib.hid (Cel.new w 41 #[.int .i64 k, .int .i64 at'])
  have d0 : (w.alloc (.cells #[.int .i64 k, .int .i64 at'] 41)).cell? ⟨w.heap.size, 0, none⟩ = some (.int .i64 k) := by rw [HC1.out.cell 0]; rfl
  have d1 : (w.alloc (.cells #[.int .i64 k, .int .i64 at'] 41)).cell? ⟨w.heap.size, 1, none⟩ = some (.int .i64 at') := by rw [HC1.out.cell 1]; rfl
  have hb1 : (n == 128) = false := beq_eq_false_iff_ne.2 c1
  have hb2 : (n == 512) = false := beq_eq_false_iff_ne.2 c2
  rcases hc with ⟨h0, hp3, hc⟩ | ⟨h0, z1, z2, rfl, rfl⟩
  · rw [if_pos h0] at KF KB
    have hp4 : (p : Int) < (sz : Int) := by omega
    have h00 : (0 : Int) < (sz : Int) := by omega
    have h01 : ¬ (sz : Int) = 0 := by omega
    rcases hc with ⟨z1, z2, rfl, ⟨r1, r2, rfl⟩ | ⟨r1, rfl⟩ | ⟨r1, r2, rfl⟩⟩ | ⟨z1, z2, rfl, ⟨r1, r2, rfl⟩ | ⟨r1, rfl⟩ | ⟨r1, r2, rfl⟩⟩ | ⟨z1, z2, rfl, rfl⟩
    all_goals
      go_enter Try.func6, Try.ntmps6
      go_wp2
      go_quiet (fail)
      have HB2 : RowKit.Hid (∀ i, Below w.heap.size w ((w.alloc (.cells #[.int .i64 k, .int .i64 at'] 41)).drewN i)) := fun i => Below.drewN' HB.out i
      replace HB := Lib.hid (HB2.out nq)
      clear HB2 d0 d1 HC1
      generalize (w.alloc (.cells #[.int .i64 k, .int .i64 at'] 41)).drewN nq = w0 at HB ⊢
      go_wp2_with (first | (go_at_call 7; refine (lives08_any _).mono ?_; rintro e w1 ⟨rfl, hb⟩; replace HB := Lib.hid (HB.out.trans (hb.mono HB.out.size)); clear hb) | (go_at_call 10; ((with_reducible refine (circNew_any _).mono ?_)); rintro e w2 ⟨c, rfl, hc, hb⟩; have HC := Lib.hid hc; replace HB := Lib.hid (chain HB.out hb); clear hc hb) | (go_at_call 12; ((with_reducible refine (lapForward_nil _ _ _ _).mono ?_)); rintro e w' ⟨rfl, rfl⟩) | (go_at_call 16; ((with_reducible refine (lapBack_nil _ _ _ _).mono ?_)); rintro e w' ⟨rfl, rfl⟩) | (go_at_call 9; have hq := H2N.out; refine (KN.out _ c HC.out).mono ?_; rintro e w4 ⟨g2, rfl, ht, hb⟩; have HT := Lib.hid ht; replace HB := Lib.hid (chain HB.out hb); clear ht hb; have HI0 := Lib.hid (IFun.zeros w4 21 .i32 sz); have o0 := HI0.out.cell (j := p) hp3; have f0 := HI0.out.frozen p) | (go_at_call 9; have hq := H1N.out; refine (KNil.out _).mono ?_; rintro e w' ⟨rfl, rfl⟩; have H2N := Lib.hid True.intro) | (go_at_call 9; refine (lapNew_out n c _ hn hn' c1 c2).mono ?_; rintro e w' ⟨rfl, rfl⟩; have H1N := Lib.hid True.intro) | (go_at_call 12; have h4 := HI0.out.set (j := p) hp3 x; rw [World.setCell_alloc_at _ _ _ _ _ rfl] at h4; have H5 := Lib.hid (IFun.ext (f' := spotF p x) h4 (fun j _ => rfl)); have H6 := Lib.hid (Below.alloc_new w4 (.cells ((madeCells #[.int .i32 0] sz).setIfInBounds p (.int .i32 x)) 21)); replace HT := Lib.hid (HT.out.below H6.out (Nat.le_refl _)); replace HB := Lib.hid (chain HB.out H6.out); replace HI0 := H5; clear h4 H5 H6 o0 f0; go_loud (refine (KF.out _ _ _ _ HT.out HI0.out).mono ?_); rintro e w6 ⟨v6, rfl, hb⟩; replace HT := Lib.hid (HT.out.below hb (Nat.le_refl _)); replace HI0 := Lib.hid (IFun.below HI0.out hb HI0.out.lt); replace HB := Lib.hid (chain HB.out hb); clear hb) | (go_at_call 16; go_loud (refine (KB.out _ _ _ _ HT.out HI0.out).mono ?_); rintro e w7 ⟨v7, rfl, hb⟩; replace HB := Lib.hid (chain HB.out hb); clear hb))
      go_ret
      first | exact ⟨rfl, HB.out⟩ | exact ⟨ret_bool (by simp; omega), HB.out⟩
  · rw [if_neg (by omega)] at KF KB
    have h00 : ¬ (0 : Int) < (sz : Int) := by omega
    go_enter Try.func6, Try.ntmps6
    go_wp2
    go_quiet (fail)
    have HB2 : RowKit.Hid (∀ i, Below w.heap.size w ((w.alloc (.cells #[.int .i64 k, .int .i64 at'] 41)).drewN i)) := fun i => Below.drewN' HB.out i
    replace HB := Lib.hid (HB2.out nq)
    clear HB2 d0 d1 HC1
    generalize (w.alloc (.cells #[.int .i64 k, .int .i64 at'] 41)).drewN nq = w0 at HB ⊢
    go_wp2_with (first | (go_at_call 7; refine (lives08_any _).mono ?_; rintro e w1 ⟨rfl, hb⟩; replace HB := Lib.hid (HB.out.trans (hb.mono HB.out.size)); clear hb) | (go_at_call 10; ((with_reducible refine (circNew_any _).mono ?_)); rintro e w2 ⟨c, rfl, hc, hb⟩; have HC := Lib.hid hc; replace HB := Lib.hid (chain HB.out hb); clear hc hb) | (go_at_call 12; ((with_reducible refine (lapForward_nil _ _ _ _).mono ?_)); rintro e w' ⟨rfl, rfl⟩) | (go_at_call 16; ((with_reducible refine (lapBack_nil _ _ _ _).mono ?_)); rintro e w' ⟨rfl, rfl⟩) | (go_at_call 9; have hq := H2N.out; refine (KN.out _ c HC.out).mono ?_; rintro e w4 ⟨g2, rfl, ht, hb⟩; have HT := Lib.hid ht; replace HB := Lib.hid (chain HB.out hb); clear ht hb; have HI0 := Lib.hid (IFun.zeros w4 21 .i32 sz)) | (go_at_call 9; have hq := H1N.out; refine (KNil.out _).mono ?_; rintro e w' ⟨rfl, rfl⟩; have H2N := Lib.hid True.intro) | (go_at_call 9; refine (lapNew_out n c _ hn hn' c1 c2).mono ?_; rintro e w' ⟨rfl, rfl⟩; have H1N := Lib.hid True.intro) | (go_at_call 12; have H6 := Lib.hid (Below.alloc_new w4 (.cells (madeCells #[.int .i32 0] sz) 21)); replace HT := Lib.hid (HT.out.below H6.out (Nat.le_refl _)); replace HB := Lib.hid (chain HB.out H6.out); clear H6; go_loud (refine (KF.out _ _ _ _ HT.out HI0.out).mono ?_); rintro e w6 ⟨v6, rfl, hb⟩; replace HT := Lib.hid (HT.out.below hb (Nat.le_refl _)); replace HI0 := Lib.hid (IFun.below HI0.out hb HI0.out.lt); replace HB := Lib.hid (chain HB.out hb); clear hb) | (go_at_call 16; go_loud (refine (KB.out _ _ _ _ HT.out HI0.out).mono ?_); rintro e w7 ⟨v7, rfl, hb⟩; replace HB := Lib.hid (chain HB.out hb); clear hb))
    go_ret
    first | exact ⟨rfl, HB.out⟩ | exact ⟨ret_bool (by simp; omega), HB.out⟩
theorem lappedArgs_law (n k at' x : Int) (w : World) (hn : -9223372036854775808 ≤ n) (hn' : n ≤ 9223372036854775807) (hk : -9223372036854775808 ≤ k) (hk' : k ≤ 9223372036854775807) (ha : -9223372036854775808 ≤ at') (ha' : at' ≤ 9223372036854775807) (x0 : -2147483648 ≤ x) (x1 : x ≤ 2147483647) :
    Calls Try.prog 6 #[.int .i64 n, .agg #[.int .i64 k, .int .i64 at'], .int .i32 x] w fun e w' => e = .returned (.bool true) ∧ Below w.heap.size w w' := by
  obtain ⟨K, hK⟩ : ∃ K : Nat, (K : Int) = k % 18446744073709551616 := ⟨(k % 18446744073709551616).toNat, by omega⟩
  obtain ⟨A, hA⟩ : ∃ A : Nat, (A : Int) = at' % 18446744073709551616 := ⟨(at' % 18446744073709551616).toNat, by omega⟩
  have hKb : K ≤ 18446744073709551615 := by omega
  have hAb : A ≤ 18446744073709551615 := by omega
  have f2 : IntKind.u64.wrap k = (K : Int) := by rw [IntKind.wrap_u64]; exact hK.symm
  have f4 : IntKind.u64.wrap at' = (A : Int) := by rw [IntKind.wrap_u64]; exact hA.symm
  obtain ⟨sz, hs⟩ : ∃ sz, sz = K % 300 := ⟨_, rfl⟩
  have hs3 : sz < 300 := by omega
  have f5 : (K : Int) % 300 = (sz : Int) := by rw [hs]; rfl
  have f6 : (K : Int).tmod 300 = (sz : Int) := by rw [Int.tmod_eq_emod_of_nonneg (by omega)]; exact f5
  obtain ⟨p, hp⟩ : ∃ p, p = A % sz := ⟨_, rfl⟩
  have f7 : (A : Int) % (sz : Int) = (p : Int) := by rw [hp]; rfl
  have f8 : (A : Int).tmod (sz : Int) = (p : Int) := by rw [Int.tmod_eq_emod_of_nonneg (by omega)]; exact f7
  have hps : 0 < sz → p < sz := by intro h; rw [hp]; exact Nat.mod_lt _ h
  have KF : RowKit.Hid (∀ (w : World) (g c gl : Nat), TrAt w g c 128 → IFun w gl 21 .i32 sz (if 0 < sz then spotF p x else fun _ => 0) → Calls Try.prog 12 #[.pointer (some ⟨g, 0, none⟩), .slice (some ⟨gl, 0, none⟩) sz sz] w (ErrPost (fwdE sz x) w)) :=
    fun w g c gl h1 h2 => fwd_args g c gl sz p x w h1 (fun h => by rw [if_pos h] at h2; exact ⟨hps h, h2⟩) hs3 x0 x1
  have KB : RowKit.Hid (∀ (w : World) (g c gl : Nat), TrAt w g c 128 → IFun w gl 21 .i32 sz (if 0 < sz then spotF p x else fun _ => 0) → Calls Try.prog 16 #[.pointer (some ⟨g, 0, none⟩), .slice (some ⟨gl, 0, none⟩) sz sz] w (ErrPost (backE sz x) w)) :=
    fun w g c gl h1 h2 => back_args g c gl sz p x w h1 (fun h => by rw [if_pos h] at h2; exact ⟨hps h, h2⟩) hs3 x0 x1
  have hc : (0 < sz ∧ p < sz ∧ ((((sz : Int) == 256) = true ∧ ((sz : Int) == 128) = false ∧ backE sz x = 1 ∧ ((-1048576 ≤ x ∧ x < 1048576 ∧ fwdE sz x = 0) ∨ (x < -1048576 ∧ fwdE sz x = 1) ∨ (-1048576 ≤ x ∧ 1048576 ≤ x ∧ fwdE sz x = 1)))
      ∨ (((sz : Int) == 256) = false ∧ ((sz : Int) == 128) = true ∧ fwdE sz x = 1 ∧ ((-33554432 ≤ x ∧ x < 33554432 ∧ backE sz x = 0) ∨ (x < -33554432 ∧ backE sz x = 1) ∨ (-33554432 ≤ x ∧ 33554432 ≤ x ∧ backE sz x = 1)))
      ∨ (((sz : Int) == 256) = false ∧ ((sz : Int) == 128) = false ∧ fwdE sz x = 1 ∧ backE sz x = 1))) ∨ (sz ≤ 0 ∧ ((sz : Int) == 256) = false ∧ ((sz : Int) == 128) = false ∧ fwdE sz x = 1 ∧ backE sz x = 1) := by
    have b1 : ∀ m : Nat, sz ≠ m → ((sz : Int) == (m : Int)) = false := fun m h => beq_eq_false_iff_ne.2 (by omega)
    by_cases h0 : 0 < sz
    · refine .inl ⟨h0, hps h0, ?_⟩
      by_cases h1 : sz = 256
      · refine .inl ⟨by rw [h1]; rfl, b1 128 (by omega), backE_1 (by omega), ?_⟩
        by_cases h2 : x < -1048576
        · exact .inr (.inl ⟨h2, fwdE_1 (by omega)⟩)
        · by_cases h3 : x < 1048576
          · exact .inl ⟨by omega, h3, fwdE_0 h1 (by omega) h3⟩
          · exact .inr (.inr ⟨by omega, by omega, fwdE_1 (by omega)⟩)
      · by_cases h2 : sz = 128
        · refine .inr (.inl ⟨b1 256 h1, by rw [h2]; rfl, fwdE_1 (by omega), ?_⟩)
          by_cases h3 : x < -33554432
          · exact .inr (.inl ⟨h3, backE_1 (by omega)⟩)
          · by_cases h4 : x < 33554432
            · exact .inl ⟨by omega, h4, backE_0 h2 (by omega) h4⟩
            · exact .inr (.inr ⟨by omega, by omega, backE_1 (by omega)⟩)
        · exact .inr (.inr ⟨b1 256 h1, b1 128 h2, fwdE_1 (by omega), backE_1 (by omega)⟩)
    · exact .inr ⟨by omega, b1 256 (by omega), b1 128 (by omega), fwdE_1 (by omega), backE_1 (by omega)⟩
  generalize fwdE sz x = ef at KF hc
  generalize backE sz x = eb at KB hc
  by_cases c1 : n = 128
  · subst c1
    exact args_128 k at' x ef eb K A sz p w hk hk' ha ha' x0 x1 hKb hAb hK.symm f2 hA.symm f4 hs3 f5 f6 f7 f8 KF KB hc
  · by_cases c2 : n = 512
    · subst c2
      exact args_512 k at' x ef eb K A sz p w hk hk' ha ha' x0 x1 hKb hAb hK.symm f2 hA.symm f4 hs3 f5 f6 f7 f8 KF KB hc
    · exact args_no n k at' x ef eb K A sz p w hn hn' hk hk' ha ha' x0 x1 c1 c2 hKb hAb hK.symm f2 hA.symm f4 hs3 f5 f6 f7 f8 KF KB hc
end Go.Proofs.Ytemmcahglkpmmaa
