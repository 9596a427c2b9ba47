/- What the document's answers for layer 8 give: turned, forward, back. -/
import Derived.Test.YtgebnaeebdeoeaaLapG
namespace Go.Proofs.Ytgebnaeebdeoeaa
open Go.RowKit
set_option linter.unusedVariables false

/-! ### Turning -/
theorem odd_prod (j k : Nat) (h : j < 512) (h' : k < 512) : (2 * j + 1) * (2 * k + 1) ≤ 1046529 := by
  have := Nat.mul_le_mul (show 2 * j + 1 ≤ 1023 by omega) (show 2 * k + 1 ≤ 1023 by omega)
  omega
set_option maxRecDepth 100000 in
theorem refTurn_any (c n cap : Nat) (a : Option Addr) (u : Nat → Int) (w : World) (hC : IFun w c 2 .i64 1025 cosN) (hn : n = 128 ∨ n = 512) (hu : FnAt w w.heap.size .i64 a n u) (hb : ∀ j, j < n → -33554432 ≤ u j ∧ u j ≤ 33554432) :
    Calls Try.prog 35 #[.slice (some ⟨c, 0, none⟩) 1025 1025, .slice a n cap] w (RowPost .i64 2 n (turnF n u) w) := by
  obtain ⟨b, off, rfl, hbl, hc⟩ := hu
  have HC := Lib.hid hc
  have HG := Lib.hid hC
  have HB := Lib.hid hb
  have Hn := Lib.hid hn
  have gl := hC.lt
  obtain ⟨V, hV⟩ : ∃ V, V = 512 / n := ⟨_, rfl⟩
  have hV1 : V ≤ 4 := by rcases hn with rfl | rfl <;> omega
  have hVd : 512 / (n : Int) = (V : Int) := by rw [hV]; rcases hn with rfl | rfl <;> rfl
  have hVt : (512 : Int).tdiv (n : Int) = (V : Int) := by rw [Int.tdiv_eq_ediv_of_nonneg (by omega)]; exact hVd
  have HV := Lib.hid hV
  have n1 : 1 ≤ n := by omega
  have n2 : n ≤ 512 := by omega
  have n0 : ¬ (n : Int) = 0 := by omega
  have hmk : ∀ w : World, (Instr.makeSlice 25 (.int .i64 (n : Int)) (.int .i64 (n : Int))).run Try.prog w = .ok (.slice (some ⟨w.heap.size, 0, none⟩) n n) (w.alloc (.cells (madeCells #[.int .i64 0] n) 2)) :=
    fun w => make_zeros (P := Try.prog) Try.underlying25 info_i64 n (by omega) (by omega) w
  have H0 : RowKit.Hid (IFun (w.alloc (.cells (madeCells #[.int .i64 0] n) 2)) w.heap.size 2 .i64 n (upTo (turnF n u) (fun _ => 0) 0) ∧ Below w.heap.size w (w.alloc (.cells (madeCells #[.int .i64 0] n) 2))) :=
    ⟨IFun.ext (IFun.zeros w 2 .i64 n) fun j _ => (upTo_start (turnF n u) (fun _ => 0) j).symm, Below.alloc_new w _⟩
  obtain ⟨ls, hls⟩ : ∃ ls : Int, ls = (lossN n : Nat) := ⟨_, rfl⟩
  have HR : RowKit.Hid (∀ q, rndP (dotF n u q) ls = turnF n u q) := by intro q; rw [hls]; rfl
  have hcase : (((n : Int) == 128) = true ∧ ls = 27) ∨ (((n : Int) == 128) = false ∧ ls = 28) := by
    rcases hn with rfl | rfl
    · exact .inl ⟨rfl, hls⟩
    · exact .inr ⟨rfl, hls⟩
  clear hV hb hc hC hls hn
  rcases hcase with ⟨hd, rfl⟩ | ⟨hd, rfl⟩
  all_goals
    go_enter Try.func35, Try.ntmps35
    go_wp2
    clear hmk hd
    generalize hg : w.heap.size = gg at H0 gl hbl ⊢
    generalize (w.alloc (.cells (madeCells #[.int .i64 0] n) 2)) = w1 at H0 ⊢
    go_loopw [8] (fun i wr => ∃ q : Nat, q ≤ n ∧ i = .int .i64 (q : Int) ∧ RowKit.Hid (IFun wr gg 2 .i64 n (upTo (turnF n u) (fun _ => 0) q) ∧ Below gg w wr)) (fun i _ => n - (intOf i).toNat)
    case atStart => exact ⟨0, by omega, rfl, H0.out⟩
    case round =>
      obtain ⟨q, hq, rfl, HI⟩ := hrel
      clear H0
      by_cases hlt : q < n
      · have l1 : (q : Int) < (n : Int) := by omega
        go_wp2
        go_loopw [9, 10] (fun s i wx => ∃ j : Nat, j ≤ n ∧ i = .int .i64 (j : Int) ∧ s = .int .i64 (sumF (fun j => u j * cosA n j q) j) ∧ RowKit.Hid (IFun wx gg 2 .i64 n (upTo (turnF n u) (fun _ => 0) q) ∧ Below gg w wx)) (fun _ i _ => n - (intOf i).toNat)
        case atStart => exact ⟨0, by omega, rfl, rfl, HI.out⟩
        case round =>
          obtain ⟨j, hj, rfl, rfl, HJ⟩ := hrel
          clear HI
          by_cases hlj : j < n
          · obtain ⟨M, hM⟩ : ∃ M, M = (2 * j + 1) * (2 * q + 1) := ⟨_, rfl⟩
            obtain ⟨A, hA⟩ : ∃ A, A = M * V := ⟨_, rfl⟩
            have hM1 : M ≤ 1046529 := by rw [hM]; exact odd_prod j q (by omega) (by omega)
            have hA1 : A ≤ 4186116 := by
              rw [hA]
              exact Nat.mul_le_mul hM1 hV1
            have hMi : (2 * (j : Int) + 1) * (2 * (q : Int) + 1) = (M : Int) := by rw [hM]; simp
            have hAi : (M : Int) * (V : Int) = (A : Int) := by rw [hA]; simp
            have k1 := (HJ.out.2.cell (p := ⟨b, off + j, none⟩) hbl).trans (HC.out j hlj)
            have HX : RowKit.Hid (∀ i, Calls Try.prog 51 #[.slice (some ⟨c, 0, none⟩) 1025 1025, .int .i64 (A : Int)] (wr.drewN i) fun e w' => e = .returned (.int .i64 (cosP (A : Int))) ∧ w' = wr.drewN i) := fun i =>
              (ref04Cos_any c (A : Int) (wr.drewN i) (((HG.out.below HJ.out.2 gl)).drewN i) (by omega) (by omega)).mono fun _ _ h => ⟨h.1, h.2.symm⟩
            have HE : RowKit.Hid (sumF (fun j => u j * cosA n j q) (j + 1) = sumF (fun j => u j * cosA n j q) j + u j * cosP (A : Int)) := by
              show _ = _
              rw [sumF_succ, hA, hM, HV.out]; rfl
            have hs := sumF_abs (f := fun j => u j * cosA n j q) (n := j) (B := 33554432 * 16777216) fun i hi => mul_abs (by have := HB.out i (by omega); omega) (cosA_abs n i q)
            have hp : (u j * cosP (A : Int)).natAbs ≤ 33554432 * 16777216 := mul_abs (by have := HB.out j hlj; omega) (cosP_abs _)
            have HD : RowKit.Hid (∀ i, IFun (wr.drewN i) gg 2 .i64 n (upTo (turnF n u) (fun _ => 0) q) ∧ Below gg w (wr.drewN i)) := fun i => ⟨HJ.out.1.drewN i, Below.drewN' HJ.out.2 i⟩
            clear hM hA HJ
            generalize sumF (fun j => u j * cosA n j q) j = s at hs HE
            generalize u j = y at k1 hp HE
            generalize cosP (A : Int) = x at hp HE HX
            have p0 : -562949953421312 ≤ y * x := by omega
            have p1 : y * x ≤ 562949953421312 := by omega
            have s0 : -288230376151711744 ≤ s := by omega
            have s1 : s ≤ 288230376151711744 := by omega
            clear hs hp
            have l2 : (j : Int) < (n : Int) := by omega
            go_wp2
            have g1 : IntKind.i64.wrap (2 * (j : Int)) = 2 * (j : Int) := IntWalk.i64_in _ (by omega)
            have g2 : IntKind.i64.wrap (2 * (j : Int) + 1) = 2 * (j : Int) + 1 := IntWalk.i64_in _ (by omega)
            have g3 : IntKind.i64.wrap (2 * (q : Int)) = 2 * (q : Int) := IntWalk.i64_in _ (by omega)
            have g4 : IntKind.i64.wrap (2 * (q : Int) + 1) = 2 * (q : Int) + 1 := IntWalk.i64_in _ (by omega)
            have g5 : IntKind.i64.wrap (M : Int) = (M : Int) := IntWalk.i64_in _ (by omega)
            have g6 : IntKind.i64.wrap (A : Int) = (A : Int) := IntWalk.i64_in _ (by omega)
            have g7 : IntKind.i64.wrap (V : Int) = (V : Int) := IntWalk.i64_in _ (by omega)
            have g8 : IntKind.i64.wrap (y * x) = y * x := IntWalk.i64_in _ (by omega)
            have g9 : IntKind.i64.wrap (s + y * x) = s + y * x := IntWalk.i64_in _ (by omega)
            go_quiet (first | (go_at_call 51; exact Calls.quiet_of_same (HX.out _)))
            clear g1 g2 g3 g4 g5 g6 g7 g8 g9
            go_wp2
            go_roundw
            case rel => exact ⟨j + 1, by omega, by go_num, by rw [HE.out], HD.out _⟩
            case measure => simp [intOf] <;> omega
          · obtain rfl : j = n := by omega
            have HDt : RowKit.Hid (sumF (fun i => u i * cosA j i q) j = dotF j u q) := rfl
            rw [HDt.out]
            have hd := dotF_wide Hn.out (u := u) (fun i hi => by have := HB.out i hi; omega) q
            have ht := turnF_wide Hn.out (u := u) (fun i hi => by have := HB.out i hi; omega) q
            have o1 := HJ.out.1.cell (j := q) (by omega)
            have f1 := HJ.out.1.frozen q
            have HQ := Lib.hid (HR.out q)
            have HS : RowKit.Hid (IFun (wr.setCell ⟨gg, q, none⟩ (.int .i64 (turnF j u q))) gg 2 .i64 j (upTo (turnF j u) (fun _ => 0) (q + 1)) ∧ Below gg w (wr.setCell ⟨gg, q, none⟩ (.int .i64 (turnF j u q)))) :=
              ⟨IFun.ext (HJ.out.1.set (j := q) (by omega) (turnF j u q)) fun i _ => upTo_next _ _ q i, Below.setCell (p := ⟨gg, q, none⟩) HJ.out.2 (Nat.le_refl _) _⟩
            generalize turnF j u q = t at ht HQ HS
            generalize dotF j u q = d at hd HQ
            generalize upTo (turnF j u) (fun _ => 0) q q = z at o1
            have t0 : -1073741824 ≤ t := by omega
            have t1 : t ≤ 1073741824 := by omega
            clear HJ ht HDt
            go_wp2_with (go_at_call 28; refine (refRound_any d _ _ (by omega) (by omega)).mono ?_; rintro e w' ⟨rfl, rfl⟩; rw [HQ.out])
            go_roundw
            case rel => exact ⟨q + 1, by omega, by go_num, HS.out⟩
            case measure => simp [intOf] <;> omega
      · have Z : RowKit.Hid (IFun wr gg 2 .i64 n (turnF n u) ∧ Below gg w wr) := ⟨IFun.ext HI.out.1 fun i hi => by rw [show q = n by omega]; exact upTo_end _ _ n i hi, HI.out.2⟩
        go_wp2
        go_ret
        exact ⟨gg, rfl, Z.out.1, by omega, by rw [hg]; exact Z.out.2⟩

/-! ### Forward and back -/
set_option maxRecDepth 100000 in
theorem refForward_any (c n N cap : Nat) (a : Option Addr) (x : Nat → Int) (w : World) (hC : IFun w c 2 .i64 1025 cosN) (hn : n = 128 ∨ n = 512) (hN : N = 2 * n) (hx : FnAt w w.heap.size .i64 a N x) (hb : ∀ j, j < N → -1048576 ≤ x j ∧ x j ≤ 1048575) :
    Calls Try.prog 22 #[.slice (some ⟨c, 0, none⟩) 1025 1025, .slice a N cap] w (RowPost .i64 2 n (fwdF n x) w) := by
  have HG := Lib.hid hC
  have HX := Lib.hid hx
  have HB := Lib.hid hb
  have Hn := Lib.hid hn
  have HN := Lib.hid hN
  have gl := hC.lt
  have n1 : 1 ≤ n := by omega
  have n2 : n ≤ 512 := by omega
  have hF : RowKit.Hid (∀ j, j < n → (foldF n x j).natAbs ≤ 2097152) := fun j hj => foldF_abs (B := 1048576) (by omega) (fun i hi => by have := hb i (by omega); omega) hj
  have K3 : RowKit.Hid (Calls Try.prog 36 #[.slice a N cap] w (RowPost .i64 2 n (foldF n x) w)) :=
    refFold_any (n / 2) n N cap a x w (by omega) (by omega) (by omega) (by omega) hx (fun j hj => by have := hb j hj; omega)
  clear hC hn hx hb hN
  go_enter Try.func22, Try.ntmps22
  go_wp2_with (first | (go_at_call 36; go_loud (refine (K3.out).mono ?_); rintro e w1 ⟨g1, rfl, i1, s1, b1⟩; have I1 := Lib.hid i1; have S1 := Lib.hid s1; have B1 := Lib.hid b1; clear i1 s1 b1) | (go_at_call 35; go_loud (refine (refTurn_any c n n _ (foldF n x) _ (HG.out.below B1.out gl) Hn.out (FnAt.of_ifun I1.out) (fun j hj => by have := hF.out j hj; omega)).mono ?_); rintro e w2 ⟨g2, rfl, i2, s2, b2⟩; have I2 := Lib.hid i2; have S2 : RowKit.Hid (w.heap.size ≤ g2) := Nat.le_trans B1.out.size s2; have B2 : RowKit.Hid (Below w.heap.size w w2) := chain B1.out b2; clear i2 s2 b2))
  have H0 : RowKit.Hid (IFun w2 g2 2 .i64 n (upTo (fwdF n x) (turnF n (foldF n x)) 0) ∧ Below w.heap.size w w2) := ⟨IFun.ext I2.out fun i _ => (upTo_start _ _ i).symm, B2.out⟩
  clear I1 S1 B1 I2 B2 K3
  go_loopw [6] (fun i wr => ∃ q : Nat, q ≤ n ∧ i = .int .i64 (q : Int) ∧ RowKit.Hid (IFun wr g2 2 .i64 n (upTo (fwdF n x) (turnF n (foldF n x)) q) ∧ Below w.heap.size w wr)) (fun i _ => n - (intOf i).toNat)
  case atStart => exact ⟨0, by omega, rfl, H0.out⟩
  case round =>
    obtain ⟨q, hq, rfl, HI⟩ := hrel
    clear H0
    by_cases hlt : q < n
    · have o1 := HI.out.1.cell (j := q) (by omega)
      rw [upTo_here] at o1
      have f1 := HI.out.1.frozen q
      have hb := turnF_wide Hn.out (u := foldF n x) (fun j hj => by have := hF.out j hj; omega) q
      have HS : RowKit.Hid (IFun (wr.setCell ⟨g2, q, none⟩ (.int .i64 (fwdF n x q))) g2 2 .i64 n (upTo (fwdF n x) (turnF n (foldF n x)) (q + 1)) ∧ Below w.heap.size w (wr.setCell ⟨g2, q, none⟩ (.int .i64 (fwdF n x q)))) :=
        ⟨IFun.ext (HI.out.1.set (j := q) (by omega) (fwdF n x q)) fun i _ => upTo_next _ _ q i, Below.setCell (p := ⟨g2, q, none⟩) HI.out.2 S2.out _⟩
      have HE : RowKit.Hid (satP (turnF n (foldF n x) q) 26 = fwdF n x q) := rfl
      obtain ⟨t0, t1⟩ := satP_26_bd (turnF n (foldF n x) q)
      rw [HE.out] at t0 t1
      generalize fwdF n x q = t at HS HE t0 t1
      generalize turnF n (foldF n x) q = d at o1 hb HE
      have d0 : -1073741824 ≤ d := by omega
      have d1 : d ≤ 1073741824 := by omega
      clear HI hb
      go_wp2_with (go_at_call 27; refine (refSat_any d 26 _ (by omega) (by omega)).mono ?_; rintro e w' ⟨rfl, rfl⟩; rw [HE.out])
      go_roundw
      case rel => exact ⟨q + 1, by omega, by go_num, HS.out⟩
      case measure => simp [intOf] <;> omega
    · obtain rfl : q = n := by omega
      have Z : RowKit.Hid (IFun wr g2 2 .i64 q (fwdF q x) ∧ Below w.heap.size w wr) := ⟨IFun.ext HI.out.1 fun i hi => upTo_end _ _ q i hi, HI.out.2⟩
      go_wp2
      go_ret
      exact ⟨g2, rfl, Z.out.1, S2.out, Z.out.2⟩
set_option maxRecDepth 100000 in
theorem refBack_any (c n N cap : Nat) (a : Option Addr) (l : Nat → Int) (w : World) (hC : IFun w c 2 .i64 1025 cosN) (hn : n = 128 ∨ n = 512) (hN : N = 2 * n) (hx : FnAt w w.heap.size .i64 a n l) (hb : ∀ j, j < n → -33554432 ≤ l j ∧ l j ≤ 33554431) :
    Calls Try.prog 42 #[.slice (some ⟨c, 0, none⟩) 1025 1025, .slice a n cap] w (RowPost .i64 2 N (backF n l) w) := by
  have Hn := Lib.hid hn
  have HN := Lib.hid hN
  have n1 : 1 ≤ n := by omega
  have n2 : n ≤ 512 := by omega
  have K3 : RowKit.Hid (Calls Try.prog 35 #[.slice (some ⟨c, 0, none⟩) 1025 1025, .slice a n cap] w (RowPost .i64 2 n (turnF n l) w)) :=
    refTurn_any c n cap a l w hC hn hx (fun j hj => by have := hb j hj; omega)
  have hF : RowKit.Hid (∀ k, -2147483647 ≤ turnF n l k ∧ turnF n l k ≤ 2147483647) := fun k => by
    have := turnF_wide Hn.out (u := l) (fun j hj => by have := hb j hj; omega) k
    omega
  clear hC hn hx hb hN
  go_enter Try.func42, Try.ntmps42
  go_wp2_with (first | (go_at_call 35; go_loud (refine (K3.out).mono ?_); rintro e w1 ⟨g1, rfl, i1, s1, b1⟩; have I1 := Lib.hid i1; have S1 := Lib.hid s1; have B1 := Lib.hid b1; clear i1 s1 b1) | (go_at_call 53; go_loud (refine (refUnfold_any (n / 2) n N n _ (turnF n l) _ (by have := Hn.out; omega) (by omega) (by have := Hn.out; omega) (by have := HN.out; have := Hn.out; omega) (FnAt.of_ifun I1.out) (fun j hj => hF.out j)).mono ?_); rintro e w2 ⟨g2, rfl, i2, s2, b2⟩; have I2 := Lib.hid i2; have S2 : RowKit.Hid (w.heap.size ≤ g2) := Nat.le_trans B1.out.size s2; have B2 : RowKit.Hid (Below w.heap.size w w2) := chain B1.out b2; clear i2 s2 b2))
  go_ret
  exact ⟨g2, rfl, I2.out, S2.out, B2.out⟩
end Go.Proofs.Ytgebnaeebdeoeaa
