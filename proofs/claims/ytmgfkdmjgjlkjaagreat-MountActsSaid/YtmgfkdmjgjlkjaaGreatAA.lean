/- Plain facts, and what functions give, for the proofs of this seat: several texts in one, each with its own first remark. -/
import Derived.Test.YtmgfkdmjgjlkjaaGreatAz
import Derived.Deep.MidRow

namespace Go.Proofs.YtmgfkdmjgjlkjaaGreat
open Go.RowKit
set_option linter.unusedVariables false
theorem odd_prod (j k : Nat) (h : j < 512) (h' : k < 512) : (2 * j + 1) * (2 * k + 1) ≤ 1046529 := by
  have := Nat.mul_le_mul (show 2 * j + 1 ≤ 1023 by omega) (show 2 * k + 1 ≤ 1023 by omega)
  omega
set_option maxRecDepth 100000 in
theorem refTurn_any (c n cap : Nat) (a : Option Addr) (u : Nat → Int) (w : World) (hC : IFun w c 2 .i64 1025 cosN) (hn : n = 128 ∨ n = 512) (hu : FnAt w w.heap.size .i64 a n u) (hb : ∀ j, j < n → -33554432 ≤ u j ∧ u j ≤ 33554432) :
    Calls Tryz.prog 105 #[.slice (some ⟨c, 0, none⟩) 1025 1025, .slice a n cap] w (RowPost .i64 2 n (turnF n u) w) := by
  obtain ⟨b, off, rfl, hbl, hc⟩ := hu
  have HC := Lib.hid hc
  have HG := Lib.hid hC
  have HB := Lib.hid hb
  have Hn := Lib.hid hn
  have gl := hC.lt
  obtain ⟨V, hV⟩ : ∃ V, V = 512 / n := ⟨_, rfl⟩
  have hV1 : V ≤ 4 := by rcases hn with rfl | rfl <;> omega
  have hVd : 512 / (n : Int) = (V : Int) := by rw [hV]; rcases hn with rfl | rfl <;> rfl
  have hVt : (512 : Int).tdiv (n : Int) = (V : Int) := by rw [Int.tdiv_eq_ediv_of_nonneg (by omega)]; exact hVd
  have HV := Lib.hid hV
  have n1 : 1 ≤ n := by omega
  have n2 : n ≤ 512 := by omega
  have n0 : ¬ (n : Int) = 0 := by omega
  have hmk : ∀ w : World, (Instr.makeSlice 66 (.int .i64 (n : Int)) (.int .i64 (n : Int))).run Tryz.prog w = .ok (.slice (some ⟨w.heap.size, 0, none⟩) n n) (w.alloc (.cells (madeCells #[.int .i64 0] n) 2)) :=
    fun w => make_zeros (P := Tryz.prog) Tryz.underlying66 info_i64 n (by omega) (by omega) w
  have H0 : RowKit.Hid (IFun (w.alloc (.cells (madeCells #[.int .i64 0] n) 2)) w.heap.size 2 .i64 n (upTo (turnF n u) (fun _ => 0) 0) ∧ Below w.heap.size w (w.alloc (.cells (madeCells #[.int .i64 0] n) 2))) :=
    ⟨IFun.ext (IFun.zeros w 2 .i64 n) fun j _ => (upTo_start (turnF n u) (fun _ => 0) j).symm, Below.alloc_new w _⟩
  obtain ⟨ls, hls⟩ : ∃ ls : Int, ls = (lossN n : Nat) := ⟨_, rfl⟩
  have HR : RowKit.Hid (∀ q, rndP (dotF n u q) ls = turnF n u q) := by intro q; rw [hls]; rfl
  have hcase : (((n : Int) == 128) = true ∧ ls = 27) ∨ (((n : Int) == 128) = false ∧ ls = 28) := by
    rcases hn with rfl | rfl
    · exact .inl ⟨rfl, hls⟩
    · exact .inr ⟨rfl, hls⟩
  clear hV hb hc hC hls hn
  rcases hcase with ⟨hd, rfl⟩ | ⟨hd, rfl⟩
  all_goals
    go_enter Tryz.func105, Tryz.ntmps105
    go_wp2
    clear hmk hd
    generalize hg : w.heap.size = gg at H0 gl hbl ⊢
    generalize (w.alloc (.cells (madeCells #[.int .i64 0] n) 2)) = w1 at H0 ⊢
    go_loopw [8] (fun i wr => ∃ q : Nat, q ≤ n ∧ i = .int .i64 (q : Int) ∧ RowKit.Hid (IFun wr gg 2 .i64 n (upTo (turnF n u) (fun _ => 0) q) ∧ Below gg w wr)) (fun i _ => n - (intOf i).toNat)
    case atStart => exact ⟨0, by omega, rfl, H0.out⟩
    case round =>
      obtain ⟨q, hq, rfl, HI⟩ := hrel
      clear H0
      by_cases hlt : q < n
      · have l1 : (q : Int) < (n : Int) := by omega
        go_wp2
        go_loopw [9, 10] (fun s i wx => ∃ j : Nat, j ≤ n ∧ i = .int .i64 (j : Int) ∧ s = .int .i64 (sumF (fun j => u j * cosA n j q) j) ∧ RowKit.Hid (IFun wx gg 2 .i64 n (upTo (turnF n u) (fun _ => 0) q) ∧ Below gg w wx)) (fun _ i _ => n - (intOf i).toNat)
        case atStart => exact ⟨0, by omega, rfl, rfl, HI.out⟩
        case round =>
          obtain ⟨j, hj, rfl, rfl, HJ⟩ := hrel
          clear HI
          by_cases hlj : j < n
          · obtain ⟨M, hM⟩ : ∃ M, M = (2 * j + 1) * (2 * q + 1) := ⟨_, rfl⟩
            obtain ⟨A, hA⟩ : ∃ A, A = M * V := ⟨_, rfl⟩
            have hM1 : M ≤ 1046529 := by rw [hM]; exact odd_prod j q (by omega) (by omega)
            have hA1 : A ≤ 4186116 := by
              rw [hA]
              exact Nat.mul_le_mul hM1 hV1
            have hMi : (2 * (j : Int) + 1) * (2 * (q : Int) + 1) = (M : Int) := by rw [hM]; simp
            have hAi : (M : Int) * (V : Int) = (A : Int) := by rw [hA]; simp
            have k1 := (HJ.out.2.cell (p := ⟨b, off + j, none⟩) hbl).trans (HC.out j hlj)
            have HX : RowKit.Hid (∀ i, Calls Tryz.prog 143 #[.slice (some ⟨c, 0, none⟩) 1025 1025, .int .i64 (A : Int)] (wr.drewN i) fun e w' => e = .returned (.int .i64 (cosP (A : Int))) ∧ w' = wr.drewN i) := fun i =>
              (ref04Cos_any c (A : Int) (wr.drewN i) (((HG.out.below HJ.out.2 gl)).drewN i) (by omega) (by omega)).mono fun _ _ h => ⟨h.1, h.2.symm⟩
            have HE : RowKit.Hid (sumF (fun j => u j * cosA n j q) (j + 1) = sumF (fun j => u j * cosA n j q) j + u j * cosP (A : Int)) := by
              show _ = _
              rw [sumF_succ, hA, hM, HV.out]; rfl
            have hs := sumF_abs (f := fun j => u j * cosA n j q) (n := j) (B := 33554432 * 16777216) fun i hi => mul_abs (by have := HB.out i (by omega); omega) (cosA_abs n i q)
            have hp : (u j * cosP (A : Int)).natAbs ≤ 33554432 * 16777216 := mul_abs (by have := HB.out j hlj; omega) (cosP_abs _)
            have HD : RowKit.Hid (∀ i, IFun (wr.drewN i) gg 2 .i64 n (upTo (turnF n u) (fun _ => 0) q) ∧ Below gg w (wr.drewN i)) := fun i => ⟨HJ.out.1.drewN i, Below.drewN' HJ.out.2 i⟩
            clear hM hA HJ
            generalize sumF (fun j => u j * cosA n j q) j = s at hs HE
            generalize u j = y at k1 hp HE
            generalize cosP (A : Int) = x at hp HE HX
            have p0 : -562949953421312 ≤ y * x := by omega
            have p1 : y * x ≤ 562949953421312 := by omega
            have s0 : -288230376151711744 ≤ s := by omega
            have s1 : s ≤ 288230376151711744 := by omega
            clear hs hp
            have l2 : (j : Int) < (n : Int) := by omega
            go_wp2
            have g1 : IntKind.i64.wrap (2 * (j : Int)) = 2 * (j : Int) := IntWalk.i64_in _ (by omega)
            have g2 : IntKind.i64.wrap (2 * (j : Int) + 1) = 2 * (j : Int) + 1 := IntWalk.i64_in _ (by omega)
            have g3 : IntKind.i64.wrap (2 * (q : Int)) = 2 * (q : Int) := IntWalk.i64_in _ (by omega)
            have g4 : IntKind.i64.wrap (2 * (q : Int) + 1) = 2 * (q : Int) + 1 := IntWalk.i64_in _ (by omega)
            have g5 : IntKind.i64.wrap (M : Int) = (M : Int) := IntWalk.i64_in _ (by omega)
            have g6 : IntKind.i64.wrap (A : Int) = (A : Int) := IntWalk.i64_in _ (by omega)
            have g7 : IntKind.i64.wrap (V : Int) = (V : Int) := IntWalk.i64_in _ (by omega)
            have g8 : IntKind.i64.wrap (y * x) = y * x := IntWalk.i64_in _ (by omega)
            have g9 : IntKind.i64.wrap (s + y * x) = s + y * x := IntWalk.i64_in _ (by omega)
            go_quiet (first | (go_at_call 143; exact Calls.quiet_of_same (HX.out _)))
            clear g1 g2 g3 g4 g5 g6 g7 g8 g9
            go_wp2
            go_roundw
            case rel => exact ⟨j + 1, by omega, by go_num, by rw [HE.out], HD.out _⟩
            case measure => simp [intOf] <;> omega
          · obtain rfl : j = n := by omega
            have HDt : RowKit.Hid (sumF (fun i => u i * cosA j i q) j = dotF j u q) := rfl
            rw [HDt.out]
            have hd := dotF_wide Hn.out (u := u) (fun i hi => by have := HB.out i hi; omega) q
            have ht := turnF_wide Hn.out (u := u) (fun i hi => by have := HB.out i hi; omega) q
            have o1 := HJ.out.1.cell (j := q) (by omega)
            have f1 := HJ.out.1.frozen q
            have HQ := Lib.hid (HR.out q)
            have HS : RowKit.Hid (IFun (wr.setCell ⟨gg, q, none⟩ (.int .i64 (turnF j u q))) gg 2 .i64 j (upTo (turnF j u) (fun _ => 0) (q + 1)) ∧ Below gg w (wr.setCell ⟨gg, q, none⟩ (.int .i64 (turnF j u q)))) :=
              ⟨IFun.ext (HJ.out.1.set (j := q) (by omega) (turnF j u q)) fun i _ => upTo_next _ _ q i, Below.setCell (p := ⟨gg, q, none⟩) HJ.out.2 (Nat.le_refl _) _⟩
            generalize turnF j u q = t at ht HQ HS
            generalize dotF j u q = d at hd HQ
            generalize upTo (turnF j u) (fun _ => 0) q q = z at o1
            have t0 : -1073741824 ≤ t := by omega
            have t1 : t ≤ 1073741824 := by omega
            clear HJ ht HDt
            go_wp2_with (go_at_call 104; refine (refRound_any d _ _ (by omega) (by omega)).mono ?_; rintro e w' ⟨rfl, rfl⟩; rw [HQ.out])
            go_roundw
            case rel => exact ⟨q + 1, by omega, by go_num, HS.out⟩
            case measure => simp [intOf] <;> omega
      · have Z : RowKit.Hid (IFun wr gg 2 .i64 n (turnF n u) ∧ Below gg w wr) := ⟨IFun.ext HI.out.1 fun i hi => by rw [show q = n by omega]; exact upTo_end _ _ n i hi, HI.out.2⟩
        go_wp2
        go_ret
        exact ⟨gg, rfl, Z.out.1, by omega, by rw [hg]; exact Z.out.2⟩
set_option maxRecDepth 100000 in
theorem refForward_any (c n N cap : Nat) (a : Option Addr) (x : Nat → Int) (w : World) (hC : IFun w c 2 .i64 1025 cosN) (hn : n = 128 ∨ n = 512) (hN : N = 2 * n) (hx : FnAt w w.heap.size .i64 a N x) (hb : ∀ j, j < N → -1048576 ≤ x j ∧ x j ≤ 1048575) :
    Calls Tryz.prog 68 #[.slice (some ⟨c, 0, none⟩) 1025 1025, .slice a N cap] w (RowPost .i64 2 n (fwdF n x) w) := by
  have HG := Lib.hid hC
  have HX := Lib.hid hx
  have HB := Lib.hid hb
  have Hn := Lib.hid hn
  have HN := Lib.hid hN
  have gl := hC.lt
  have n1 : 1 ≤ n := by omega
  have n2 : n ≤ 512 := by omega
  have hF : RowKit.Hid (∀ j, j < n → (foldF n x j).natAbs ≤ 2097152) := fun j hj => foldF_abs (B := 1048576) (by omega) (fun i hi => by have := hb i (by omega); omega) hj
  have K3 : RowKit.Hid (Calls Tryz.prog 106 #[.slice a N cap] w (RowPost .i64 2 n (foldF n x) w)) :=
    refFold_any (n / 2) n N cap a x w (by omega) (by omega) (by omega) (by omega) hx (fun j hj => by have := hb j hj; omega)
  clear hC hn hx hb hN
  go_enter Tryz.func68, Tryz.ntmps68
  go_wp2_with (first | (go_at_call 106; go_loud (refine (K3.out).mono ?_); rintro e w1 ⟨g1, rfl, i1, s1, b1⟩; have I1 := Lib.hid i1; have S1 := Lib.hid s1; have B1 := Lib.hid b1; clear i1 s1 b1) | (go_at_call 105; go_loud (refine (refTurn_any c n n _ (foldF n x) _ (HG.out.below B1.out gl) Hn.out (FnAt.of_ifun I1.out) (fun j hj => by have := hF.out j hj; omega)).mono ?_); rintro e w2 ⟨g2, rfl, i2, s2, b2⟩; have I2 := Lib.hid i2; have S2 : RowKit.Hid (w.heap.size ≤ g2) := Nat.le_trans B1.out.size s2; have B2 : RowKit.Hid (Below w.heap.size w w2) := chain B1.out b2; clear i2 s2 b2))
  have H0 : RowKit.Hid (IFun w2 g2 2 .i64 n (upTo (fwdF n x) (turnF n (foldF n x)) 0) ∧ Below w.heap.size w w2) := ⟨IFun.ext I2.out fun i _ => (upTo_start _ _ i).symm, B2.out⟩
  clear I1 S1 B1 I2 B2 K3
  go_loopw [6] (fun i wr => ∃ q : Nat, q ≤ n ∧ i = .int .i64 (q : Int) ∧ RowKit.Hid (IFun wr g2 2 .i64 n (upTo (fwdF n x) (turnF n (foldF n x)) q) ∧ Below w.heap.size w wr)) (fun i _ => n - (intOf i).toNat)
  case atStart => exact ⟨0, by omega, rfl, H0.out⟩
  case round =>
    obtain ⟨q, hq, rfl, HI⟩ := hrel
    clear H0
    by_cases hlt : q < n
    · have o1 := HI.out.1.cell (j := q) (by omega)
      rw [upTo_here] at o1
      have f1 := HI.out.1.frozen q
      have hb := turnF_wide Hn.out (u := foldF n x) (fun j hj => by have := hF.out j hj; omega) q
      have HS : RowKit.Hid (IFun (wr.setCell ⟨g2, q, none⟩ (.int .i64 (fwdF n x q))) g2 2 .i64 n (upTo (fwdF n x) (turnF n (foldF n x)) (q + 1)) ∧ Below w.heap.size w (wr.setCell ⟨g2, q, none⟩ (.int .i64 (fwdF n x q)))) :=
        ⟨IFun.ext (HI.out.1.set (j := q) (by omega) (fwdF n x q)) fun i _ => upTo_next _ _ q i, Below.setCell (p := ⟨g2, q, none⟩) HI.out.2 S2.out _⟩
      have HE : RowKit.Hid (satP (turnF n (foldF n x) q) 26 = fwdF n x q) := rfl
      obtain ⟨t0, t1⟩ := satP_26_bd (turnF n (foldF n x) q)
      rw [HE.out] at t0 t1
      generalize fwdF n x q = t at HS HE t0 t1
      generalize turnF n (foldF n x) q = d at o1 hb HE
      have d0 : -1073741824 ≤ d := by omega
      have d1 : d ≤ 1073741824 := by omega
      clear HI hb
      go_wp2_with (go_at_call 107; refine (refSat_any d 26 _ (by omega) (by omega)).mono ?_; rintro e w' ⟨rfl, rfl⟩; rw [HE.out])
      go_roundw
      case rel => exact ⟨q + 1, by omega, by go_num, HS.out⟩
      case measure => simp [intOf] <;> omega
    · obtain rfl : q = n := by omega
      have Z : RowKit.Hid (IFun wr g2 2 .i64 q (fwdF q x) ∧ Below w.heap.size w wr) := ⟨IFun.ext HI.out.1 fun i hi => upTo_end _ _ q i hi, HI.out.2⟩
      go_wp2
      go_ret
      exact ⟨g2, rfl, Z.out.1, S2.out, Z.out.2⟩
set_option maxRecDepth 100000 in
theorem refBack_any (c n N cap : Nat) (a : Option Addr) (l : Nat → Int) (w : World) (hC : IFun w c 2 .i64 1025 cosN) (hn : n = 128 ∨ n = 512) (hN : N = 2 * n) (hx : FnAt w w.heap.size .i64 a n l) (hb : ∀ j, j < n → -33554432 ≤ l j ∧ l j ≤ 33554431) :
    Calls Tryz.prog 177 #[.slice (some ⟨c, 0, none⟩) 1025 1025, .slice a n cap] w (RowPost .i64 2 N (backF n l) w) := by
  have Hn := Lib.hid hn
  have HN := Lib.hid hN
  have n1 : 1 ≤ n := by omega
  have n2 : n ≤ 512 := by omega
  have K3 : RowKit.Hid (Calls Tryz.prog 105 #[.slice (some ⟨c, 0, none⟩) 1025 1025, .slice a n cap] w (RowPost .i64 2 n (turnF n l) w)) :=
    refTurn_any c n cap a l w hC hn hx (fun j hj => by have := hb j hj; omega)
  have hF : RowKit.Hid (∀ k, -2147483647 ≤ turnF n l k ∧ turnF n l k ≤ 2147483647) := fun k => by
    have := turnF_wide Hn.out (u := l) (fun j hj => by have := hb j hj; omega) k
    omega
  clear hC hn hx hb hN
  go_enter Tryz.func177, Tryz.ntmps177
  go_wp2_with (first | (go_at_call 105; go_loud (refine (K3.out).mono ?_); rintro e w1 ⟨g1, rfl, i1, s1, b1⟩; have I1 := Lib.hid i1; have S1 := Lib.hid s1; have B1 := Lib.hid b1; clear i1 s1 b1) | (go_at_call 193; go_loud (refine (refUnfold_any (n / 2) n N n _ (turnF n l) _ (by have := Hn.out; omega) (by omega) (by have := Hn.out; omega) (by have := HN.out; have := Hn.out; omega) (FnAt.of_ifun I1.out) (fun j hj => hF.out j)).mono ?_); rintro e w2 ⟨g2, rfl, i2, s2, b2⟩; have I2 := Lib.hid i2; have S2 : RowKit.Hid (w.heap.size ≤ g2) := Nat.le_trans B1.out.size s2; have B2 : RowKit.Hid (Below w.heap.size w w2) := chain B1.out b2; clear i2 s2 b2))
  go_ret
  exact ⟨g2, rfl, I2.out, S2.out, B2.out⟩
end Go.Proofs.YtmgfkdmjgjlkjaaGreat

namespace Go.Proofs.YtmgfkdmjgjlkjaaGreat
open Go.RowKit
set_option linter.unusedVariables false
theorem tabF_snoc (f : Nat → Int) (n : Nat) : tabF (n + 1) f = tabF n f ++ [f n] := by simp [tabF, List.range_succ]
theorem info_i32b : (Tryz.prog.info? 21).map (fun i => (i.zero, i.size, i.bytes)) = some (some (.int .i32 0), 1, 4) := by kernel_rfl
theorem fill_fn {w : World} {base e n : Nat} {v : Value} {k : IntKind} {F : Nat → Int} (h : w.ownsRow base e 1 v n ((tabF n F).map (Value.int k))) (hn : 0 < n) : ∃ a c, v = .slice a n c ∧ FnAt w w.heap.size k a n F ∧ (a = none → c = 0) := by
  obtain ⟨a, c, rfl, hi⟩ := own_ints h
  refine ⟨a, c, rfl, (FnAt.of_ints hi hn).ext fun j hj => tabF_getD F hj, ?_⟩
  rintro rfl
  obtain ⟨b, off, e1, _⟩ := hi.at_ hn
  cases e1
end Go.Proofs.YtmgfkdmjgjlkjaaGreat

namespace Go.Proofs.YtmgfkdmjgjlkjaaGreat
open Go.RowKit
set_option linter.unusedVariables false
theorem Cel.ne {w : World} {g g' : Nat} {t t' : TypeId} {cs cs' : Array Value} (h : Cel w g t cs) (h' : Cel w g' t' cs') (hne : t ≠ t') : g ≠ g' := by
  rintro rfl
  unfold Cel at h h'
  rw [h] at h'
  injection h' with h'
  injection h' with _ ht
  exact hne ht
theorem CircAt.cel {w : World} {g : Nat} (h : CircAt w g) : ∃ cs, Cel w g 232 cs := ⟨_, h⟩
theorem IFun.cel {w : World} {g n : Nat} {t : TypeId} {k : IntKind} {f : Nat → Int} (h : IFun w g t k n f) : ∃ cs, Cel w g t cs := ⟨_, h⟩
def toolsV (c p q : Nat) : Value := .agg #[.pointer (some ⟨c, 0, none⟩), .pointer (some ⟨p, 0, none⟩), .pointer (some ⟨q, 0, none⟩)]
def TlAt (w : World) (c p q : Nat) : Prop := TrAt w p c 512 ∧ TrAt w q c 128
theorem TlAt.below {w w' : World} {c p q : Nat} (h : TlAt w c p q) (hb : Below w.heap.size w w') : TlAt w' c p q :=
  ⟨h.1.below hb (Nat.le_refl _), h.2.below hb (Nat.le_refl _)⟩
theorem TrAt.keep {w w' : World} {g c n : Nat} (h : TrAt w g c n) (hk : w'.heap[g]? = w.heap[g]?) (hc : w'.heap[c]? = w.heap[c]?) : TrAt w' g c n := ⟨h.1.keep hk, h.2.keep hc⟩
theorem TrAt.keeps {w w' : World} {g c n : Nat} {F : Nat → Prop} (h : TrAt w g c n) (hk : Keeps F w w') (hg : ¬ F g) (hc : ¬ F c) : TrAt w' g c n :=
  h.keep (hk.block g h.1.lt hg) (hk.block c h.2.lt hc)
theorem TrAt.ne {w : World} {g c n b : Nat} {t : TypeId} {cs : Array Value} (h : TrAt w g c n) (hb : Cel w b t cs) (h1 : t ≠ 234) (h2 : t ≠ 232) : g ≠ b ∧ c ≠ b :=
  ⟨(hb.ne h.1 h1).symm, by obtain ⟨cs', hc⟩ := h.2.cel; exact (hb.ne hc h2).symm⟩
theorem TlAt.keeps {w w' : World} {c p q b : Nat} {t : TypeId} {cs : Array Value} (h : TlAt w c p q) (hb : Cel w b t cs) (h1 : t ≠ 234) (h2 : t ≠ 232) (hk : Keeps (· = b) w w') : TlAt w' c p q := by
  obtain ⟨a1, a2⟩ := h.1.ne hb h1 h2
  obtain ⟨a3, _⟩ := h.2.ne hb h1 h2
  exact ⟨h.1.keeps hk a1 a2, h.2.keeps hk a3 a2⟩
def ToolsPost (w : World) (e : Ending) (w' : World) : Prop := ∃ c p q, e = .returned (toolsV c p q) ∧ TlAt w' c p q ∧ Below w.heap.size w w'
theorem cel3 {w : World} {g : Nat} {t : TypeId} {x y z : Value} (h : Cel w g t #[x, y, z]) : w.cell? ⟨g, 0, none⟩ = some x ∧ w.cell? ⟨g, 1, none⟩ = some y ∧ w.cell? ⟨g, 2, none⟩ = some z := ⟨h.cell 0, h.cell 1, h.cell 2⟩
theorem Keeps.set1 {w : World} {b i : Nat} (u : Value) : Keeps (· = b) w (w.setCell ⟨b, i, none⟩ u) := Keeps.setCell (F := (· = b)) (p := ⟨b, i, none⟩) (Keeps.refl _ w) (.inl rfl) u
set_option maxRecDepth 100000 in
theorem newTools_any (w : World) : Calls Tryz.prog 94 #[] w (ToolsPost w) := by
  have HR0 := Lib.hid (Cel.new w 168 #[.pointer none, .pointer none, .pointer none])
  have HB0 := Lib.hid (Below.alloc_new w (.cells #[.pointer none, .pointer none, .pointer none] 168))
  go_enter Tryz.func94, Tryz.ntmps94
  go_wp2_with (first | (go_at_call 122; go_loud (refine (circNew_any _).mono ?_); rintro e w2 ⟨c, rfl, hc, hb⟩; have HC := Lib.hid hc; have HR2 := Lib.hid (HR0.out.below hb); have HB2 := Lib.hid (chain HB0.out hb); clear hc hb HR0 HB0) | (go_at_call 123; have hq := HP3.out; go_loud (refine (lapNew_any 128 c _ (.inl rfl) HC3.out).mono ?_); rintro e w4 ⟨q, rfl, ht, hb⟩; have HT4 := Lib.hid (show TlAt w4 c p q from ⟨HP3b.out.below hb (Nat.le_refl _), ht⟩); have HU4 := Lib.hid (HU3.out.below hb); have HR4 := Lib.hid (HR3b.out.below hb); have HB4 := Lib.hid (chain HB3.out hb); obtain ⟨t0, t1, t2⟩ := cel3 HU4.out; obtain ⟨r0, r1, r2⟩ := cel3 HR4.out; have ft2 := HU4.out.frozen 2; have fr0 := HR4.out.frozen 0; have fr1 := HR4.out.frozen 1; have fr2 := HR4.out.frozen 2; have HS := Lib.hid HS2.out; have n1 : ¬ w.heap.size = w2.heap.size := HTR.out; have n2 : ¬ w2.heap.size = w.heap.size := (fun e => HTR.out e.symm); clear ht hb hq HP3 HC3 HU3 HR3 HB3 a0 a1 a2 fa1) | (go_at_call 123; go_loud (refine (lapNew_any 512 c _ (.inr rfl) (IFun.alloc HC.out _)).mono ?_); rintro e w3 ⟨p, rfl, ht, hb⟩; have HC0 := Lib.hid (show Cel w3 w2.heap.size 168 #[.pointer (some ⟨c, 0, none⟩), .pointer none, .pointer none] from (Cel.new w2 _ _).below hb); obtain ⟨a0, a1, a2⟩ := cel3 HC0.out; have fa1 := HC0.out.frozen 1; have HP3 := Lib.hid ht; have HR3 := Lib.hid ((HR2.out.alloc (.cells #[.pointer (some ⟨c, 0, none⟩), .pointer none, .pointer none] 168)).below hb); have HS2 : RowKit.Hid (w.heap.size ≤ w2.heap.size) := HB2.out.size; have HTR : RowKit.Hid (w.heap.size ≠ w2.heap.size) := (by have := HR2.out.lt; show _ ≠ _; omega); have HCT := Lib.hid (ht.ne HC0.out (by decide) (by decide)); have HP3b : RowKit.Hid (TrAt (w3.setCell ⟨w2.heap.size, 1, none⟩ (.pointer (some ⟨p, 0, none⟩))) p c 512) := ht.keeps (Keeps.set1 _) HCT.out.1 HCT.out.2; have HC3 := Lib.hid HP3b.out.2; have HU3 : RowKit.Hid (Cel (w3.setCell ⟨w2.heap.size, 1, none⟩ (.pointer (some ⟨p, 0, none⟩))) w2.heap.size 168 #[.pointer (some ⟨c, 0, none⟩), .pointer (some ⟨p, 0, none⟩), .pointer none]) := HC0.out.set_ 1 _; have HR3b : RowKit.Hid (Cel (w3.setCell ⟨w2.heap.size, 1, none⟩ (.pointer (some ⟨p, 0, none⟩))) w.heap.size 168 #[.pointer none, .pointer none, .pointer none]) := HR3.out.far HTR.out _; have HB3 : RowKit.Hid (Below w.heap.size w (w3.setCell ⟨w2.heap.size, 1, none⟩ (.pointer (some ⟨p, 0, none⟩)))) := (chain HB2.out (chain (Below.alloc_new w2 _) hb)).setCell (by have := HB2.out.size; exact this) _; clear ht hb HC HC0 HB2 HR2))
  have Z1 : TlAt (w4.setCell ⟨w2.heap.size, 2, none⟩ (.pointer (some ⟨q, 0, none⟩))) c p q := HT4.out.keeps HU4.out (by decide) (by decide) (Keeps.set1 _)
  have Z2 := HR4.out.far (p := ⟨w2.heap.size, 2, none⟩) HTR.out (.pointer (some ⟨q, 0, none⟩))
  have Z4 := HB4.out.setCell (p := ⟨w2.heap.size, 2, none⟩) (by have := HB4.out.size; have := HU4.out.lt; have := HR4.out.lt; show w.heap.size ≤ w2.heap.size; exact HS.out) (.pointer (some ⟨q, 0, none⟩))
  generalize (w4.setCell ⟨w2.heap.size, 2, none⟩ (.pointer (some ⟨q, 0, none⟩))) = w5 at Z1 Z2 Z4 ⊢
  have Z3 := ((Z2.set_ 0 (.pointer (some ⟨c, 0, none⟩))).set_ 1 (.pointer (some ⟨p, 0, none⟩))).set_ 2 (.pointer (some ⟨q, 0, none⟩))
  obtain ⟨d0, d1, d2⟩ := cel3 (show Cel _ w.heap.size 168 #[.pointer (some ⟨c, 0, none⟩), .pointer (some ⟨p, 0, none⟩), .pointer (some ⟨q, 0, none⟩)] from Z3)
  have Z5 := Z1.keeps Z2 (by decide) (by decide) ((((Keeps.set1 (i := 0) (.pointer (some ⟨c, 0, none⟩))).setCell (p := ⟨w.heap.size, 1, none⟩) (.inl rfl) (.pointer (some ⟨p, 0, none⟩))).setCell (p := ⟨w.heap.size, 2, none⟩) (.inl rfl) (.pointer (some ⟨q, 0, none⟩))))
  have Z6 := ((Z4.setCell (p := ⟨w.heap.size, 0, none⟩) (Nat.le_refl _) (.pointer (some ⟨c, 0, none⟩))).setCell (p := ⟨w.heap.size, 1, none⟩) (Nat.le_refl _) (.pointer (some ⟨p, 0, none⟩))).setCell (p := ⟨w.heap.size, 2, none⟩) (Nat.le_refl _) (.pointer (some ⟨q, 0, none⟩))
  generalize (((w5.setCell _ _).setCell _ _).setCell _ _) = w6 at d0 d1 d2 Z5 Z6 ⊢
  exact bodyPost_ret (v := toolsV c p q) (by simp [results, Tryz.results94, go_sem, d0, d1, d2, toolsV]) rfl ⟨c, p, q, rfl, Z5, Z6⟩
def ovlL (k : IntKind) (c p q : Nat) (f : Nat → Int) : List Value := [.pointer (some ⟨c, 0, none⟩), .pointer (some ⟨p, 0, none⟩), .pointer (some ⟨q, 0, none⟩)] ++ (tabF 128 f).map (Value.int k)
section
variable {k : IntKind} {c p q : Nat} {f f' : Nat → Int}
theorem ovlL_len : (ovlL k c p q f).length = 131 := by simp [ovlL, tabF]
theorem ovlL_at {j : Nat} (h : j < 128) : (ovlL k c p q f)[3 + j]? = some (.int k (f j)) := by
  unfold ovlL tabF
  rw [List.getElem?_append_right (by simp)]
  simp [h]
theorem ovlL_ext (h : ∀ j, j < 128 → f j = f' j) : ovlL k c p q f = ovlL k c p q f' := by unfold ovlL; rw [tabF_ext h]
end
def OvAt (t : TypeId) (k : IntKind) (w : World) (a c p q : Nat) (f : Nat → Int) : Prop := Cel w a t (ovlL k c p q f).toArray ∧ TlAt w c p q
section
variable {t : TypeId} {k : IntKind} {w w' : World} {a c p q : Nat} {f f' : Nat → Int}
theorem OvAt.ptrs (h : OvAt t k w a c p q f) : w.cell? ⟨a, 0, none⟩ = some (.pointer (some ⟨c, 0, none⟩)) ∧ w.cell? ⟨a, 1, none⟩ = some (.pointer (some ⟨p, 0, none⟩)) ∧ w.cell? ⟨a, 2, none⟩ = some (.pointer (some ⟨q, 0, none⟩)) :=
  ⟨h.1.cell 0, h.1.cell 1, h.1.cell 2⟩
theorem OvAt.at_ (h : OvAt t k w a c p q f) {j : Nat} (hj : j < 128) : w.cell? ⟨a, 3 + j, none⟩ = some (.int k (f j)) := by
  rw [h.1.cell, List.getElem?_toArray]; exact ovlL_at hj
theorem OvAt.below (h : OvAt t k w a c p q f) (hb : Below w.heap.size w w') : OvAt t k w' a c p q f := ⟨h.1.below hb, h.2.below hb⟩
theorem OvAt.ext (h : OvAt t k w a c p q f) (he : ∀ j, j < 128 → f j = f' j) : OvAt t k w a c p q f' := ⟨by rw [← ovlL_ext he]; exact h.1, h.2⟩
theorem OvAt.drewN (h : OvAt t k w a c p q f) (n : Nat) : OvAt t k (w.drewN n) a c p q f := h
theorem OvAt.range (h : OvAt t k w a c p q f) : w.rangeAt a 0 (ovlL k c p q f) := fun j v hv => by
  rw [Nat.zero_add, h.1.cell, List.getElem?_toArray]; exact hv
end
def anaZ : List Value := [.pointer none, .pointer none, .pointer none] ++ List.replicate 128 (.int .i16 0)
theorem ana_zero (w : World) : (zeroValue 172).run Tryz.prog w = .ok (.agg anaZ.toArray) w :=
  (zero_of_info (t := 172) (v := .agg anaZ.toArray) (n := 131) (by kernel_rfl)).1 w
def synZ : List Value := [.pointer none, .pointer none, .pointer none] ++ List.replicate 128 (.int .i32 0)
theorem syn_zero (w : World) : (zeroValue 175).run Tryz.prog w = .ok (.agg synZ.toArray) w :=
  (zero_of_info (t := 175) (v := .agg synZ.toArray) (n := 131) (by kernel_rfl)).1 w
def NewPost (t : TypeId) (k : IntKind) (w : World) (e : Ending) (w' : World) : Prop := ∃ a c p q, e = .returned (.pointer (some ⟨a, 0, none⟩)) ∧ OvAt t k w' a c p q (fun _ => 0) ∧ w.heap.size ≤ a ∧ Below w.heap.size w w'
theorem ana_is (c p q : Nat) : ((anaZ.toArray.setIfInBounds 0 (.pointer (some ⟨c, 0, none⟩))).setIfInBounds 1 (.pointer (some ⟨p, 0, none⟩))).setIfInBounds 2 (.pointer (some ⟨q, 0, none⟩)) = (ovlL .i16 c p q fun _ => 0).toArray := by
  have e : tabF 128 (fun _ => (0 : Int)) = List.replicate 128 0 := by decide
  unfold ovlL anaZ
  rw [e, List.map_replicate]
  generalize List.replicate 128 _ = R
  simp
theorem syn_is (c p q : Nat) : ((synZ.toArray.setIfInBounds 0 (.pointer (some ⟨c, 0, none⟩))).setIfInBounds 1 (.pointer (some ⟨p, 0, none⟩))).setIfInBounds 2 (.pointer (some ⟨q, 0, none⟩)) = (ovlL .i32 c p q fun _ => 0).toArray := by
  have e : tabF 128 (fun _ => (0 : Int)) = List.replicate 128 0 := by decide
  unfold ovlL synZ
  rw [e, List.map_replicate]
  generalize List.replicate 128 _ = R
  simp
set_option maxRecDepth 100000 in
theorem newAnalyser_any (w : World) : Calls Tryz.prog 57 #[] w (NewPost 172 .i16 w) := by
  obtain ⟨zz, hzz⟩ : ∃ zz, zz = anaZ.toArray := ⟨_, rfl⟩
  have hz := ana_zero
  rw [← hzz] at hz
  have hzs : zz.size = 131 := by rw [hzz]; rfl
  have HZ := Lib.hid hzz
  clear hzz
  go_enter Tryz.func57, Tryz.ntmps57
  go_wp2_with (go_at_call 94; go_loud (refine (newTools_any _).mono ?_); rintro e w2 ⟨c, p, q, rfl, ht, hb⟩; have HT := Lib.hid ht; have HB := Lib.hid hb; clear ht hb; unfold toolsV)
  go_ret
  refine ⟨_, c, p, q, rfl, ⟨by rw [← ana_is, ← HZ.out]; exact Cel.new _ _ _, HT.out.below (Below.alloc_new _ _)⟩, HB.out.size, chain HB.out (Below.alloc_new _ _)⟩
set_option maxRecDepth 100000 in
theorem newSynth_any (w : World) : Calls Tryz.prog 58 #[] w (NewPost 175 .i32 w) := by
  obtain ⟨zz, hzz⟩ : ∃ zz, zz = synZ.toArray := ⟨_, rfl⟩
  have hz := syn_zero
  rw [← hzz] at hz
  have hzs : zz.size = 131 := by rw [hzz]; rfl
  have HZ := Lib.hid hzz
  clear hzz
  go_enter Tryz.func58, Tryz.ntmps58
  go_wp2_with (go_at_call 94; go_loud (refine (newTools_any _).mono ?_); rintro e w2 ⟨c, p, q, rfl, ht, hb⟩; have HT := Lib.hid ht; have HB := Lib.hid hb; clear ht hb; unfold toolsV)
  go_ret
  refine ⟨_, c, p, q, rfl, ⟨by rw [← syn_is, ← HZ.out]; exact Cel.new _ _ _, HT.out.below (Below.alloc_new _ _)⟩, HB.out.size, chain HB.out (Below.alloc_new _ _)⟩
end Go.Proofs.YtmgfkdmjgjlkjaaGreat
