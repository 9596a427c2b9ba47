/- What the document's answers for layer 9 give: numbers shaped, lines. -/
import Derived.Test.YtgebnaeebdeoeaaOvlH
namespace Go.Proofs.Ytgebnaeebdeoeaa
open Go.RowKit
set_option linter.unusedVariables false

set_option maxRecDepth 100000 in
theorem ref9Shape_any (c N cap : Nat) (a : Option Addr) (x : Nat → Int) (w : World) (hC : IFun w c 2 .i64 1025 cosN) (h1 : 1 ≤ N) (h2 : N ≤ 1000) (hx : FnAt w w.heap.size .i64 a N x) (hb : ∀ j, j < N → (x j).natAbs ≤ 2147483647) :
    Calls Try.prog 21 #[.slice (some ⟨c, 0, none⟩) 1025 1025, .slice a N cap] w (RowPost .i64 2 N (shapeF N x) w) := by
  obtain ⟨b, off, rfl, hbl, hc⟩ := hx
  have HC := Lib.hid hc
  have HB := Lib.hid hb
  have HT := Lib.hid hC
  have tl := hC.lt
  have hmk : ∀ w : World, (Instr.makeSlice 25 (.int .i64 (N : Int)) (.int .i64 (N : Int))).run Try.prog w = .ok (.slice (some ⟨w.heap.size, 0, none⟩) N N) (w.alloc (.cells (madeCells #[.int .i64 0] N) 2)) :=
    fun w => make_zeros (P := Try.prog) Try.underlying25 info_i64 N (by omega) (by omega) w
  have H0 : RowKit.Hid (IFun (w.alloc (.cells (madeCells #[.int .i64 0] N) 2)) w.heap.size 2 .i64 N (upTo (shapeF N x) (fun _ => 0) 0) ∧ Below w.heap.size w (w.alloc (.cells (madeCells #[.int .i64 0] N) 2))) :=
    ⟨IFun.ext (IFun.zeros w 2 .i64 N) fun j _ => (upTo_start (shapeF N x) (fun _ => 0) j).symm, Below.alloc_new w _⟩
  clear hc hb hC
  go_enter Try.func21, Try.ntmps21
  go_wp2
  clear hmk
  generalize hg : w.heap.size = g at H0 hbl tl ⊢
  generalize (w.alloc (.cells (madeCells #[.int .i64 0] N) 2)) = w1 at H0 ⊢
  go_loopw [7] (fun i wr => ∃ k : Nat, k ≤ N ∧ i = .int .i64 (k : Int) ∧ RowKit.Hid (IFun wr g 2 .i64 N (upTo (shapeF N x) (fun _ => 0) k) ∧ Below g w wr)) (fun i _ => N - (intOf i).toNat)
  case atStart => exact ⟨0, by omega, rfl, H0.out⟩
  case round =>
    obtain ⟨k, hk, rfl, HI⟩ := hrel
    clear H0
    by_cases hlt : k < N
    · obtain ⟨m, hm⟩ : ∃ m, m = N - 1 - k := ⟨_, rfl⟩
      have k1 := (HI.out.2.cell (p := ⟨b, off + k, none⟩) hbl).trans (HC.out k hlt)
      have o1 := HI.out.1.cell (j := k) (by omega)
      have f1 := HI.out.1.frozen k
      obtain ⟨R, hR⟩ : ∃ R : Int → Int, R = riseP := ⟨_, rfl⟩
      have HX : RowKit.Hid (∀ (z : Int), 0 ≤ z → z ≤ 1000 → Calls Try.prog 34 #[.slice (some ⟨c, 0, none⟩) 1025 1025, .int .i64 z] wr fun e w' => e = .returned (.int .i64 (R z)) ∧ wr = w') := fun z h0 h1 => by
        rw [hR]
        exact ref04Rise_any c z wr (HT.out.below HI.out.2 tl) (by omega) (by omega)
      have hs : slopeF N k = if R (m : Int) < R (k : Int) then R (m : Int) else R (k : Int) := by rw [hm, hR]; rfl
      have r1 : 0 ≤ R (k : Int) ∧ R (k : Int) ≤ 16777216 := by rw [hR]; exact riseP_bd (k : Int) (by omega)
      have r2 : 0 ≤ R (m : Int) ∧ R (m : Int) ≤ 16777216 := by rw [hR]; exact riseP_bd (m : Int) (by omega)
      obtain ⟨s0, s1⟩ := slopeF_bd N k
      have hx := HB.out k hlt
      obtain ⟨Y, hY⟩ : ∃ Y, Y = x k * slopeF N k := ⟨_, rfl⟩
      have hYb : Y.natAbs ≤ 2147483647 * 16777216 := by rw [hY]; exact mul_abs hx (by omega)
      have HS : RowKit.Hid (IFun (wr.setCell ⟨g, k, none⟩ (.int .i64 (shapeF N x k))) g 2 .i64 N (upTo (shapeF N x) (fun _ => 0) (k + 1)) ∧ Below g w (wr.setCell ⟨g, k, none⟩ (.int .i64 (shapeF N x k)))) :=
        ⟨IFun.ext (HI.out.1.set (j := k) (by omega) (shapeF N x k)) fun j _ => upTo_next _ _ k j, Below.setCell (p := ⟨g, k, none⟩) HI.out.2 (Nat.le_refl _) _⟩
      have HR : RowKit.Hid (rndP Y 24 = shapeF N x k) := by show _ = _; rw [hY]; rfl
      have e1 : (N : Int) - 1 - (k : Int) = (m : Int) := by omega
      clear hm HI hR hbl
      generalize shapeF N x k = y at HS HR
      generalize slopeF N k = sl at hs hY s0 s1
      generalize x k = xk at k1 hx hY
      generalize upTo (shapeF N x) (fun _ => 0) k k = old at o1
      have l1 : (k : Int) < (N : Int) := by omega
      have x0 : -2147483647 ≤ xk := by omega
      have x1 : xk ≤ 2147483647 := by omega
      have y0 : -36028797018963968 ≤ Y := by omega
      have y1 : Y ≤ 36028797018963968 := by omega
      clear hx hYb
      by_cases hv : R (m : Int) < R (k : Int)
      · rw [if_pos hv] at hs
        have hYe : xk * R (m : Int) = Y := by rw [hY, hs]
        clear hY hs
        go_wp2_with (first | (go_at_call 34; refine (HX.out _ (by omega) (by omega)).mono ?_; rintro e w' ⟨rfl, rfl⟩) | (go_at_call 28; refine (refRound_any Y 24 _ (by omega) (by omega)).mono ?_; rintro e w' ⟨rfl, rfl⟩; rw [HR.out]))
        go_roundw
        case rel => exact ⟨k + 1, by omega, by go_num, HS.out⟩
        case measure => simp [intOf] <;> omega
      · rw [if_neg hv] at hs
        have hYe : xk * R (k : Int) = Y := by rw [hY, hs]
        clear hY hs
        go_wp2_with (first | (go_at_call 34; refine (HX.out _ (by omega) (by omega)).mono ?_; rintro e w' ⟨rfl, rfl⟩) | (go_at_call 28; refine (refRound_any Y 24 _ (by omega) (by omega)).mono ?_; rintro e w' ⟨rfl, rfl⟩; rw [HR.out]))
        go_roundw
        case rel => exact ⟨k + 1, by omega, by go_num, HS.out⟩
        case measure => simp [intOf] <;> omega
    · obtain rfl : k = N := by omega
      have Z : RowKit.Hid (IFun wr g 2 .i64 k (shapeF k x) ∧ Below g w wr) := ⟨IFun.ext HI.out.1 fun i hi => upTo_end _ _ k i hi, HI.out.2⟩
      go_wp2
      go_ret
      exact ⟨g, rfl, Z.out.1, by omega, by rw [hg]; exact Z.out.2⟩

set_option maxRecDepth 100000 in
theorem ref9Lines_long (c cap : Nat) (a : Option Addr) (all : Nat → Int) (w : World) (hC : IFun w c 2 .i64 1025 cosN) (ha : FnAt w w.heap.size .i64 a 640 all) (hb : ∀ j, j < 640 → (all j).natAbs ≤ 524288) :
    Calls Try.prog 12 #[.slice (some ⟨c, 0, none⟩) 1025 1025, .slice a 640 cap, .bool false] w (RowPost .i64 2 512 (linesF false all) w) := by
  have HB := Lib.hid hb
  have HX0 := Lib.hid (IFun.zeros w 2 .i64 1024)
  have HB0 := Lib.hid (Below.alloc_new w (.cells (madeCells #[.int .i64 0] 1024) 2))
  have HC0 := Lib.hid (hC.below HB0.out hC.lt)
  have HCl := Lib.hid hC.lt
  have HA0 := Lib.hid (ha.now HB0.out)
  have hmk : ∀ w : World, (Instr.makeSlice 25 (.int .i64 1024) (.int .i64 1024)).run Try.prog w = .ok (.slice (some ⟨w.heap.size, 0, none⟩) 1024 1024) (w.alloc (.cells (madeCells #[.int .i64 0] 1024) 2)) :=
    fun w => make_zeros (P := Try.prog) Try.underlying25 info_i64 1024 (by decide) (by decide) w
  clear hC ha hb
  generalize madeCells #[Value.int .i64 0] 1024 = mc at HX0 HB0 HC0 HA0 hmk
  go_enter Try.func12, Try.ntmps12
  go_wp2_with (go_at_call 21; go_loud (refine (ref9Shape_any c 640 cap a all _ HC0.out (by decide) (by decide) HA0.out (fun j hj => by have := HB.out j hj; omega)).mono ?_); rintro e w3 ⟨g3, rfl, i3, s3, z3⟩; have HI3 := Lib.hid i3; have HN3 : RowKit.Hid (w.heap.size < g3) := Nat.lt_of_lt_of_le HX0.out.lt s3; have HX3 : RowKit.Hid (IFun w3 w.heap.size 2 .i64 1024 (cpyF (fun _ => 0) (shapeF 640 all) 192 0)) := IFun.ext (HX0.out.below z3 HX0.out.lt) fun j _ => (if_neg (by omega)).symm; have HC3 := Lib.hid (HC0.out.below z3 HC0.out.lt); have HB3 := Lib.hid (chain HB0.out z3); clear i3 s3 z3)
  clear hmk HX0 HC0 HA0
  go_loopw [9] (fun i wr => ∃ k : Nat, k ≤ 640 ∧ i = .int .i64 (k : Int) ∧ RowKit.Hid (IFun wr w.heap.size 2 .i64 1024 (cpyF (fun _ => 0) (shapeF 640 all) 192 k) ∧ IFun wr g3 2 .i64 640 (shapeF 640 all) ∧ IFun wr c 2 .i64 1025 cosN ∧ Below w.heap.size w wr)) (fun i _ => 640 - (intOf i).toNat)
  case atStart => exact ⟨0, by omega, rfl, HX3.out, HI3.out, HC3.out, HB3.out⟩
  case round =>
    obtain ⟨k, hk, rfl, HJ⟩ := hrel
    clear HX3 HI3
    by_cases hlt : k < 640
    · obtain ⟨P, hP⟩ : ∃ P, P = 192 + k := ⟨_, rfl⟩
      have eP : 192 + (k : Int) = (P : Int) := by omega
      have k1 := HJ.out.2.1.cell hlt
      have o1 := HJ.out.1.cell (j := P) (by omega)
      have f1 := HJ.out.1.frozen P
      have HS : RowKit.Hid (IFun (wr.setCell ⟨w.heap.size, P, none⟩ (.int .i64 (shapeF 640 all k))) w.heap.size 2 .i64 1024 (cpyF (fun _ => 0) (shapeF 640 all) 192 (k + 1)) ∧ IFun (wr.setCell ⟨w.heap.size, P, none⟩ (.int .i64 (shapeF 640 all k))) g3 2 .i64 640 (shapeF 640 all) ∧ IFun (wr.setCell ⟨w.heap.size, P, none⟩ (.int .i64 (shapeF 640 all k))) c 2 .i64 1025 cosN ∧ Below w.heap.size w (wr.setCell ⟨w.heap.size, P, none⟩ (.int .i64 (shapeF 640 all k)))) := by
        have hn := HN3.out
        have hc := HCl.out
        refine ⟨IFun.ext (HJ.out.1.set (j := P) (by omega) (shapeF 640 all k)) fun i _ => ?_, HJ.out.2.1.far (by show g3 ≠ w.heap.size; omega) _, HJ.out.2.2.1.far (by show c ≠ w.heap.size; omega) _, HJ.out.2.2.2.setCell (Nat.le_refl _) _⟩
        unfold cpyF
        by_cases e : i = P
        · rw [if_pos e, if_pos (by omega), show i - 192 = k by omega]
        · rw [if_neg e]
          by_cases d : 192 ≤ i ∧ i < 192 + k
          · rw [if_pos d, if_pos (by omega)]
          · rw [if_neg d, if_neg (by omega)]
      generalize shapeF 640 all k = x at k1 HS
      generalize cpyF (fun _ => 0) (shapeF 640 all) 192 k P = old at o1
      have l1 : (k : Int) < 640 := by omega
      have l2 : (P : Int) < 1024 := by omega
      clear HJ hP
      go_wp2
      go_roundw
      case rel => exact ⟨k + 1, by omega, by go_num, HS.out⟩
      case measure => simp [intOf] <;> omega
    · have l1 : ¬ (k : Int) < 640 := by omega
      have HXe : RowKit.Hid (IFun wr w.heap.size 2 .i64 1024 (winF all)) := IFun.ext HJ.out.1 fun i _ => by rw [show k = 640 by omega]; exact win_all all i
      have hWb : RowKit.Hid (∀ j, j < 1024 → -1048576 ≤ winF all j ∧ winF all j ≤ 1048575) := fun j _ => by have := winF_abs HB.out j; omega
      have HBw := Lib.hid HJ.out.2.2.2
      have HCw := Lib.hid HJ.out.2.2.1
      clear HJ
      go_wp2_with (go_at_call 22; go_loud (refine (refForward_any c 512 1024 1024 _ (winF all) _ HCw.out (.inr rfl) rfl (FnAt.of_ifun HXe.out) hWb.out).mono ?_); rintro e w5 ⟨g5, rfl, i5, s5, z5⟩; have HI5 := Lib.hid i5; have S5 := Lib.hid s5; have HB5 := Lib.hid (chain HBw.out z5); clear i5 s5 z5)
      go_ret
      exact ⟨g5, rfl, by rw [linesF_long]; exact HI5.out, Nat.le_trans HBw.out.size S5.out, HB5.out⟩
end Go.Proofs.Ytgebnaeebdeoeaa
