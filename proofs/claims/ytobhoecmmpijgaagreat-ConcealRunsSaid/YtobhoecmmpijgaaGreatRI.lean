/- Plain facts, and what functions give, for the proofs of this seat: several texts in one, each with its own first remark. -/
import Derived.Test.YtobhoecmmpijgaaGreatRH
import Derived.Test.YtobhoecmmpijgaaGreatRG

/- The least loss: the walk of package coder. -/
namespace Go.Proofs.YtobhoecmmpijgaaGreat
open Go Go.RowKit
set_option linter.unusedVariables false
set_option linter.unusedSimpArgs false

def FitPost (F : Frm) (w : World) (e : Ending) (w' : World) : Prop :=
  ∃ r cp s, e = .returned (.tuple #[.slice (some ⟨r, 0, none⟩) F.bytes.length cp, .slice (some ⟨s, 0, none⟩) 21 21, .int .i64 0]) ∧ IntsAt w' w'.heap.size .u8 (some ⟨r, 0, none⟩) F.bytes.length F.bytes ∧ CutAt w' s F.steps ∧ Below w.heap.size w w'
/-- What is held on the way. -/
structure FitSt (F : Frm) (lb c : Nat) (o : Option Nat) (w : World) (k : Nat) (wr : World) : Prop where
  b : Below w.heap.size w wr
  f : Cel wr w.heap.size 109 (frC F lb c o)
  n : ∀ j, j < k → F.B < (bytesE (F.E j)).length
theorem FitSt.now {F : Frm} {lb c : Nat} {o : Option Nat} {w wr w' : World} {k : Nat} (h : FitSt F lb c o w k wr) (hb : Below wr.heap.size wr w') : FitSt F lb c o w k w' := ⟨chain h.b hb, h.f.below hb, h.n⟩
set_option maxRecDepth 100000 in
theorem cFit_any (F : Frm) (lb c : Nat) (o : Option Nat) (B : Int) (w : World) (h : FrAt F w lb c o) (hB : B = (F.B : Int)) :
    Calls Tryz.prog 45 #[.agg #[.bool F.br, .int .i64 F.Q, .slice (some ⟨lb, 0, none⟩) 512 512, .slice (some ⟨c, 0, none⟩) 21 21, .slice (ahA o) (ahN o) (ahN o)], .int .i64 B] w (FitPost F w) := by
  have HF := Lib.hid h
  have HQ := Lib.hid h.ok.q
  have HBB : RowKit.Hid (B = (F.B : Int)) := hB
  have hb6 : B ≤ 600 ∧ 0 ≤ B := by have := h.ok.b; omega
  clear h hB
  go_enter Tryz.func45, Tryz.ntmps45
  have H0 : RowKit.Hid (FitSt F lb c o w 0 (w.alloc (.cells #[.bool F.br, .int .i64 F.Q, .slice (some ⟨lb, 0, none⟩) 512 512, .slice (some ⟨c, 0, none⟩) 21 21, .slice (ahA o) (ahN o) (ahN o)] 109))) := ⟨Below.alloc_new w _, Cel.new w _ _, fun j hj => by omega⟩
  go_wp2
  generalize (w.alloc (.cells #[.bool F.br, .int .i64 F.Q, .slice (some ⟨lb, 0, none⟩) 512 512, .slice (some ⟨c, 0, none⟩) 21 21, .slice (ahA o) (ahN o) (ahN o)] 109)) = w0 at H0 ⊢
  go_loopw [4, 5, 6, 11] (fun _ _ _ i wr => ∃ k : Nat, k ≤ 32 ∧ i = .int .i64 (k : Int) ∧ RowKit.Hid (FitSt F lb c o w k wr)) (fun _ _ _ i _ => 32 - (intOf i).toNat)
  case atStart => exact ⟨0, by omega, rfl, H0.out⟩
  case round =>
    obtain ⟨k, hk, rfl, H⟩ := hrel
    clear H0
    by_cases hlt : k < 32
    · obtain ⟨d0, d1, d2, d3, d4⟩ := frC_at H.out.f
      have lk : (k : Int) < 32 := by omega
      obtain ⟨n, hn⟩ : ∃ n, n = (bytesE (F.E k)).length := ⟨_, rfl⟩
      have HN : RowKit.Hid ((bytesE (F.E k)).length = n) := hn.symm
      by_cases hle : n ≤ F.B
      · have HI : RowKit.Hid (F.lo = k) := Frm.lo_is ⟨hlt, by rw [← hn]; exact hle, H.out.n⟩
        have lB : (n : Int) ≤ B := by rw [HBB.out]; omega
        clear hn hle
        go_wp2_with (first
          | (go_at_call 76; go_loud (refine (fSteps_any c 21 F.l F.Q k _ (HF.out.l.below H.out.b HF.out.l.lt) HF.out.ok.l HQ.out.1 HQ.out.2 (by omega) (by omega)).mono ?_); rintro e w1 ⟨s, rfl, i1, s1, b1⟩; have HS1 : RowKit.Hid (CutAt w1 s (F.st k)) := i1; have H1 := Lib.hid (H.out.now b1); clear i1 s1 b1; obtain ⟨e0, e1, e2, e3, e4⟩ := frC_at H1.out.f)
          | (go_at_call 77; go_loud (refine (cPay_any F lb c s o k _ (HF.out.below H1.out.b) (by omega) HS1.out).mono ?_); rintro e w2 ⟨r, cp, rfl, i2, b2⟩; have HI2 := Lib.hid i2; have H2 := Lib.hid (H1.out.now b2); have HS2 := Lib.hid (HS1.out.below b2 HS1.out.lt); clear i2 b2; rw [HN.out] at HI2 ⊢; obtain ⟨f0, f1, f2, f3, f4⟩ := frC_at H2.out.f))
        go_ret3
        have e : F.bytes = bytesE (F.E k) := by unfold Frm.bytes; rw [HI.out]
        refine ⟨r, cp, s, by rw [e, HN.out]; rfl, ?_, ?_, H2.out.b⟩
        · rw [e, HN.out]; exact HI2.out
        · unfold Frm.steps; rw [HI.out]; exact HS2.out
      · have HX : RowKit.Hid (∀ j, j < k + 1 → F.B < (bytesE (F.E j)).length) := fun j hj => by
          by_cases e : j = k
          · subst e; omega
          · exact H.out.n j (by omega)
        have lB : ¬ (n : Int) ≤ B := by rw [HBB.out]; omega
        clear hn hle
        go_wp2_with (first
          | (go_at_call 76; go_loud (refine (fSteps_any c 21 F.l F.Q k _ (HF.out.l.below H.out.b HF.out.l.lt) HF.out.ok.l HQ.out.1 HQ.out.2 (by omega) (by omega)).mono ?_); rintro e w1 ⟨s, rfl, i1, s1, b1⟩; have HS1 : RowKit.Hid (CutAt w1 s (F.st k)) := i1; have H1 := Lib.hid (H.out.now b1); clear i1 s1 b1; obtain ⟨e0, e1, e2, e3, e4⟩ := frC_at H1.out.f)
          | (go_at_call 77; go_loud (refine (cPay_any F lb c s o k _ (HF.out.below H1.out.b) (by omega) HS1.out).mono ?_); rintro e w2 ⟨r, cp, rfl, i2, b2⟩; have H2 := Lib.hid (H1.out.now b2); clear i2 b2; rw [HN.out]; obtain ⟨f0, f1, f2, f3, f4⟩ := frC_at H2.out.f))
        go_roundw
        case rel => exact ⟨k + 1, by omega, by go_num, ⟨H2.out.b, H2.out.f, HX.out⟩⟩
        case measure => simp [intOf] <;> omega
    · obtain rfl : k = 32 := by omega
      obtain ⟨l1, l2, l3⟩ := HF.out.ok.loss
      have := H.out.n _ l1
      omega
end Go.Proofs.YtobhoecmmpijgaaGreat

/- What the document's answers for layer 9 give: numbers shaped, lines. -/
namespace Go.Proofs.YtobhoecmmpijgaaGreat
open Go.RowKit
set_option linter.unusedVariables false

set_option maxRecDepth 100000 in
theorem ref9Shape_any (c N cap : Nat) (a : Option Addr) (x : Nat → Int) (w : World) (hC : IFun w c 2 .i64 1025 cosN) (h1 : 1 ≤ N) (h2 : N ≤ 1000) (hx : FnAt w w.heap.size .i64 a N x) (hb : ∀ j, j < N → (x j).natAbs ≤ 2147483647) :
    Calls Tryz.prog 51 #[.slice (some ⟨c, 0, none⟩) 1025 1025, .slice a N cap] w (RowPost .i64 2 N (shapeF N x) w) := by
  obtain ⟨b, off, rfl, hbl, hc⟩ := hx
  have HC := Lib.hid hc
  have HB := Lib.hid hb
  have HT := Lib.hid hC
  have tl := hC.lt
  have hmk : ∀ w : World, (Instr.makeSlice 50 (.int .i64 (N : Int)) (.int .i64 (N : Int))).run Tryz.prog w = .ok (.slice (some ⟨w.heap.size, 0, none⟩) N N) (w.alloc (.cells (madeCells #[.int .i64 0] N) 2)) :=
    fun w => make_zeros (P := Tryz.prog) Tryz.underlying50 info_i64 N (by omega) (by omega) w
  have H0 : RowKit.Hid (IFun (w.alloc (.cells (madeCells #[.int .i64 0] N) 2)) w.heap.size 2 .i64 N (upTo (shapeF N x) (fun _ => 0) 0) ∧ Below w.heap.size w (w.alloc (.cells (madeCells #[.int .i64 0] N) 2))) :=
    ⟨IFun.ext (IFun.zeros w 2 .i64 N) fun j _ => (upTo_start (shapeF N x) (fun _ => 0) j).symm, Below.alloc_new w _⟩
  clear hc hb hC
  go_enter Tryz.func51, Tryz.ntmps51
  go_wp2
  clear hmk
  generalize hg : w.heap.size = g at H0 hbl tl ⊢
  generalize (w.alloc (.cells (madeCells #[.int .i64 0] N) 2)) = w1 at H0 ⊢
  go_loopw [7] (fun i wr => ∃ k : Nat, k ≤ N ∧ i = .int .i64 (k : Int) ∧ RowKit.Hid (IFun wr g 2 .i64 N (upTo (shapeF N x) (fun _ => 0) k) ∧ Below g w wr)) (fun i _ => N - (intOf i).toNat)
  case atStart => exact ⟨0, by omega, rfl, H0.out⟩
  case round =>
    obtain ⟨k, hk, rfl, HI⟩ := hrel
    clear H0
    by_cases hlt : k < N
    · obtain ⟨m, hm⟩ : ∃ m, m = N - 1 - k := ⟨_, rfl⟩
      have k1 := (HI.out.2.cell (p := ⟨b, off + k, none⟩) hbl).trans (HC.out k hlt)
      have o1 := HI.out.1.cell (j := k) (by omega)
      have f1 := HI.out.1.frozen k
      obtain ⟨R, hR⟩ : ∃ R : Int → Int, R = riseP := ⟨_, rfl⟩
      have HX : RowKit.Hid (∀ (z : Int), 0 ≤ z → z ≤ 1000 → Calls Tryz.prog 87 #[.slice (some ⟨c, 0, none⟩) 1025 1025, .int .i64 z] wr fun e w' => e = .returned (.int .i64 (R z)) ∧ wr = w') := fun z h0 h1 => by
        rw [hR]
        exact ref04Rise_any c z wr (HT.out.below HI.out.2 tl) (by omega) (by omega)
      have hs : slopeF N k = if R (m : Int) < R (k : Int) then R (m : Int) else R (k : Int) := by rw [hm, hR]; rfl
      have r1 : 0 ≤ R (k : Int) ∧ R (k : Int) ≤ 16777216 := by rw [hR]; exact riseP_bd (k : Int) (by omega)
      have r2 : 0 ≤ R (m : Int) ∧ R (m : Int) ≤ 16777216 := by rw [hR]; exact riseP_bd (m : Int) (by omega)
      obtain ⟨s0, s1⟩ := slopeF_bd N k
      have hx := HB.out k hlt
      obtain ⟨Y, hY⟩ : ∃ Y, Y = x k * slopeF N k := ⟨_, rfl⟩
      have hYb : Y.natAbs ≤ 2147483647 * 16777216 := by rw [hY]; exact mul_abs hx (by omega)
      have HS : RowKit.Hid (IFun (wr.setCell ⟨g, k, none⟩ (.int .i64 (shapeF N x k))) g 2 .i64 N (upTo (shapeF N x) (fun _ => 0) (k + 1)) ∧ Below g w (wr.setCell ⟨g, k, none⟩ (.int .i64 (shapeF N x k)))) :=
        ⟨IFun.ext (HI.out.1.set (j := k) (by omega) (shapeF N x k)) fun j _ => upTo_next _ _ k j, Below.setCell (p := ⟨g, k, none⟩) HI.out.2 (Nat.le_refl _) _⟩
      have HR : RowKit.Hid (rndP Y 24 = shapeF N x k) := by show _ = _; rw [hY]; rfl
      have e1 : (N : Int) - 1 - (k : Int) = (m : Int) := by omega
      clear hm HI hR hbl
      generalize shapeF N x k = y at HS HR
      generalize slopeF N k = sl at hs hY s0 s1
      generalize x k = xk at k1 hx hY
      generalize upTo (shapeF N x) (fun _ => 0) k k = old at o1
      have l1 : (k : Int) < (N : Int) := by omega
      have x0 : -2147483647 ≤ xk := by omega
      have x1 : xk ≤ 2147483647 := by omega
      have y0 : -36028797018963968 ≤ Y := by omega
      have y1 : Y ≤ 36028797018963968 := by omega
      clear hx hYb
      by_cases hv : R (m : Int) < R (k : Int)
      · rw [if_pos hv] at hs
        have hYe : xk * R (m : Int) = Y := by rw [hY, hs]
        clear hY hs
        go_wp2_with (first | (go_at_call 87; refine (HX.out _ (by omega) (by omega)).mono ?_; rintro e w' ⟨rfl, rfl⟩) | (go_at_call 88; refine (refRound_any Y 24 _ (by omega) (by omega)).mono ?_; rintro e w' ⟨rfl, rfl⟩; rw [HR.out]))
        go_roundw
        case rel => exact ⟨k + 1, by omega, by go_num, HS.out⟩
        case measure => simp [intOf] <;> omega
      · rw [if_neg hv] at hs
        have hYe : xk * R (k : Int) = Y := by rw [hY, hs]
        clear hY hs
        go_wp2_with (first | (go_at_call 87; refine (HX.out _ (by omega) (by omega)).mono ?_; rintro e w' ⟨rfl, rfl⟩) | (go_at_call 88; refine (refRound_any Y 24 _ (by omega) (by omega)).mono ?_; rintro e w' ⟨rfl, rfl⟩; rw [HR.out]))
        go_roundw
        case rel => exact ⟨k + 1, by omega, by go_num, HS.out⟩
        case measure => simp [intOf] <;> omega
    · obtain rfl : k = N := by omega
      have Z : RowKit.Hid (IFun wr g 2 .i64 k (shapeF k x) ∧ Below g w wr) := ⟨IFun.ext HI.out.1 fun i hi => upTo_end _ _ k i hi, HI.out.2⟩
      go_wp2
      go_ret
      exact ⟨g, rfl, Z.out.1, by omega, by rw [hg]; exact Z.out.2⟩

set_option maxRecDepth 100000 in
theorem ref9Lines_long (c cap : Nat) (a : Option Addr) (all : Nat → Int) (w : World) (hC : IFun w c 2 .i64 1025 cosN) (ha : FnAt w w.heap.size .i64 a 640 all) (hb : ∀ j, j < 640 → (all j).natAbs ≤ 524288) :
    Calls Tryz.prog 23 #[.slice (some ⟨c, 0, none⟩) 1025 1025, .slice a 640 cap, .bool false] w (RowPost .i64 2 512 (linesF false all) w) := by
  have HB := Lib.hid hb
  have HX0 := Lib.hid (IFun.zeros w 2 .i64 1024)
  have HB0 := Lib.hid (Below.alloc_new w (.cells (madeCells #[.int .i64 0] 1024) 2))
  have HC0 := Lib.hid (hC.below HB0.out hC.lt)
  have HCl := Lib.hid hC.lt
  have HA0 := Lib.hid (ha.now HB0.out)
  have hmk : ∀ w : World, (Instr.makeSlice 50 (.int .i64 1024) (.int .i64 1024)).run Tryz.prog w = .ok (.slice (some ⟨w.heap.size, 0, none⟩) 1024 1024) (w.alloc (.cells (madeCells #[.int .i64 0] 1024) 2)) :=
    fun w => make_zeros (P := Tryz.prog) Tryz.underlying50 info_i64 1024 (by decide) (by decide) w
  clear hC ha hb
  generalize madeCells #[Value.int .i64 0] 1024 = mc at HX0 HB0 HC0 HA0 hmk
  go_enter Tryz.func23, Tryz.ntmps23
  go_wp2_with (go_at_call 51; go_loud (refine (ref9Shape_any c 640 cap a all _ HC0.out (by decide) (by decide) HA0.out (fun j hj => by have := HB.out j hj; omega)).mono ?_); rintro e w3 ⟨g3, rfl, i3, s3, z3⟩; have HI3 := Lib.hid i3; have HN3 : RowKit.Hid (w.heap.size < g3) := Nat.lt_of_lt_of_le HX0.out.lt s3; have HX3 : RowKit.Hid (IFun w3 w.heap.size 2 .i64 1024 (cpyF (fun _ => 0) (shapeF 640 all) 192 0)) := IFun.ext (HX0.out.below z3 HX0.out.lt) fun j _ => (if_neg (by omega)).symm; have HC3 := Lib.hid (HC0.out.below z3 HC0.out.lt); have HB3 := Lib.hid (chain HB0.out z3); clear i3 s3 z3)
  clear hmk HX0 HC0 HA0
  go_loopw [9] (fun i wr => ∃ k : Nat, k ≤ 640 ∧ i = .int .i64 (k : Int) ∧ RowKit.Hid (IFun wr w.heap.size 2 .i64 1024 (cpyF (fun _ => 0) (shapeF 640 all) 192 k) ∧ IFun wr g3 2 .i64 640 (shapeF 640 all) ∧ IFun wr c 2 .i64 1025 cosN ∧ Below w.heap.size w wr)) (fun i _ => 640 - (intOf i).toNat)
  case atStart => exact ⟨0, by omega, rfl, HX3.out, HI3.out, HC3.out, HB3.out⟩
  case round =>
    obtain ⟨k, hk, rfl, HJ⟩ := hrel
    clear HX3 HI3
    by_cases hlt : k < 640
    · obtain ⟨P, hP⟩ : ∃ P, P = 192 + k := ⟨_, rfl⟩
      have eP : 192 + (k : Int) = (P : Int) := by omega
      have k1 := HJ.out.2.1.cell hlt
      have o1 := HJ.out.1.cell (j := P) (by omega)
      have f1 := HJ.out.1.frozen P
      have HS : RowKit.Hid (IFun (wr.setCell ⟨w.heap.size, P, none⟩ (.int .i64 (shapeF 640 all k))) w.heap.size 2 .i64 1024 (cpyF (fun _ => 0) (shapeF 640 all) 192 (k + 1)) ∧ IFun (wr.setCell ⟨w.heap.size, P, none⟩ (.int .i64 (shapeF 640 all k))) g3 2 .i64 640 (shapeF 640 all) ∧ IFun (wr.setCell ⟨w.heap.size, P, none⟩ (.int .i64 (shapeF 640 all k))) c 2 .i64 1025 cosN ∧ Below w.heap.size w (wr.setCell ⟨w.heap.size, P, none⟩ (.int .i64 (shapeF 640 all k)))) := by
        have hn := HN3.out
        have hc := HCl.out
        refine ⟨IFun.ext (HJ.out.1.set (j := P) (by omega) (shapeF 640 all k)) fun i _ => ?_, HJ.out.2.1.far (by show g3 ≠ w.heap.size; omega) _, HJ.out.2.2.1.far (by show c ≠ w.heap.size; omega) _, HJ.out.2.2.2.setCell (Nat.le_refl _) _⟩
        unfold cpyF
        by_cases e : i = P
        · rw [if_pos e, if_pos (by omega), show i - 192 = k by omega]
        · rw [if_neg e]
          by_cases d : 192 ≤ i ∧ i < 192 + k
          · rw [if_pos d, if_pos (by omega)]
          · rw [if_neg d, if_neg (by omega)]
      generalize shapeF 640 all k = x at k1 HS
      generalize cpyF (fun _ => 0) (shapeF 640 all) 192 k P = old at o1
      have l1 : (k : Int) < 640 := by omega
      have l2 : (P : Int) < 1024 := by omega
      clear HJ hP
      go_wp2
      go_roundw
      case rel => exact ⟨k + 1, by omega, by go_num, HS.out⟩
      case measure => simp [intOf] <;> omega
    · have l1 : ¬ (k : Int) < 640 := by omega
      have HXe : RowKit.Hid (IFun wr w.heap.size 2 .i64 1024 (winF all)) := IFun.ext HJ.out.1 fun i _ => by rw [show k = 640 by omega]; exact win_all all i
      have hWb : RowKit.Hid (∀ j, j < 1024 → -1048576 ≤ winF all j ∧ winF all j ≤ 1048575) := fun j _ => by have := winF_abs HB.out j; omega
      have HBw := Lib.hid HJ.out.2.2.2
      have HCw := Lib.hid HJ.out.2.2.1
      clear HJ
      go_wp2_with (go_at_call 52; go_loud (refine (refForward_any c 512 1024 1024 _ (winF all) _ HCw.out (.inr rfl) rfl (FnAt.of_ifun HXe.out) hWb.out).mono ?_); rintro e w5 ⟨g5, rfl, i5, s5, z5⟩; have HI5 := Lib.hid i5; have S5 := Lib.hid s5; have HB5 := Lib.hid (chain HBw.out z5); clear i5 s5 z5)
      go_ret
      exact ⟨g5, rfl, by rw [linesF_long]; exact HI5.out, Nat.le_trans HBw.out.size S5.out, HB5.out⟩
end Go.Proofs.YtobhoecmmpijgaaGreat

/- What the document's answers for layer 9 give: lines, brief; sound. -/
namespace Go.Proofs.YtobhoecmmpijgaaGreat
open Go.RowKit
set_option linter.unusedVariables false

set_option maxRecDepth 100000 in
theorem ref9Lines_brief (c cap : Nat) (a : Option Addr) (all : Nat → Int) (w : World) (hC : IFun w c 2 .i64 1025 cosN) (ha : FnAt w w.heap.size .i64 a 640 all) (hb : ∀ j, j < 640 → (all j).natAbs ≤ 524288) (hc : 640 ≤ cap) (hc' : cap ≤ 9223372036854775807) :
    Calls Tryz.prog 23 #[.slice (some ⟨c, 0, none⟩) 1025 1025, .slice a 640 cap, .bool true] w (RowPost .i64 2 512 (linesF true all) w) := by
  have HB := Lib.hid hb
  obtain ⟨b, off, rfl, _, _⟩ := id ha
  have HX0 : RowKit.Hid (IFun (w.alloc (.cells (madeCells #[.int .i64 0] 512) 2)) w.heap.size 2 .i64 512 (briefA all 0 0)) := IFun.ext (IFun.zeros w 2 .i64 512) fun j _ => (briefA_start all j).symm
  have HB0 := Lib.hid (Below.alloc_new w (.cells (madeCells #[.int .i64 0] 512) 2))
  have HC0 := Lib.hid (hC.below HB0.out hC.lt)
  have HCl := Lib.hid hC.lt
  have HA := Lib.hid ha
  have hmk : ∀ w : World, (Instr.makeSlice 50 (.int .i64 512) (.int .i64 512)).run Tryz.prog w = .ok (.slice (some ⟨w.heap.size, 0, none⟩) 512 512) (w.alloc (.cells (madeCells #[.int .i64 0] 512) 2)) :=
    fun w => make_zeros (P := Tryz.prog) Tryz.underlying50 info_i64 512 (by decide) (by decide) w
  clear hC ha hb
  generalize madeCells #[Value.int .i64 0] 512 = mc at HX0 HB0 HC0 hmk
  go_enter Tryz.func23, Tryz.ntmps23
  go_wp2
  clear hmk
  generalize w.alloc (.cells mc 2) = w2 at HX0 HB0 HC0 ⊢
  go_loopw [11] (fun i wr => ∃ m : Nat, m ≤ 4 ∧ i = .int .i64 (m : Int) ∧ RowKit.Hid (IFun wr w.heap.size 2 .i64 512 (briefA all m 0) ∧ IFun wr c 2 .i64 1025 cosN ∧ Below w.heap.size w wr)) (fun i _ => 4 - (intOf i).toNat)
  case atStart => exact ⟨0, by omega, rfl, HX0.out, HC0.out, HB0.out⟩
  case round =>
    obtain ⟨m, hm, rfl, HI⟩ := hrel
    clear HX0 HC0 HB0
    by_cases hlt : m < 4
    · obtain ⟨A, hA⟩ : ∃ A, A = 128 * m := ⟨_, rfl⟩
      obtain ⟨D, hD⟩ : ∃ D, D = 128 * m + 256 := ⟨_, rfl⟩
      have e1 : 128 * (m : Int) = (A : Int) := by omega
      have e2 : (A : Int) + 256 = (D : Int) := by omega
      have b1 : (0 : Int) ≤ (A : Int) := by omega
      have b2 : (A : Int) ≤ (D : Int) := by omega
      have b3 : (D : Int) ≤ (cap : Int) := by omega
      have l1 : (m : Int) < 4 := by omega
      have HAr : RowKit.Hid (FnAt wr wr.heap.size .i64 (some ⟨b, off + A, none⟩) 256 (fun j => all (128 * m + j))) := ((HA.out.now HI.out.2.2).sub A 256 (by omega)).ext fun j _ => by rw [show A + j = 128 * m + j by omega]
      have q1 : D - A = 256 := by omega
      have q2 : ¬ cap = A := by omega
      clear hA hD
      go_wp2_with (first | (go_at_call 51; go_loud (refine (ref9Shape_any c 256 _ (some ⟨b, off + A, none⟩) (fun j => all (128 * m + j)) wr HI.out.2.1 (by decide) (by decide) HAr.out (fun j hj => by have := HB.out (128 * m + j) (by omega); omega)).mono ?_); rintro e w3 ⟨G3, rfl, i3, s3, z3⟩; have HI3 : RowKit.Hid (IFun w3 G3 2 .i64 256 (blkF all m)) := i3; have HX3 := Lib.hid (HI.out.1.below z3 HI.out.1.lt); have HC3 := Lib.hid (HI.out.2.1.below z3 HI.out.2.1.lt); have HB3 := Lib.hid (chain HI.out.2.2 z3); clear i3 s3 z3) | (go_at_call 52; go_loud (refine (refForward_any c 128 256 256 _ (blkF all m) w3 HC3.out (.inl rfl) rfl (FnAt.of_ifun HI3.out) (fun j hj => by have := blkF_abs HB.out hlt hj; omega)).mono ?_); rintro e w5 ⟨g5, rfl, i5, s5, z5⟩; have HI5 := Lib.hid i5; have HS5 : RowKit.Hid (w.heap.size < g5) := Nat.lt_of_lt_of_le HX3.out.lt s5; have HX5 := Lib.hid (HX3.out.below z5 HX3.out.lt); have HC5 := Lib.hid (HC3.out.below z5 HC3.out.lt); have HB5 := Lib.hid (chain HB3.out z5); clear i5 s5 z5))
      clear HX3 HC3 HB3 HI3 HI HAr b1 b2 b3 e1 e2 q1 q2
      go_loopw [13] (fun i wx => ∃ k : Nat, k ≤ 128 ∧ i = .int .i64 (k : Int) ∧ RowKit.Hid (IFun wx w.heap.size 2 .i64 512 (briefA all m k) ∧ IFun wx c 2 .i64 1025 cosN ∧ Below w.heap.size w wx ∧ IFun wx g5 2 .i64 128 (fwdF 128 (blkF all m)))) (fun i _ => 128 - (intOf i).toNat)
      case atStart => exact ⟨0, by omega, rfl, HX5.out, HC5.out, HB5.out, HI5.out⟩
      case round =>
        obtain ⟨k, hk, rfl, HJ⟩ := hrel
        clear HX5 HC5 HB5 HI5
        by_cases hlk : k < 128
        · obtain ⟨P, hP⟩ : ∃ P, P = 4 * k + m := ⟨_, rfl⟩
          have eP : 4 * (k : Int) + (m : Int) = (P : Int) := by omega
          have P1 : P < 512 := by omega
          have k1 := HJ.out.2.2.2.cell hlk
          have o1 := HJ.out.1.cell (j := P) P1
          have f1 := HJ.out.1.frozen P
          have HS : RowKit.Hid (IFun (wr.setCell ⟨w.heap.size, P, none⟩ (.int .i64 (fwdF 128 (blkF all m) k))) w.heap.size 2 .i64 512 (briefA all m (k + 1)) ∧ IFun (wr.setCell ⟨w.heap.size, P, none⟩ (.int .i64 (fwdF 128 (blkF all m) k))) c 2 .i64 1025 cosN ∧ Below w.heap.size w (wr.setCell ⟨w.heap.size, P, none⟩ (.int .i64 (fwdF 128 (blkF all m) k))) ∧ IFun (wr.setCell ⟨w.heap.size, P, none⟩ (.int .i64 (fwdF 128 (blkF all m) k))) g5 2 .i64 128 (fwdF 128 (blkF all m))) :=
            ⟨IFun.ext (HJ.out.1.set (j := P) P1 (fwdF 128 (blkF all m) k)) fun i _ => briefA_next all hlt hP i, HJ.out.2.1.far (by have := HCl.out; show c ≠ w.heap.size; omega) _, HJ.out.2.2.1.setCell (Nat.le_refl _) _, HJ.out.2.2.2.far (by have := HS5.out; show g5 ≠ w.heap.size; omega) _⟩
          generalize fwdF 128 (blkF all m) k = x at k1 HS
          generalize briefA all m k P = old at o1
          have l2 : (k : Int) < 128 := by omega
          have l3 : (P : Int) < 512 := by omega
          clear HJ hP
          go_wp2
          go_roundw
          case rel => exact ⟨k + 1, by omega, by go_num, HS.out⟩
          case measure => simp [intOf] <;> omega
        · have l2 : ¬ (k : Int) < 128 := by omega
          have HS : RowKit.Hid (IFun wr w.heap.size 2 .i64 512 (briefA all (m + 1) 0) ∧ IFun wr c 2 .i64 1025 cosN ∧ Below w.heap.size w wr) :=
            ⟨IFun.ext HJ.out.1 fun i hi => by rw [show k = 128 by omega]; exact briefA_block all m i hi, HJ.out.2.1, HJ.out.2.2.1⟩
          clear HJ
          go_wp2
          go_roundw
          case rel => exact ⟨m + 1, by omega, by go_num, HS.out⟩
          case measure => simp [intOf] <;> omega
    · obtain rfl : m = 4 := by omega
      have Z : RowKit.Hid (IFun wr w.heap.size 2 .i64 512 (linesF true all) ∧ Below w.heap.size w wr) := ⟨IFun.ext HI.out.1 fun i _ => briefA_end all i, HI.out.2.2⟩
      go_wp2
      go_ret
      exact ⟨_, rfl, Z.out.1, Nat.le_refl _, Z.out.2⟩
theorem ref9Lines_any (c cap : Nat) (a : Option Addr) (all : Nat → Int) (b : Bool) (w : World) (hC : IFun w c 2 .i64 1025 cosN) (ha : FnAt w w.heap.size .i64 a 640 all) (hb : ∀ j, j < 640 → (all j).natAbs ≤ 524288) (hc : 640 ≤ cap) (hc' : cap ≤ 9223372036854775807) :
    Calls Tryz.prog 23 #[.slice (some ⟨c, 0, none⟩) 1025 1025, .slice a 640 cap, .bool b] w (RowPost .i64 2 512 (linesF b all) w) := by
  cases b with
  | false => exact ref9Lines_long c cap a all w hC ha hb
  | true => exact ref9Lines_brief c cap a all w hC ha hb hc hc'

set_option maxRecDepth 100000 in
theorem ref9Sound_long (c cap : Nat) (a : Option Addr) (l : Nat → Int) (w : World) (hC : IFun w c 2 .i64 1025 cosN) (ha : FnAt w w.heap.size .i64 a 512 l) (hb : ∀ j, j < 512 → -33554432 ≤ l j ∧ l j ≤ 33554431) :
    Calls Tryz.prog 131 #[.slice (some ⟨c, 0, none⟩) 1025 1025, .slice a 512 cap, .bool false] w (RowPost .i64 2 640 (soundF false l) w) := by
  have HB := Lib.hid hb
  have HC := Lib.hid hC
  have HA := Lib.hid ha
  have HXb : RowKit.Hid (∀ j, j < 640 → (backF 512 l (192 + j)).natAbs ≤ 2147483647) := fun j hj => by
    have := backF_512 (l := l) (fun j hj => by have := hb j hj; omega) (i := 192 + j) (by omega); omega
  clear hC ha hb
  go_enter Tryz.func131, Tryz.ntmps131
  go_wp2_with (first | (go_at_call 162; go_loud (refine (refBack_any c 512 1024 cap a l w HC.out (.inr rfl) rfl HA.out HB.out).mono ?_); rintro e w3 ⟨g3, rfl, i3, s3, z3⟩; have HI3 := Lib.hid i3; have HC3 := Lib.hid (HC.out.below z3 HC.out.lt); have HB3 := Lib.hid z3; clear i3 s3 z3) | (go_at_call 51; go_loud (refine (ref9Shape_any c 640 _ (some ⟨g3, 192, none⟩) (fun j => backF 512 l (192 + j)) w3 HC3.out (by decide) (by decide) ⟨g3, 192, rfl, HI3.out.lt, fun j hj => HI3.out.cell (by omega)⟩ HXb.out).mono ?_); rintro e w5 ⟨g5, rfl, i5, s5, z5⟩; have HI5 : RowKit.Hid (IFun w5 g5 2 .i64 640 (soundF false l)) := i5; have HS5 : RowKit.Hid (w.heap.size ≤ g5) := Nat.le_trans HB3.out.size s5; have HB5 := Lib.hid (chain HB3.out z5); clear i5 s5 z5))
  go_ret
  exact ⟨g5, rfl, HI5.out, HS5.out, HB5.out⟩
end Go.Proofs.YtobhoecmmpijgaaGreat
