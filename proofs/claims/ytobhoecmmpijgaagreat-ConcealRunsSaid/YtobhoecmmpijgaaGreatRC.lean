/- Plain facts, and what functions give, for the proofs of this seat: several texts in one, each with its own first remark. -/
import Derived.Test.YtobhoecmmpijgaaGreatRc
import Derived.Test.YtobhoecmmpijgaaGreatRd
import Derived.Test.YtobhoecmmpijgaaGreatRr
import Derived.Lib.AppendZerosOnto

/- What the document's answers for layer 8 give: folded, unfolded, turned, forward, back. -/
namespace Go.Proofs.YtobhoecmmpijgaaGreat
open Go.RowKit
set_option linter.unusedVariables false

set_option maxRecDepth 100000 in
theorem refFold_any (h n N cap : Nat) (a : Option Addr) (x : Nat → Int) (w : World) (h1 : 1 ≤ h) (h2 : h ≤ 256) (hn : n = 2 * h) (hN : N = 4 * h) (hx : FnAt w w.heap.size .i64 a N x) (hb : ∀ j, j < N → -2147483647 ≤ x j ∧ x j ≤ 2147483647) :
    Calls Tryz.prog 90 #[.slice a N cap] w (RowPost .i64 2 n (foldF n x) w) := by
  have HN := Lib.hid hn
  obtain ⟨b, off, rfl, hbl, hc⟩ := hx
  have HC := Lib.hid hc
  have HB := Lib.hid hb
  clear hc hb
  have hmk : ∀ w : World, (Instr.makeSlice 50 (.int .i64 (n : Int)) (.int .i64 (n : Int))).run Tryz.prog w = .ok (.slice (some ⟨w.heap.size, 0, none⟩) n n) (w.alloc (.cells (madeCells #[.int .i64 0] n) 2)) :=
    fun w => make_zeros (P := Tryz.prog) Tryz.underlying50 info_i64 n (by omega) (by omega) w
  have H0 : RowKit.Hid (IFun (w.alloc (.cells (madeCells #[.int .i64 0] n) 2)) w.heap.size 2 .i64 n (foldA h x 0) ∧ Below w.heap.size w (w.alloc (.cells (madeCells #[.int .i64 0] n) 2))) :=
    ⟨IFun.ext (IFun.zeros w 2 .i64 n) fun j _ => (foldA_start x j).symm, Below.alloc_new w _⟩
  have q1 : (N : Int) / 2 = (n : Int) := by omega
  have q2 : (N : Int).tdiv 2 = (n : Int) := by rw [Int.tdiv_eq_ediv_of_nonneg (by omega)]; exact q1
  have q3 : (n : Int) / 2 = (h : Int) := by omega
  have q4 : (n : Int).tdiv 2 = (h : Int) := by rw [Int.tdiv_eq_ediv_of_nonneg (by omega)]; exact q3
  have n1 : n ≤ 2 * h := by omega
  have n2 : 2 * h ≤ n := by omega
  have N1 : N ≤ 4 * h := by omega
  have N2 : 4 * h ≤ N := by omega
  clear hn hN
  go_enter Tryz.func90, Tryz.ntmps90
  go_wp2
  clear hmk q1 q2 q3 q4
  generalize hg : w.heap.size = g at H0 hbl ⊢
  generalize (w.alloc (.cells (madeCells #[.int .i64 0] n) 2)) = w1 at H0 ⊢
  go_loopw [6] (fun i wr => ∃ q : Nat, q ≤ h ∧ i = .int .i64 (q : Int) ∧ RowKit.Hid (IFun wr g 2 .i64 n (foldA h x q) ∧ Below g w wr)) (fun i _ => h - (intOf i).toNat)
  case atStart => exact ⟨0, by omega, rfl, H0.out⟩
  case round =>
    obtain ⟨q, hq, rfl, HI⟩ := hrel
    clear H0
    by_cases hlt : q < h
    · obtain ⟨p1, hp1⟩ : ∃ p1, p1 + 1 + q = 3 * h := ⟨3 * h - 1 - q, by omega⟩
      obtain ⟨p2, hp2⟩ : ∃ p2, p2 = 3 * h + q := ⟨_, rfl⟩
      obtain ⟨p3, hp3⟩ : ∃ p3, p3 = h + q := ⟨_, rfl⟩
      obtain ⟨p4, hp4⟩ : ∃ p4, p4 + 1 + q = 2 * h := ⟨2 * h - 1 - q, by omega⟩
      have k1 := HC.out p1 (by omega)
      have k2 := HC.out p2 (by omega)
      have k3 := HC.out q (by omega)
      have k4 := HC.out p4 (by omega)
      obtain ⟨x10, x11⟩ := HB.out p1 (by omega)
      obtain ⟨x20, x21⟩ := HB.out p2 (by omega)
      obtain ⟨x30, x31⟩ := HB.out q (by omega)
      obtain ⟨x40, x41⟩ := HB.out p4 (by omega)
      have o1 := HI.out.1.cell (j := q) (by omega)
      have f1 := HI.out.1.frozen q
      have E1 := Lib.hid (foldF_low x hlt hp1 hp2)
      have E2 := Lib.hid (foldF_high x hlt hp3 hp4)
      have HV1 : RowKit.Hid (IFun ((wr.setCell ⟨g, q, none⟩ (.int .i64 (foldF (2 * h) x q))).drew) g 2 .i64 n (fun i => if i = q then foldF (2 * h) x q else foldA h x q i) ∧ Below g w ((wr.setCell ⟨g, q, none⟩ (.int .i64 (foldF (2 * h) x q))).drew)) :=
        ⟨(HI.out.1.set (j := q) (by omega) (foldF (2 * h) x q)).drewN 1, Below.drewN' (Below.setCell (p := ⟨g, q, none⟩) HI.out.2 (Nat.le_refl _) _) 1⟩
      have B2 := HI.out.2
      generalize hY1 : foldF (2 * h) x q = Y1 at HV1 E1
      have c1 := (B2.cell (p := ⟨b, off + p1, none⟩) hbl).trans k1
      have c2 := (B2.cell (p := ⟨b, off + p2, none⟩) hbl).trans k2
      have HYb : RowKit.Hid (Y1 = -(x p1) - x p2) := E1.out
      clear B2 HI E1
      generalize x p1 = y1 at c1 x10 x11 HYb k1
      generalize x p2 = y2 at c2 x20 x21 HYb k2
      generalize foldA h x q q = z1 at o1
      have e1 : 3 * (h : Int) - 1 - (q : Int) = (p1 : Int) := by omega
      have e2 : 3 * (h : Int) + (q : Int) = (p2 : Int) := by omega
      have e3 : (h : Int) + (q : Int) = (p3 : Int) := by omega
      have e4 : (n : Int) - 1 - (q : Int) = (p4 : Int) := by have := HN.out; omega
      have l1 : (p1 : Int) < (N : Int) := by omega
      have l2 : (p2 : Int) < (N : Int) := by omega
      have l3 : (p3 : Int) < (n : Int) := by have := HN.out; omega
      have l4 : (p4 : Int) < (N : Int) := by omega
      have l5 : (q : Int) < (n : Int) := by have := HN.out; omega
      have l6 : (q : Int) < (N : Int) := by omega
      have g1 : IntKind.i64.wrap (3 * (h : Int)) = 3 * (h : Int) := IntWalk.i64_in _ (by omega)
      have g2 : IntKind.i64.wrap (3 * (h : Int) - 1) = 3 * (h : Int) - 1 := IntWalk.i64_in _ (by omega)
      have g3 : IntKind.i64.wrap (p1 : Int) = (p1 : Int) := IntWalk.i64_in _ (by omega)
      have g4 : IntKind.i64.wrap (p2 : Int) = (p2 : Int) := IntWalk.i64_in _ (by omega)
      have g5 : IntKind.i64.wrap (p3 : Int) = (p3 : Int) := IntWalk.i64_in _ (by omega)
      have g6 : IntKind.i64.wrap (p4 : Int) = (p4 : Int) := IntWalk.i64_in _ (by omega)
      have g7 : IntKind.i64.wrap ((n : Int) - 1) = (n : Int) - 1 := IntWalk.i64_in _ (by omega)
      have g8 : IntKind.i64.wrap (-y1) = -y1 := IntWalk.i64_in _ (by omega)
      have g9 : IntKind.i64.wrap (-y1 - y2) = -y1 - y2 := IntWalk.i64_in _ (by omega)
      have HP3 := Lib.hid hp3
      clear hp1 hp2 hp3 hp4
      rw [HYb.out] at HV1
      go_wp2
      go_still_tail 20, (by kernel_rfl)
      repeat still_step
      change wpList _ _ _ _ _ wr.drew
      go_wp2
      clear c1 c2 o1 f1
      generalize (wr.setCell ⟨g, q, none⟩ (Value.int IntKind.i64 (-y1 - y2))).drew = w2 at HV1 ⊢
      have c3 := (HV1.out.2.cell (p := ⟨b, off + q, none⟩) hbl).trans k3
      have c4 := (HV1.out.2.cell (p := ⟨b, off + p4, none⟩) hbl).trans k4
      have o2 := HV1.out.1.cell (j := p3) (by omega)
      have f2 := HV1.out.1.frozen p3
      have HV : RowKit.Hid (IFun ((w2.setCell ⟨g, p3, none⟩ (.int .i64 (foldF (2 * h) x p3))).drew) g 2 .i64 n (foldA h x (q + 1)) ∧ Below g w ((w2.setCell ⟨g, p3, none⟩ (.int .i64 (foldF (2 * h) x p3))).drew)) := by
        refine ⟨IFun.ext ((HV1.out.1.set (j := p3) (by omega) (foldF (2 * h) x p3)).drewN 1) fun i _ => ?_, Below.drewN' (Below.setCell (p := ⟨g, p3, none⟩) HV1.out.2 (Nat.le_refl _) _) 1⟩
        have := foldA_next x hlt HP3.out i
        rw [hY1, HYb.out] at this
        exact this
      rw [E2.out] at HV
      clear HV1 HYb hY1 E2
      generalize x q = y3 at c3 k3 x30 x31 HV
      generalize x p4 = y4 at c4 k4 x40 x41 HV
      generalize (if p3 = q then _ else _) = z2 at o2
      have g10 : IntKind.i64.wrap (y3 - y4) = y3 - y4 := IntWalk.i64_in _ (by omega)
      go_still_tail 17, (by kernel_rfl)
      repeat still_step
      change wpList _ _ _ _ _ w2.drew
      go_wp2
      go_roundw
      case rel => exact ⟨q + 1, by omega, by go_num, HV.out⟩
      case measure => simp [intOf] <;> omega
    · obtain rfl : q = h := by omega
      have Z : RowKit.Hid (IFun wr g 2 .i64 n (foldF n x) ∧ Below g w wr) := ⟨IFun.ext HI.out.1 fun i hi => by rw [HN.out]; exact foldA_end x i (by have := HN.out; omega), HI.out.2⟩
      go_wp2
      go_ret
      exact ⟨g, rfl, Z.out.1, by omega, by rw [hg]; exact Z.out.2⟩
set_option maxRecDepth 100000 in
theorem refUnfold_any (h n N cap : Nat) (a : Option Addr) (u : Nat → Int) (w : World) (h1 : 1 ≤ h) (h2 : h ≤ 256) (hn : n = 2 * h) (hN : N = 4 * h) (hx : FnAt w w.heap.size .i64 a n u) (hb : ∀ j, j < n → -2147483647 ≤ u j ∧ u j ≤ 2147483647) :
    Calls Tryz.prog 178 #[.slice a n cap] w (RowPost .i64 2 N (unfoldF n u) w) := by
  have HN := Lib.hid hn
  have HNN := Lib.hid hN
  obtain ⟨b, off, rfl, hbl, hc⟩ := hx
  have HC := Lib.hid hc
  have HB := Lib.hid hb
  clear hc hb
  have hmk : ∀ w : World, (Instr.makeSlice 50 (.int .i64 (N : Int)) (.int .i64 (N : Int))).run Tryz.prog w = .ok (.slice (some ⟨w.heap.size, 0, none⟩) N N) (w.alloc (.cells (madeCells #[.int .i64 0] N) 2)) :=
    fun w => make_zeros (P := Tryz.prog) Tryz.underlying50 info_i64 N (by omega) (by omega) w
  have H0 : RowKit.Hid (IFun (w.alloc (.cells (madeCells #[.int .i64 0] N) 2)) w.heap.size 2 .i64 N (unfA h u 0) ∧ Below w.heap.size w (w.alloc (.cells (madeCells #[.int .i64 0] N) 2))) :=
    ⟨IFun.ext (IFun.zeros w 2 .i64 N) fun j _ => (unfA_start u j).symm, Below.alloc_new w _⟩
  have q1 : 2 * (n : Int) = (N : Int) := by omega
  have q3 : (n : Int) / 2 = (h : Int) := by omega
  have q4 : (n : Int).tdiv 2 = (h : Int) := by rw [Int.tdiv_eq_ediv_of_nonneg (by omega)]; exact q3
  have n1 : n ≤ 2 * h := by omega
  have n2 : 2 * h ≤ n := by omega
  have N1 : N ≤ 4 * h := by omega
  have N2 : 4 * h ≤ N := by omega
  clear hn hN
  go_enter Tryz.func178, Tryz.ntmps178
  go_wp2
  clear hmk q1 q3 q4
  generalize hg : w.heap.size = g at H0 hbl ⊢
  generalize (w.alloc (.cells (madeCells #[.int .i64 0] N) 2)) = w1 at H0 ⊢
  go_loopw [6] (fun i wr => ∃ q : Nat, q ≤ h ∧ i = .int .i64 (q : Int) ∧ RowKit.Hid (IFun wr g 2 .i64 N (unfA h u q) ∧ Below g w wr)) (fun i _ => h - (intOf i).toNat)
  case atStart => exact ⟨0, by omega, rfl, H0.out⟩
  case round =>
    obtain ⟨q, hq, rfl, HI⟩ := hrel
    clear H0
    by_cases hlt : q < h
    · obtain ⟨p, hp⟩ : ∃ p, p = h + q := ⟨_, rfl⟩
      obtain ⟨r2, hr2⟩ : ∃ r2, r2 + 1 + q = 2 * h := ⟨2 * h - 1 - q, by omega⟩
      obtain ⟨r3, hr3⟩ : ∃ r3, r3 + 1 + q = 3 * h := ⟨3 * h - 1 - q, by omega⟩
      obtain ⟨r4, hr4⟩ : ∃ r4, r4 = 3 * h + q := ⟨_, rfl⟩
      have k1 := HC.out p (by omega)
      have k2 := HC.out q (by omega)
      obtain ⟨x10, x11⟩ := HB.out p (by omega)
      obtain ⟨x20, x21⟩ := HB.out q (by omega)
      have E1 := Lib.hid (unf_1 u hlt hp)
      have E2 := Lib.hid (unf_2 u hlt hp hr2)
      have E3 := Lib.hid (unf_3 u hlt hr3)
      have E4 := Lib.hid (unf_4 u hlt hr4)
      have EN := Lib.hid (unfA_next u hlt hr2 hr3 hr4)
      have e1 : (h : Int) + (q : Int) = (p : Int) := by omega
      have e2 : (n : Int) - 1 - (q : Int) = (r2 : Int) := by have := HN.out; omega
      have e3 : 3 * (h : Int) - 1 - (q : Int) = (r3 : Int) := by omega
      have e4 : 3 * (h : Int) + (q : Int) = (r4 : Int) := by omega
      have l1 : (p : Int) < (n : Int) := by have := HN.out; omega
      have l2 : (r2 : Int) < (N : Int) := by omega
      have l3 : (r3 : Int) < (N : Int) := by omega
      have l4 : (r4 : Int) < (N : Int) := by omega
      have l5 : (q : Int) < (n : Int) := by have := HN.out; omega
      have l6 : (q : Int) < (N : Int) := by omega
      have m1 : q ≠ r2 := by omega
      have m2 : q ≠ r3 := by omega
      have m3 : q ≠ r4 := by omega
      have m4 : r2 ≠ r3 := by omega
      have m5 : r2 ≠ r4 := by omega
      have m6 : r3 ≠ r4 := by omega
      have g1 : IntKind.i64.wrap (3 * (h : Int)) = 3 * (h : Int) := IntWalk.i64_in _ (by omega)
      have g2 : IntKind.i64.wrap (3 * (h : Int) - 1) = 3 * (h : Int) - 1 := IntWalk.i64_in _ (by omega)
      have g3 : IntKind.i64.wrap (p : Int) = (p : Int) := IntWalk.i64_in _ (by omega)
      have g4 : IntKind.i64.wrap (r2 : Int) = (r2 : Int) := IntWalk.i64_in _ (by omega)
      have g5 : IntKind.i64.wrap (r3 : Int) = (r3 : Int) := IntWalk.i64_in _ (by omega)
      have g6 : IntKind.i64.wrap (r4 : Int) = (r4 : Int) := IntWalk.i64_in _ (by omega)
      have g7 : IntKind.i64.wrap ((n : Int) - 1) = (n : Int) - 1 := IntWalk.i64_in _ (by omega)
      clear hp hr2 hr3 hr4
      have o1 := HI.out.1.cell (j := q) (by omega)
      have o2 := HI.out.1.cell (j := r2) (by omega)
      have o3 := HI.out.1.cell (j := r3) (by omega)
      have o4 := HI.out.1.cell (j := r4) (by omega)
      have f1 := HI.out.1.frozen q
      have f2 := HI.out.1.frozen r2
      have f3 := HI.out.1.frozen r3
      have f4 := HI.out.1.frozen r4
      have c1 := (HI.out.2.cell (p := ⟨b, off + p, none⟩) hbl).trans k1
      have c2 := (HI.out.2.cell (p := ⟨b, off + q, none⟩) hbl).trans k2
      have HV : RowKit.Hid (IFun ((((wr.setCell ⟨g, q, none⟩ (.int .i64 (unfoldF (2 * h) u q))).setCell ⟨g, r2, none⟩ (.int .i64 (unfoldF (2 * h) u r2))).setCell ⟨g, r3, none⟩ (.int .i64 (unfoldF (2 * h) u r3))).setCell ⟨g, r4, none⟩ (.int .i64 (unfoldF (2 * h) u r4))) g 2 .i64 N (unfA h u (q + 1)) ∧ Below g w ((((wr.setCell ⟨g, q, none⟩ (.int .i64 (unfoldF (2 * h) u q))).setCell ⟨g, r2, none⟩ (.int .i64 (unfoldF (2 * h) u r2))).setCell ⟨g, r3, none⟩ (.int .i64 (unfoldF (2 * h) u r3))).setCell ⟨g, r4, none⟩ (.int .i64 (unfoldF (2 * h) u r4)))) :=
        ⟨IFun.ext ((((HI.out.1.set (j := q) (by omega) _).set (j := r2) (by omega) _).set (j := r3) (by omega) _).set (j := r4) (by omega) _) fun i _ => EN.out i, Below.setCell (p := ⟨g, r4, none⟩) (Below.setCell (p := ⟨g, r3, none⟩) (Below.setCell (p := ⟨g, r2, none⟩) (Below.setCell (p := ⟨g, q, none⟩) HI.out.2 (Nat.le_refl _) _) (Nat.le_refl _) _) (Nat.le_refl _) _) (Nat.le_refl _) _⟩
      rw [E1.out, E2.out, E3.out, E4.out] at HV
      clear HI E1 E2 E3 E4 EN
      generalize u p = y1 at c1 x10 x11 k1 HV
      generalize u q = y2 at c2 x20 x21 k2 HV
      generalize unfA h u q q = z1 at o1
      generalize unfA h u q r2 = z2 at o2
      generalize unfA h u q r3 = z3 at o3
      generalize unfA h u q r4 = z4 at o4
      have b0 : ¬ b = g := by omega
      go_wp2
      go_roundw
      case rel => exact ⟨q + 1, by omega, by go_num, HV.out⟩
      case measure => simp [intOf] <;> omega
    · obtain rfl : q = h := by omega
      have Z : RowKit.Hid (IFun wr g 2 .i64 N (unfoldF n u) ∧ Below g w wr) := ⟨IFun.ext HI.out.1 fun i hi => by rw [HN.out]; exact unfA_end u i (by have := HNN.out; omega), HI.out.2⟩
      go_wp2
      go_ret
      exact ⟨g, rfl, Z.out.1, by omega, by rw [hg]; exact Z.out.2⟩
end Go.Proofs.YtobhoecmmpijgaaGreat

/- What the document's answers for layer 8 give: turned, forward, back. -/
namespace Go.Proofs.YtobhoecmmpijgaaGreat
open Go.RowKit
set_option linter.unusedVariables false

/-! ### Turning -/
theorem odd_prod (j k : Nat) (h : j < 512) (h' : k < 512) : (2 * j + 1) * (2 * k + 1) ≤ 1046529 := by
  have := Nat.mul_le_mul (show 2 * j + 1 ≤ 1023 by omega) (show 2 * k + 1 ≤ 1023 by omega)
  omega
set_option maxRecDepth 100000 in
theorem refTurn_any (c n cap : Nat) (a : Option Addr) (u : Nat → Int) (w : World) (hC : IFun w c 2 .i64 1025 cosN) (hn : n = 128 ∨ n = 512) (hu : FnAt w w.heap.size .i64 a n u) (hb : ∀ j, j < n → -33554432 ≤ u j ∧ u j ≤ 33554432) :
    Calls Tryz.prog 89 #[.slice (some ⟨c, 0, none⟩) 1025 1025, .slice a n cap] w (RowPost .i64 2 n (turnF n u) w) := by
  obtain ⟨b, off, rfl, hbl, hc⟩ := hu
  have HC := Lib.hid hc
  have HG := Lib.hid hC
  have HB := Lib.hid hb
  have Hn := Lib.hid hn
  have gl := hC.lt
  obtain ⟨V, hV⟩ : ∃ V, V = 512 / n := ⟨_, rfl⟩
  have hV1 : V ≤ 4 := by rcases hn with rfl | rfl <;> omega
  have hVd : 512 / (n : Int) = (V : Int) := by rw [hV]; rcases hn with rfl | rfl <;> rfl
  have hVt : (512 : Int).tdiv (n : Int) = (V : Int) := by rw [Int.tdiv_eq_ediv_of_nonneg (by omega)]; exact hVd
  have HV := Lib.hid hV
  have n1 : 1 ≤ n := by omega
  have n2 : n ≤ 512 := by omega
  have n0 : ¬ (n : Int) = 0 := by omega
  have hmk : ∀ w : World, (Instr.makeSlice 50 (.int .i64 (n : Int)) (.int .i64 (n : Int))).run Tryz.prog w = .ok (.slice (some ⟨w.heap.size, 0, none⟩) n n) (w.alloc (.cells (madeCells #[.int .i64 0] n) 2)) :=
    fun w => make_zeros (P := Tryz.prog) Tryz.underlying50 info_i64 n (by omega) (by omega) w
  have H0 : RowKit.Hid (IFun (w.alloc (.cells (madeCells #[.int .i64 0] n) 2)) w.heap.size 2 .i64 n (upTo (turnF n u) (fun _ => 0) 0) ∧ Below w.heap.size w (w.alloc (.cells (madeCells #[.int .i64 0] n) 2))) :=
    ⟨IFun.ext (IFun.zeros w 2 .i64 n) fun j _ => (upTo_start (turnF n u) (fun _ => 0) j).symm, Below.alloc_new w _⟩
  obtain ⟨ls, hls⟩ : ∃ ls : Int, ls = (lossN n : Nat) := ⟨_, rfl⟩
  have HR : RowKit.Hid (∀ q, rndP (dotF n u q) ls = turnF n u q) := by intro q; rw [hls]; rfl
  have hcase : (((n : Int) == 128) = true ∧ ls = 27) ∨ (((n : Int) == 128) = false ∧ ls = 28) := by
    rcases hn with rfl | rfl
    · exact .inl ⟨rfl, hls⟩
    · exact .inr ⟨rfl, hls⟩
  clear hV hb hc hC hls hn
  rcases hcase with ⟨hd, rfl⟩ | ⟨hd, rfl⟩
  all_goals
    go_enter Tryz.func89, Tryz.ntmps89
    go_wp2
    clear hmk hd
    generalize hg : w.heap.size = gg at H0 gl hbl ⊢
    generalize (w.alloc (.cells (madeCells #[.int .i64 0] n) 2)) = w1 at H0 ⊢
    go_loopw [8] (fun i wr => ∃ q : Nat, q ≤ n ∧ i = .int .i64 (q : Int) ∧ RowKit.Hid (IFun wr gg 2 .i64 n (upTo (turnF n u) (fun _ => 0) q) ∧ Below gg w wr)) (fun i _ => n - (intOf i).toNat)
    case atStart => exact ⟨0, by omega, rfl, H0.out⟩
    case round =>
      obtain ⟨q, hq, rfl, HI⟩ := hrel
      clear H0
      by_cases hlt : q < n
      · have l1 : (q : Int) < (n : Int) := by omega
        go_wp2
        go_loopw [9, 10] (fun s i wx => ∃ j : Nat, j ≤ n ∧ i = .int .i64 (j : Int) ∧ s = .int .i64 (sumF (fun j => u j * cosA n j q) j) ∧ RowKit.Hid (IFun wx gg 2 .i64 n (upTo (turnF n u) (fun _ => 0) q) ∧ Below gg w wx)) (fun _ i _ => n - (intOf i).toNat)
        case atStart => exact ⟨0, by omega, rfl, rfl, HI.out⟩
        case round =>
          obtain ⟨j, hj, rfl, rfl, HJ⟩ := hrel
          clear HI
          by_cases hlj : j < n
          · obtain ⟨M, hM⟩ : ∃ M, M = (2 * j + 1) * (2 * q + 1) := ⟨_, rfl⟩
            obtain ⟨A, hA⟩ : ∃ A, A = M * V := ⟨_, rfl⟩
            have hM1 : M ≤ 1046529 := by rw [hM]; exact odd_prod j q (by omega) (by omega)
            have hA1 : A ≤ 4186116 := by
              rw [hA]
              exact Nat.mul_le_mul hM1 hV1
            have hMi : (2 * (j : Int) + 1) * (2 * (q : Int) + 1) = (M : Int) := by rw [hM]; simp
            have hAi : (M : Int) * (V : Int) = (A : Int) := by rw [hA]; simp
            have k1 := (HJ.out.2.cell (p := ⟨b, off + j, none⟩) hbl).trans (HC.out j hlj)
            have HX : RowKit.Hid (∀ i, Calls Tryz.prog 128 #[.slice (some ⟨c, 0, none⟩) 1025 1025, .int .i64 (A : Int)] (wr.drewN i) fun e w' => e = .returned (.int .i64 (cosP (A : Int))) ∧ w' = wr.drewN i) := fun i =>
              (ref04Cos_any c (A : Int) (wr.drewN i) (((HG.out.below HJ.out.2 gl)).drewN i) (by omega) (by omega)).mono fun _ _ h => ⟨h.1, h.2.symm⟩
            have HE : RowKit.Hid (sumF (fun j => u j * cosA n j q) (j + 1) = sumF (fun j => u j * cosA n j q) j + u j * cosP (A : Int)) := by
              show _ = _
              rw [sumF_succ, hA, hM, HV.out]; rfl
            have hs := sumF_abs (f := fun j => u j * cosA n j q) (n := j) (B := 33554432 * 16777216) fun i hi => mul_abs (by have := HB.out i (by omega); omega) (cosA_abs n i q)
            have hp : (u j * cosP (A : Int)).natAbs ≤ 33554432 * 16777216 := mul_abs (by have := HB.out j hlj; omega) (cosP_abs _)
            have HD : RowKit.Hid (∀ i, IFun (wr.drewN i) gg 2 .i64 n (upTo (turnF n u) (fun _ => 0) q) ∧ Below gg w (wr.drewN i)) := fun i => ⟨HJ.out.1.drewN i, Below.drewN' HJ.out.2 i⟩
            clear hM hA HJ
            generalize sumF (fun j => u j * cosA n j q) j = s at hs HE
            generalize u j = y at k1 hp HE
            generalize cosP (A : Int) = x at hp HE HX
            have p0 : -562949953421312 ≤ y * x := by omega
            have p1 : y * x ≤ 562949953421312 := by omega
            have s0 : -288230376151711744 ≤ s := by omega
            have s1 : s ≤ 288230376151711744 := by omega
            clear hs hp
            have l2 : (j : Int) < (n : Int) := by omega
            go_wp2
            have g1 : IntKind.i64.wrap (2 * (j : Int)) = 2 * (j : Int) := IntWalk.i64_in _ (by omega)
            have g2 : IntKind.i64.wrap (2 * (j : Int) + 1) = 2 * (j : Int) + 1 := IntWalk.i64_in _ (by omega)
            have g3 : IntKind.i64.wrap (2 * (q : Int)) = 2 * (q : Int) := IntWalk.i64_in _ (by omega)
            have g4 : IntKind.i64.wrap (2 * (q : Int) + 1) = 2 * (q : Int) + 1 := IntWalk.i64_in _ (by omega)
            have g5 : IntKind.i64.wrap (M : Int) = (M : Int) := IntWalk.i64_in _ (by omega)
            have g6 : IntKind.i64.wrap (A : Int) = (A : Int) := IntWalk.i64_in _ (by omega)
            have g7 : IntKind.i64.wrap (V : Int) = (V : Int) := IntWalk.i64_in _ (by omega)
            have g8 : IntKind.i64.wrap (y * x) = y * x := IntWalk.i64_in _ (by omega)
            have g9 : IntKind.i64.wrap (s + y * x) = s + y * x := IntWalk.i64_in _ (by omega)
            go_quiet (first | (go_at_call 128; exact Calls.quiet_of_same (HX.out _)))
            clear g1 g2 g3 g4 g5 g6 g7 g8 g9
            go_wp2
            go_roundw
            case rel => exact ⟨j + 1, by omega, by go_num, by rw [HE.out], HD.out _⟩
            case measure => simp [intOf] <;> omega
          · obtain rfl : j = n := by omega
            have HDt : RowKit.Hid (sumF (fun i => u i * cosA j i q) j = dotF j u q) := rfl
            rw [HDt.out]
            have hd := dotF_wide Hn.out (u := u) (fun i hi => by have := HB.out i hi; omega) q
            have ht := turnF_wide Hn.out (u := u) (fun i hi => by have := HB.out i hi; omega) q
            have o1 := HJ.out.1.cell (j := q) (by omega)
            have f1 := HJ.out.1.frozen q
            have HQ := Lib.hid (HR.out q)
            have HS : RowKit.Hid (IFun (wr.setCell ⟨gg, q, none⟩ (.int .i64 (turnF j u q))) gg 2 .i64 j (upTo (turnF j u) (fun _ => 0) (q + 1)) ∧ Below gg w (wr.setCell ⟨gg, q, none⟩ (.int .i64 (turnF j u q)))) :=
              ⟨IFun.ext (HJ.out.1.set (j := q) (by omega) (turnF j u q)) fun i _ => upTo_next _ _ q i, Below.setCell (p := ⟨gg, q, none⟩) HJ.out.2 (Nat.le_refl _) _⟩
            generalize turnF j u q = t at ht HQ HS
            generalize dotF j u q = d at hd HQ
            generalize upTo (turnF j u) (fun _ => 0) q q = z at o1
            have t0 : -1073741824 ≤ t := by omega
            have t1 : t ≤ 1073741824 := by omega
            clear HJ ht HDt
            go_wp2_with (go_at_call 88; refine (refRound_any d _ _ (by omega) (by omega)).mono ?_; rintro e w' ⟨rfl, rfl⟩; rw [HQ.out])
            go_roundw
            case rel => exact ⟨q + 1, by omega, by go_num, HS.out⟩
            case measure => simp [intOf] <;> omega
      · have Z : RowKit.Hid (IFun wr gg 2 .i64 n (turnF n u) ∧ Below gg w wr) := ⟨IFun.ext HI.out.1 fun i hi => by rw [show q = n by omega]; exact upTo_end _ _ n i hi, HI.out.2⟩
        go_wp2
        go_ret
        exact ⟨gg, rfl, Z.out.1, by omega, by rw [hg]; exact Z.out.2⟩

/-! ### Forward and back -/
set_option maxRecDepth 100000 in
theorem refForward_any (c n N cap : Nat) (a : Option Addr) (x : Nat → Int) (w : World) (hC : IFun w c 2 .i64 1025 cosN) (hn : n = 128 ∨ n = 512) (hN : N = 2 * n) (hx : FnAt w w.heap.size .i64 a N x) (hb : ∀ j, j < N → -1048576 ≤ x j ∧ x j ≤ 1048575) :
    Calls Tryz.prog 52 #[.slice (some ⟨c, 0, none⟩) 1025 1025, .slice a N cap] w (RowPost .i64 2 n (fwdF n x) w) := by
  have HG := Lib.hid hC
  have HX := Lib.hid hx
  have HB := Lib.hid hb
  have Hn := Lib.hid hn
  have HN := Lib.hid hN
  have gl := hC.lt
  have n1 : 1 ≤ n := by omega
  have n2 : n ≤ 512 := by omega
  have hF : RowKit.Hid (∀ j, j < n → (foldF n x j).natAbs ≤ 2097152) := fun j hj => foldF_abs (B := 1048576) (by omega) (fun i hi => by have := hb i (by omega); omega) hj
  have K3 : RowKit.Hid (Calls Tryz.prog 90 #[.slice a N cap] w (RowPost .i64 2 n (foldF n x) w)) :=
    refFold_any (n / 2) n N cap a x w (by omega) (by omega) (by omega) (by omega) hx (fun j hj => by have := hb j hj; omega)
  clear hC hn hx hb hN
  go_enter Tryz.func52, Tryz.ntmps52
  go_wp2_with (first | (go_at_call 90; go_loud (refine (K3.out).mono ?_); rintro e w1 ⟨g1, rfl, i1, s1, b1⟩; have I1 := Lib.hid i1; have S1 := Lib.hid s1; have B1 := Lib.hid b1; clear i1 s1 b1) | (go_at_call 89; go_loud (refine (refTurn_any c n n _ (foldF n x) _ (HG.out.below B1.out gl) Hn.out (FnAt.of_ifun I1.out) (fun j hj => by have := hF.out j hj; omega)).mono ?_); rintro e w2 ⟨g2, rfl, i2, s2, b2⟩; have I2 := Lib.hid i2; have S2 : RowKit.Hid (w.heap.size ≤ g2) := Nat.le_trans B1.out.size s2; have B2 : RowKit.Hid (Below w.heap.size w w2) := chain B1.out b2; clear i2 s2 b2))
  have H0 : RowKit.Hid (IFun w2 g2 2 .i64 n (upTo (fwdF n x) (turnF n (foldF n x)) 0) ∧ Below w.heap.size w w2) := ⟨IFun.ext I2.out fun i _ => (upTo_start _ _ i).symm, B2.out⟩
  clear I1 S1 B1 I2 B2 K3
  go_loopw [6] (fun i wr => ∃ q : Nat, q ≤ n ∧ i = .int .i64 (q : Int) ∧ RowKit.Hid (IFun wr g2 2 .i64 n (upTo (fwdF n x) (turnF n (foldF n x)) q) ∧ Below w.heap.size w wr)) (fun i _ => n - (intOf i).toNat)
  case atStart => exact ⟨0, by omega, rfl, H0.out⟩
  case round =>
    obtain ⟨q, hq, rfl, HI⟩ := hrel
    clear H0
    by_cases hlt : q < n
    · have o1 := HI.out.1.cell (j := q) (by omega)
      rw [upTo_here] at o1
      have f1 := HI.out.1.frozen q
      have hb := turnF_wide Hn.out (u := foldF n x) (fun j hj => by have := hF.out j hj; omega) q
      have HS : RowKit.Hid (IFun (wr.setCell ⟨g2, q, none⟩ (.int .i64 (fwdF n x q))) g2 2 .i64 n (upTo (fwdF n x) (turnF n (foldF n x)) (q + 1)) ∧ Below w.heap.size w (wr.setCell ⟨g2, q, none⟩ (.int .i64 (fwdF n x q)))) :=
        ⟨IFun.ext (HI.out.1.set (j := q) (by omega) (fwdF n x q)) fun i _ => upTo_next _ _ q i, Below.setCell (p := ⟨g2, q, none⟩) HI.out.2 S2.out _⟩
      have HE : RowKit.Hid (satP (turnF n (foldF n x) q) 26 = fwdF n x q) := rfl
      obtain ⟨t0, t1⟩ := satP_26_bd (turnF n (foldF n x) q)
      rw [HE.out] at t0 t1
      generalize fwdF n x q = t at HS HE t0 t1
      generalize turnF n (foldF n x) q = d at o1 hb HE
      have d0 : -1073741824 ≤ d := by omega
      have d1 : d ≤ 1073741824 := by omega
      clear HI hb
      go_wp2_with (go_at_call 91; refine (refSat_any d 26 _ (by omega) (by omega)).mono ?_; rintro e w' ⟨rfl, rfl⟩; rw [HE.out])
      go_roundw
      case rel => exact ⟨q + 1, by omega, by go_num, HS.out⟩
      case measure => simp [intOf] <;> omega
    · obtain rfl : q = n := by omega
      have Z : RowKit.Hid (IFun wr g2 2 .i64 q (fwdF q x) ∧ Below w.heap.size w wr) := ⟨IFun.ext HI.out.1 fun i hi => upTo_end _ _ q i hi, HI.out.2⟩
      go_wp2
      go_ret
      exact ⟨g2, rfl, Z.out.1, S2.out, Z.out.2⟩
set_option maxRecDepth 100000 in
theorem refBack_any (c n N cap : Nat) (a : Option Addr) (l : Nat → Int) (w : World) (hC : IFun w c 2 .i64 1025 cosN) (hn : n = 128 ∨ n = 512) (hN : N = 2 * n) (hx : FnAt w w.heap.size .i64 a n l) (hb : ∀ j, j < n → -33554432 ≤ l j ∧ l j ≤ 33554431) :
    Calls Tryz.prog 162 #[.slice (some ⟨c, 0, none⟩) 1025 1025, .slice a n cap] w (RowPost .i64 2 N (backF n l) w) := by
  have Hn := Lib.hid hn
  have HN := Lib.hid hN
  have n1 : 1 ≤ n := by omega
  have n2 : n ≤ 512 := by omega
  have K3 : RowKit.Hid (Calls Tryz.prog 89 #[.slice (some ⟨c, 0, none⟩) 1025 1025, .slice a n cap] w (RowPost .i64 2 n (turnF n l) w)) :=
    refTurn_any c n cap a l w hC hn hx (fun j hj => by have := hb j hj; omega)
  have hF : RowKit.Hid (∀ k, -2147483647 ≤ turnF n l k ∧ turnF n l k ≤ 2147483647) := fun k => by
    have := turnF_wide Hn.out (u := l) (fun j hj => by have := hb j hj; omega) k
    omega
  clear hC hn hx hb hN
  go_enter Tryz.func162, Tryz.ntmps162
  go_wp2_with (first | (go_at_call 89; go_loud (refine (K3.out).mono ?_); rintro e w1 ⟨g1, rfl, i1, s1, b1⟩; have I1 := Lib.hid i1; have S1 := Lib.hid s1; have B1 := Lib.hid b1; clear i1 s1 b1) | (go_at_call 178; go_loud (refine (refUnfold_any (n / 2) n N n _ (turnF n l) _ (by have := Hn.out; omega) (by omega) (by have := Hn.out; omega) (by have := HN.out; have := Hn.out; omega) (FnAt.of_ifun I1.out) (fun j hj => hF.out j)).mono ?_); rintro e w2 ⟨g2, rfl, i2, s2, b2⟩; have I2 := Lib.hid i2; have S2 : RowKit.Hid (w.heap.size ≤ g2) := Nat.le_trans B1.out.size s2; have B2 : RowKit.Hid (Below w.heap.size w w2) := chain B1.out b2; clear i2 s2 b2))
  go_ret
  exact ⟨g2, rfl, I2.out, S2.out, B2.out⟩
end Go.Proofs.YtobhoecmmpijgaaGreat

/- What the statements' own helpers for layer 8 give: numbers of a list, again and again; whether two are the same; how many lines; that it lives. -/
namespace Go.Proofs.YtobhoecmmpijgaaGreat
open Go.RowKit
set_option linter.unusedVariables false

theorem tabF_snoc (f : Nat → Int) (n : Nat) : tabF (n + 1) f = tabF n f ++ [f n] := by simp [tabF, List.range_succ]
theorem info_i32b : (Tryz.prog.info? 21).map (fun i => (i.zero, i.size, i.bytes)) = some (some (.int .i32 0), 1, 4) := by kernel_rfl
/-- What fill gives, as the walks want it. -/
theorem fill_fn {w : World} {base e n : Nat} {v : Value} {k : IntKind} {F : Nat → Int} (h : w.ownsRow base e 1 v n ((tabF n F).map (Value.int k))) (hn : 0 < n) : ∃ a c, v = .slice a n c ∧ FnAt w w.heap.size k a n F ∧ (a = none → c = 0) := by
  obtain ⟨a, c, rfl, hi⟩ := own_ints h
  refine ⟨a, c, rfl, (FnAt.of_ints hi hn).ext fun j hj => tabF_getD F hj, ?_⟩
  rintro rfl
  obtain ⟨b, off, e1, _⟩ := hi.at_ hn
  cases e1

/-! ### Whether two are the same -/
end Go.Proofs.YtobhoecmmpijgaaGreat
