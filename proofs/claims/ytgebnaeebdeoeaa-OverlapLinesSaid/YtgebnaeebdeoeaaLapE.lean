/- What package lapped makes of numbers: unfolded. -/
import Derived.Test.YtgebnaeebdeoeaaLapD
namespace Go.Proofs.Ytgebnaeebdeoeaa
open Go.RowKit
set_option linter.unusedVariables false

/-! ### Unfolding -/
/-- Unfolded up to q, on all four sides. -/
def unfA (h : Nat) (u : Nat → Int) (q i : Nat) : Int := if i < q ∨ (2 * h ≤ i + q ∧ i < 2 * h) ∨ (3 * h ≤ i + q ∧ i < 3 * h + q) then unfoldF (2 * h) u i else 0
theorem unf_1 {h q p : Nat} (u : Nat → Int) (hq : q < h) (hp : p = h + q) : unfoldF (2 * h) u q = u p := by
  unfold unfoldF
  rw [show 2 * h / 2 = h by omega, if_pos hq, hp]
theorem unf_2 {h q p r : Nat} (u : Nat → Int) (hq : q < h) (hp : p = h + q) (hr : r + 1 + q = 2 * h) : unfoldF (2 * h) u r = -(u p) := by
  unfold unfoldF
  rw [show 2 * h / 2 = h by omega, if_neg (by omega), if_pos (by omega), show h + (2 * h - 1 - r) = p by omega]
theorem unf_3 {h q r : Nat} (u : Nat → Int) (hq : q < h) (hr : r + 1 + q = 3 * h) : unfoldF (2 * h) u r = -(u q) := by
  unfold unfoldF
  rw [show 2 * h / 2 = h by omega, if_neg (by omega), if_neg (by omega), if_pos (by omega), show 3 * h - 1 - r = q by omega]
theorem unf_4 {h q r : Nat} (u : Nat → Int) (hq : q < h) (hr : r = 3 * h + q) : unfoldF (2 * h) u r = -(u q) := by
  unfold unfoldF
  rw [show 2 * h / 2 = h by omega, if_neg (by omega), if_neg (by omega), if_neg (by omega), show r - 3 * h = q by omega]
theorem unfA_next {h q r2 r3 r4 : Nat} (u : Nat → Int) (hq : q < h) (h2 : r2 + 1 + q = 2 * h) (h3 : r3 + 1 + q = 3 * h) (h4 : r4 = 3 * h + q) (i : Nat) :
    (if i = r4 then unfoldF (2 * h) u r4 else if i = r3 then unfoldF (2 * h) u r3 else if i = r2 then unfoldF (2 * h) u r2 else if i = q then unfoldF (2 * h) u q else unfA h u q i) = unfA h u (q + 1) i := by
  unfold unfA
  by_cases e4 : i = r4
  · subst e4; rw [if_pos rfl, if_pos (by omega)]
  · rw [if_neg e4]
    by_cases e3 : i = r3
    · subst e3; rw [if_pos rfl, if_pos (by omega)]
    · rw [if_neg e3]
      by_cases e2 : i = r2
      · subst e2; rw [if_pos rfl, if_pos (by omega)]
      · rw [if_neg e2]
        by_cases e1 : i = q
        · subst e1; rw [if_pos rfl, if_pos (by omega)]
        · rw [if_neg e1]
          by_cases c : i < q ∨ (2 * h ≤ i + q ∧ i < 2 * h) ∨ (3 * h ≤ i + q ∧ i < 3 * h + q)
          · rw [if_pos c, if_pos (by omega)]
          · rw [if_neg c, if_neg (by omega)]
theorem unfA_end {h : Nat} (u : Nat → Int) (i : Nat) (hi : i < 4 * h) : unfA h u h i = unfoldF (2 * h) u i := by unfold unfA; rw [if_pos (by omega)]
theorem unfA_start {h : Nat} (u : Nat → Int) (i : Nat) : unfA h u 0 i = 0 := by unfold unfA; rw [if_neg (by omega)]
set_option maxRecDepth 100000 in
theorem lapUnfold_any (h n N cap : Nat) (a : Option Addr) (u : Nat → Int) (w : World) (h1 : 1 ≤ h) (h2 : h ≤ 256) (hn : n = 2 * h) (hN : N = 4 * h) (hx : FnAt w w.heap.size .i32 a n u) (hb : ∀ j, j < n → -2147483647 ≤ u j ∧ u j ≤ 2147483647) :
    Calls Try.prog 52 #[.slice a n cap] w (RowPost .i32 21 N (unfoldF n u) w) := by
  have HN := Lib.hid hn
  have HNN := Lib.hid hN
  obtain ⟨b, off, rfl, hbl, hc⟩ := hx
  have HC := Lib.hid hc
  have HB := Lib.hid hb
  clear hc hb
  have hmk : ∀ w : World, (Instr.makeSlice 31 (.int .i64 (N : Int)) (.int .i64 (N : Int))).run Try.prog w = .ok (.slice (some ⟨w.heap.size, 0, none⟩) N N) (w.alloc (.cells (madeCells #[.int .i32 0] N) 21)) :=
    fun w => make_zeros (P := Try.prog) Try.underlying31 info_i32 N (by omega) (by omega) w
  have H0 : RowKit.Hid (IFun (w.alloc (.cells (madeCells #[.int .i32 0] N) 21)) w.heap.size 21 .i32 N (unfA h u 0) ∧ Below w.heap.size w (w.alloc (.cells (madeCells #[.int .i32 0] N) 21))) :=
    ⟨IFun.ext (IFun.zeros w 21 .i32 N) fun j _ => (unfA_start u j).symm, Below.alloc_new w _⟩
  have q1 : 2 * (n : Int) = (N : Int) := by omega
  have q3 : (n : Int) / 2 = (h : Int) := by omega
  have q4 : (n : Int).tdiv 2 = (h : Int) := by rw [Int.tdiv_eq_ediv_of_nonneg (by omega)]; exact q3
  have n1 : n ≤ 2 * h := by omega
  have n2 : 2 * h ≤ n := by omega
  have N1 : N ≤ 4 * h := by omega
  have N2 : 4 * h ≤ N := by omega
  clear hn hN
  go_enter Try.func52, Try.ntmps52
  go_wp2
  clear hmk q1 q3 q4
  generalize hg : w.heap.size = g at H0 hbl ⊢
  generalize (w.alloc (.cells (madeCells #[.int .i32 0] N) 21)) = w1 at H0 ⊢
  go_loopw [6, 15] (fun _ i wr => ∃ q : Nat, q ≤ h ∧ i = .int .i64 (q : Int) ∧ RowKit.Hid (IFun wr g 21 .i32 N (unfA h u q) ∧ Below g w wr)) (fun _ i _ => h - (intOf i).toNat)
  case atStart => exact ⟨0, by omega, rfl, H0.out⟩
  case round =>
    obtain ⟨q, hq, rfl, HI⟩ := hrel
    clear H0
    by_cases hlt : q < h
    · obtain ⟨p, hp⟩ : ∃ p, p = h + q := ⟨_, rfl⟩
      obtain ⟨r2, hr2⟩ : ∃ r2, r2 + 1 + q = 2 * h := ⟨2 * h - 1 - q, by omega⟩
      obtain ⟨r3, hr3⟩ : ∃ r3, r3 + 1 + q = 3 * h := ⟨3 * h - 1 - q, by omega⟩
      obtain ⟨r4, hr4⟩ : ∃ r4, r4 = 3 * h + q := ⟨_, rfl⟩
      have k1 := HC.out p (by omega)
      have k2 := HC.out q (by omega)
      obtain ⟨x10, x11⟩ := HB.out p (by omega)
      obtain ⟨x20, x21⟩ := HB.out q (by omega)
      have E1 := Lib.hid (unf_1 u hlt hp)
      have E2 := Lib.hid (unf_2 u hlt hp hr2)
      have E3 := Lib.hid (unf_3 u hlt hr3)
      have E4 := Lib.hid (unf_4 u hlt hr4)
      have EN := Lib.hid (unfA_next u hlt hr2 hr3 hr4)
      have e1 : (h : Int) + (q : Int) = (p : Int) := by omega
      have e2 : (n : Int) - 1 - (q : Int) = (r2 : Int) := by have := HN.out; omega
      have e3 : 3 * (h : Int) - 1 - (q : Int) = (r3 : Int) := by omega
      have e4 : 3 * (h : Int) + (q : Int) = (r4 : Int) := by omega
      have l1 : (p : Int) < (n : Int) := by have := HN.out; omega
      have l2 : (r2 : Int) < (N : Int) := by omega
      have l3 : (r3 : Int) < (N : Int) := by omega
      have l4 : (r4 : Int) < (N : Int) := by omega
      have l5 : (q : Int) < (n : Int) := by have := HN.out; omega
      have l6 : (q : Int) < (N : Int) := by omega
      have m1 : q ≠ r2 := by omega
      have m2 : q ≠ r3 := by omega
      have m3 : q ≠ r4 := by omega
      have m4 : r2 ≠ r3 := by omega
      have m5 : r2 ≠ r4 := by omega
      have m6 : r3 ≠ r4 := by omega
      have g1 : IntKind.i64.wrap (3 * (h : Int)) = 3 * (h : Int) := IntWalk.i64_in _ (by omega)
      have g2 : IntKind.i64.wrap (3 * (h : Int) - 1) = 3 * (h : Int) - 1 := IntWalk.i64_in _ (by omega)
      have g3 : IntKind.i64.wrap (p : Int) = (p : Int) := IntWalk.i64_in _ (by omega)
      have g4 : IntKind.i64.wrap (r2 : Int) = (r2 : Int) := IntWalk.i64_in _ (by omega)
      have g5 : IntKind.i64.wrap (r3 : Int) = (r3 : Int) := IntWalk.i64_in _ (by omega)
      have g6 : IntKind.i64.wrap (r4 : Int) = (r4 : Int) := IntWalk.i64_in _ (by omega)
      have g7 : IntKind.i64.wrap ((n : Int) - 1) = (n : Int) - 1 := IntWalk.i64_in _ (by omega)
      clear hp hr2 hr3 hr4
      have o1 := HI.out.1.cell (j := q) (by omega)
      have o2 := HI.out.1.cell (j := r2) (by omega)
      have f1 := HI.out.1.frozen q
      have f2 := HI.out.1.frozen r2
      have c1 := (HI.out.2.cell (p := ⟨b, off + p, none⟩) hbl).trans k1
      have HV1 : RowKit.Hid (∀ i, IFun ((((wr.drewN i).setCell ⟨g, q, none⟩ (.int .i32 (unfoldF (2 * h) u q))).setCell ⟨g, r2, none⟩ (.int .i32 (unfoldF (2 * h) u r2)))) g 21 .i32 N (fun i => if i = r2 then unfoldF (2 * h) u r2 else if i = q then unfoldF (2 * h) u q else unfA h u q i) ∧ Below g w ((((wr.drewN i).setCell ⟨g, q, none⟩ (.int .i32 (unfoldF (2 * h) u q))).setCell ⟨g, r2, none⟩ (.int .i32 (unfoldF (2 * h) u r2))))) := fun i =>
        ⟨((HI.out.1.drewN i).set (j := q) (by omega) (unfoldF (2 * h) u q)).set (j := r2) (by omega) (unfoldF (2 * h) u r2), Below.setCell (p := ⟨g, r2, none⟩) (Below.setCell (p := ⟨g, q, none⟩) (Below.drewN' HI.out.2 i) (Nat.le_refl _) _) (Nat.le_refl _) _⟩
      generalize hY1 : unfoldF (2 * h) u q = Y1 at HV1 E1
      generalize hY2 : unfoldF (2 * h) u r2 = Y2 at HV1 E2
      generalize u p = y1 at c1 x10 x11 k1 E1 E2
      have d1 : IntKind.i32.wrap (-y1) = -y1 := IntWalk.i32_in _ (by omega)
      have HY1 := Lib.hid hY1
      have HY2 := Lib.hid hY2
      clear HI hY1 hY2
      rw [E1.out, E2.out] at HV1
      generalize unfA h u q q = z1 at o1
      generalize unfA h u q r2 = z2 at o2
      go_wp2
      go_region
      all_goals
        go_wp2
        have HV2 : RowKit.Hid (IFun ((wr.setCell ⟨g, q, none⟩ (.int .i32 y1)).setCell ⟨g, r2, none⟩ (.int .i32 (-y1))).drew g 21 .i32 N (fun i => if i = r2 then -y1 else if i = q then y1 else unfA h u q i) ∧ Below g w ((wr.setCell ⟨g, q, none⟩ (.int .i32 y1)).setCell ⟨g, r2, none⟩ (.int .i32 (-y1))).drew) := ⟨(HV1.out 0).1.drewN 1, Below.drewN' (HV1.out 0).2 1⟩
        clear c1 o1 o2 f1 f2 HV1
        generalize ((wr.setCell ⟨g, q, none⟩ (.int .i32 y1)).setCell ⟨g, r2, none⟩ (.int .i32 (-y1))).drew = w2 at HV2 ⊢
        have c2 := (HV2.out.2.cell (p := ⟨b, off + q, none⟩) hbl).trans k2
        have o3 := HV2.out.1.cell (j := r3) (by omega)
        have o4 := HV2.out.1.cell (j := r4) (by omega)
        have f3 := HV2.out.1.frozen r3
        have f4 := HV2.out.1.frozen r4
        have HV3 : RowKit.Hid (IFun ((w2.setCell ⟨g, r3, none⟩ (.int .i32 (unfoldF (2 * h) u r3))).setCell ⟨g, r4, none⟩ (.int .i32 (unfoldF (2 * h) u r4))).drew g 21 .i32 N (unfA h u (q + 1)) ∧ Below g w ((w2.setCell ⟨g, r3, none⟩ (.int .i32 (unfoldF (2 * h) u r3))).setCell ⟨g, r4, none⟩ (.int .i32 (unfoldF (2 * h) u r4))).drew) := by
          refine ⟨IFun.ext (((HV2.out.1.set (j := r3) (by omega) (unfoldF (2 * h) u r3)).set (j := r4) (by omega) (unfoldF (2 * h) u r4)).drewN 1) fun i _ => ?_, Below.drewN' (Below.setCell (p := ⟨g, r4, none⟩) (Below.setCell (p := ⟨g, r3, none⟩) HV2.out.2 (Nat.le_refl _) _) (Nat.le_refl _) _) 1⟩
          have := EN.out i
          rw [HY1.out, HY2.out, E1.out, E2.out] at this
          exact this
        rw [E3.out, E4.out] at HV3
        clear HV2 EN HY1 HY2 E1 E2 E3 E4
        generalize u q = y2 at c2 x20 x21 k2 HV3
        have d2 : IntKind.i32.wrap (-y2) = -y2 := IntWalk.i32_in _ (by omega)
        generalize (if r3 = r2 then _ else _) = z3 at o3
        generalize (if r4 = r2 then _ else _) = z4 at o4
        go_region
        all_goals
          go_wp2
          go_roundw
          case rel => exact ⟨q + 1, by omega, by go_num, HV3.out⟩
          case measure => simp [intOf] <;> omega
    · obtain rfl : q = h := by omega
      have Z : RowKit.Hid (IFun wr g 21 .i32 N (unfoldF n u) ∧ Below g w wr) := ⟨IFun.ext HI.out.1 fun i hi => by rw [HN.out]; exact unfA_end u i (by have := HNN.out; omega), HI.out.2⟩
      go_wp2
      go_ret
      exact ⟨g, rfl, Z.out.1, by omega, by rw [hg]; exact Z.out.2⟩
end Go.Proofs.Ytgebnaeebdeoeaa
