/- Plain facts, and what functions give, for the proofs of this seat: several texts in one, each with its own first remark. -/
import Derived.Test.YtmgfkdmjgjlkjaaGreatCn

namespace Go.Proofs.YtmgfkdmjgjlkjaaGreat
open Go.RowKit
set_option linter.unusedVariables false
def foldA (h : Nat) (x : Nat → Int) (q i : Nat) : Int := if i < q ∨ (h ≤ i ∧ i < h + q) then foldF (2 * h) x i else 0
theorem foldF_low {h q p1 p2 : Nat} (x : Nat → Int) (hq : q < h) (h1 : p1 + 1 + q = 3 * h) (h2 : p2 = 3 * h + q) : foldF (2 * h) x q = -(x p1) - x p2 := by
  unfold foldF
  rw [show 2 * h / 2 = h by omega, if_pos hq, show 3 * h - 1 - q = p1 by omega, h2]
theorem foldF_high {h q p3 p4 : Nat} (x : Nat → Int) (hq : q < h) (h3 : p3 = h + q) (h4 : p4 + 1 + q = 2 * h) : foldF (2 * h) x p3 = x q - x p4 := by
  unfold foldF
  rw [show 2 * h / 2 = h by omega, if_neg (by omega), show p3 - h = q by omega, show 2 * h - 1 - q = p4 by omega]
theorem foldA_next {h q p3 : Nat} (x : Nat → Int) (hq : q < h) (h3 : p3 = h + q) (i : Nat) : (if i = p3 then foldF (2 * h) x p3 else if i = q then foldF (2 * h) x q else foldA h x q i) = foldA h x (q + 1) i := by
  unfold foldA
  by_cases e3 : i = p3
  · subst e3; rw [if_pos rfl, if_pos (by omega)]
  · rw [if_neg e3]
    by_cases e1 : i = q
    · subst e1; rw [if_pos rfl, if_pos (by omega)]
    · rw [if_neg e1]
      by_cases c : i < q ∨ (h ≤ i ∧ i < h + q)
      · rw [if_pos c, if_pos (by omega)]
      · rw [if_neg c, if_neg (by omega)]
theorem foldA_end {h : Nat} (x : Nat → Int) (i : Nat) (hi : i < 2 * h) : foldA h x h i = foldF (2 * h) x i := by unfold foldA; rw [if_pos (by omega)]
theorem foldA_start {h : Nat} (x : Nat → Int) (i : Nat) : foldA h x 0 i = 0 := by unfold foldA; rw [if_neg (by omega)]
def RowPost (k : IntKind) (t : TypeId) (n : Nat) (f : Nat → Int) (w : World) (e : Ending) (w' : World) : Prop :=
  ∃ g, e = .returned (.slice (some ⟨g, 0, none⟩) n n) ∧ IFun w' g t k n f ∧ w.heap.size ≤ g ∧ Below w.heap.size w w'
set_option maxRecDepth 100000 in
theorem lapFold_any (h n N cap : Nat) (a : Option Addr) (x : Nat → Int) (w : World) (h1 : 1 ≤ h) (h2 : h ≤ 256) (hn : n = 2 * h) (hN : N = 4 * h) (hx : FnAt w w.heap.size .i32 a N x) (hb : ∀ j, j < N → -1048576 ≤ x j ∧ x j ≤ 1048575) :
    Calls Tryz.prog 186 #[.slice a N cap] w (RowPost .i32 21 n (foldF n x) w) := by
  have HN := Lib.hid hn
  obtain ⟨b, off, rfl, hbl, hc⟩ := hx
  have HC := Lib.hid hc
  have HB := Lib.hid hb
  clear hc hb
  have hmk : ∀ w : World, (Instr.makeSlice 118 (.int .i64 (n : Int)) (.int .i64 (n : Int))).run Tryz.prog w = .ok (.slice (some ⟨w.heap.size, 0, none⟩) n n) (w.alloc (.cells (madeCells #[.int .i32 0] n) 21)) :=
    fun w => make_zeros (P := Tryz.prog) Tryz.underlying118 info_i32 n (by omega) (by omega) w
  have H0 : RowKit.Hid (IFun (w.alloc (.cells (madeCells #[.int .i32 0] n) 21)) w.heap.size 21 .i32 n (foldA h x 0) ∧ Below w.heap.size w (w.alloc (.cells (madeCells #[.int .i32 0] n) 21))) :=
    ⟨IFun.ext (IFun.zeros w 21 .i32 n) fun j _ => (foldA_start x j).symm, Below.alloc_new w _⟩
  have q1 : (N : Int) / 2 = (n : Int) := by omega
  have q2 : (N : Int).tdiv 2 = (n : Int) := by rw [Int.tdiv_eq_ediv_of_nonneg (by omega)]; exact q1
  have q3 : (n : Int) / 2 = (h : Int) := by omega
  have q4 : (n : Int).tdiv 2 = (h : Int) := by rw [Int.tdiv_eq_ediv_of_nonneg (by omega)]; exact q3
  have n1 : n ≤ 2 * h := by omega
  have n2 : 2 * h ≤ n := by omega
  have N1 : N ≤ 4 * h := by omega
  have N2 : 4 * h ≤ N := by omega
  clear hn hN
  go_enter Tryz.func186, Tryz.ntmps186
  go_wp2
  clear hmk q1 q2 q3 q4
  generalize hg : w.heap.size = g at H0 hbl ⊢
  generalize (w.alloc (.cells (madeCells #[.int .i32 0] n) 21)) = w1 at H0 ⊢
  go_loopw [6, 15] (fun _ i wr => ∃ q : Nat, q ≤ h ∧ i = .int .i64 (q : Int) ∧ RowKit.Hid (IFun wr g 21 .i32 n (foldA h x q) ∧ Below g w wr)) (fun _ i _ => h - (intOf i).toNat)
  case atStart => exact ⟨0, by omega, rfl, H0.out⟩
  case round =>
    obtain ⟨q, hq, rfl, HI⟩ := hrel
    clear H0
    by_cases hlt : q < h
    · obtain ⟨p1, hp1⟩ : ∃ p1, p1 + 1 + q = 3 * h := ⟨3 * h - 1 - q, by omega⟩
      obtain ⟨p2, hp2⟩ : ∃ p2, p2 = 3 * h + q := ⟨_, rfl⟩
      obtain ⟨p3, hp3⟩ : ∃ p3, p3 = h + q := ⟨_, rfl⟩
      obtain ⟨p4, hp4⟩ : ∃ p4, p4 + 1 + q = 2 * h := ⟨2 * h - 1 - q, by omega⟩
      have k1 := HC.out p1 (by omega)
      have k2 := HC.out p2 (by omega)
      have k3 := HC.out q (by omega)
      have k4 := HC.out p4 (by omega)
      obtain ⟨x10, x11⟩ := HB.out p1 (by omega)
      obtain ⟨x20, x21⟩ := HB.out p2 (by omega)
      obtain ⟨x30, x31⟩ := HB.out q (by omega)
      obtain ⟨x40, x41⟩ := HB.out p4 (by omega)
      have o1 := HI.out.1.cell (j := q) (by omega)
      have f1 := HI.out.1.frozen q
      have E1 := Lib.hid (foldF_low x hlt hp1 hp2)
      have E2 := Lib.hid (foldF_high x hlt hp3 hp4)
      have HV1 : RowKit.Hid (IFun ((wr.setCell ⟨g, q, none⟩ (.int .i32 (foldF (2 * h) x q))).drew) g 21 .i32 n (fun i => if i = q then foldF (2 * h) x q else foldA h x q i) ∧ Below g w ((wr.setCell ⟨g, q, none⟩ (.int .i32 (foldF (2 * h) x q))).drew)) :=
        ⟨(HI.out.1.set (j := q) (by omega) (foldF (2 * h) x q)).drewN 1, Below.drewN' (Below.setCell (p := ⟨g, q, none⟩) HI.out.2 (Nat.le_refl _) _) 1⟩
      have B2 := HI.out.2
      generalize hY1 : foldF (2 * h) x q = Y1 at HV1 E1
      have c1 := (B2.cell (p := ⟨b, off + p1, none⟩) hbl).trans k1
      have c2 := (B2.cell (p := ⟨b, off + p2, none⟩) hbl).trans k2
      have HYb : RowKit.Hid (Y1 = -(x p1) - x p2) := E1.out
      clear B2 HI E1
      generalize x p1 = y1 at c1 x10 x11 HYb k1
      generalize x p2 = y2 at c2 x20 x21 HYb k2
      generalize foldA h x q q = z1 at o1
      have e1 : 3 * (h : Int) - 1 - (q : Int) = (p1 : Int) := by omega
      have e2 : 3 * (h : Int) + (q : Int) = (p2 : Int) := by omega
      have e3 : (h : Int) + (q : Int) = (p3 : Int) := by omega
      have e4 : (n : Int) - 1 - (q : Int) = (p4 : Int) := by have := HN.out; omega
      have l1 : (p1 : Int) < (N : Int) := by omega
      have l2 : (p2 : Int) < (N : Int) := by omega
      have l3 : (p3 : Int) < (n : Int) := by have := HN.out; omega
      have l4 : (p4 : Int) < (N : Int) := by omega
      have l5 : (q : Int) < (n : Int) := by have := HN.out; omega
      have l6 : (q : Int) < (N : Int) := by omega
      have g1 : IntKind.i64.wrap (3 * (h : Int)) = 3 * (h : Int) := IntWalk.i64_in _ (by omega)
      have g2 : IntKind.i64.wrap (3 * (h : Int) - 1) = 3 * (h : Int) - 1 := IntWalk.i64_in _ (by omega)
      have g3 : IntKind.i64.wrap (p1 : Int) = (p1 : Int) := IntWalk.i64_in _ (by omega)
      have g4 : IntKind.i64.wrap (p2 : Int) = (p2 : Int) := IntWalk.i64_in _ (by omega)
      have g5 : IntKind.i64.wrap (p3 : Int) = (p3 : Int) := IntWalk.i64_in _ (by omega)
      have g6 : IntKind.i64.wrap (p4 : Int) = (p4 : Int) := IntWalk.i64_in _ (by omega)
      have g7 : IntKind.i64.wrap ((n : Int) - 1) = (n : Int) - 1 := IntWalk.i64_in _ (by omega)
      have g8 : IntKind.i32.wrap (-y1) = -y1 := IntWalk.i32_in _ (by omega)
      have g9 : IntKind.i32.wrap (-y1 - y2) = -y1 - y2 := IntWalk.i32_in _ (by omega)
      have HP3 := Lib.hid hp3
      clear hp1 hp2 hp3 hp4
      rw [HYb.out] at HV1
      go_wp2
      go_still_tail 20, (by kernel_rfl)
      repeat still_step
      change wpList _ _ _ _ _ wr.drew
      go_wp2
      clear c1 c2 o1 f1
      generalize (wr.setCell ⟨g, q, none⟩ (Value.int IntKind.i32 (-y1 - y2))).drew = w2 at HV1 ⊢
      have c3 := (HV1.out.2.cell (p := ⟨b, off + q, none⟩) hbl).trans k3
      have c4 := (HV1.out.2.cell (p := ⟨b, off + p4, none⟩) hbl).trans k4
      have o2 := HV1.out.1.cell (j := p3) (by omega)
      have f2 := HV1.out.1.frozen p3
      have HV : RowKit.Hid (IFun ((w2.setCell ⟨g, p3, none⟩ (.int .i32 (foldF (2 * h) x p3))).drew) g 21 .i32 n (foldA h x (q + 1)) ∧ Below g w ((w2.setCell ⟨g, p3, none⟩ (.int .i32 (foldF (2 * h) x p3))).drew)) := by
        refine ⟨IFun.ext ((HV1.out.1.set (j := p3) (by omega) (foldF (2 * h) x p3)).drewN 1) fun i _ => ?_, Below.drewN' (Below.setCell (p := ⟨g, p3, none⟩) HV1.out.2 (Nat.le_refl _) _) 1⟩
        have := foldA_next x hlt HP3.out i
        rw [hY1, HYb.out] at this
        exact this
      rw [E2.out] at HV
      clear HV1 HYb hY1 E2
      generalize x q = y3 at c3 k3 x30 x31 HV
      generalize x p4 = y4 at c4 k4 x40 x41 HV
      generalize (if p3 = q then _ else _) = z2 at o2
      have g10 : IntKind.i32.wrap (y3 - y4) = y3 - y4 := IntWalk.i32_in _ (by omega)
      go_still_tail 17, (by kernel_rfl)
      repeat still_step
      change wpList _ _ _ _ _ w2.drew
      go_wp2
      go_roundw
      case rel => exact ⟨q + 1, by omega, by go_num, HV.out⟩
      case measure => simp [intOf] <;> omega
    · obtain rfl : q = h := by omega
      have Z : RowKit.Hid (IFun wr g 21 .i32 n (foldF n x) ∧ Below g w wr) := ⟨IFun.ext HI.out.1 fun i hi => by rw [HN.out]; exact foldA_end x i (by have := HN.out; omega), HI.out.2⟩
      go_wp2
      go_ret
      exact ⟨g, rfl, Z.out.1, by omega, by rw [hg]; exact Z.out.2⟩
end Go.Proofs.YtmgfkdmjgjlkjaaGreat

namespace Go.Proofs.YtmgfkdmjgjlkjaaGreat
open Go.RowKit
set_option linter.unusedVariables false
def unfA (h : Nat) (u : Nat → Int) (q i : Nat) : Int := if i < q ∨ (2 * h ≤ i + q ∧ i < 2 * h) ∨ (3 * h ≤ i + q ∧ i < 3 * h + q) then unfoldF (2 * h) u i else 0
theorem unf_1 {h q p : Nat} (u : Nat → Int) (hq : q < h) (hp : p = h + q) : unfoldF (2 * h) u q = u p := by
  unfold unfoldF
  rw [show 2 * h / 2 = h by omega, if_pos hq, hp]
theorem unf_2 {h q p r : Nat} (u : Nat → Int) (hq : q < h) (hp : p = h + q) (hr : r + 1 + q = 2 * h) : unfoldF (2 * h) u r = -(u p) := by
  unfold unfoldF
  rw [show 2 * h / 2 = h by omega, if_neg (by omega), if_pos (by omega), show h + (2 * h - 1 - r) = p by omega]
theorem unf_3 {h q r : Nat} (u : Nat → Int) (hq : q < h) (hr : r + 1 + q = 3 * h) : unfoldF (2 * h) u r = -(u q) := by
  unfold unfoldF
  rw [show 2 * h / 2 = h by omega, if_neg (by omega), if_neg (by omega), if_pos (by omega), show 3 * h - 1 - r = q by omega]
theorem unf_4 {h q r : Nat} (u : Nat → Int) (hq : q < h) (hr : r = 3 * h + q) : unfoldF (2 * h) u r = -(u q) := by
  unfold unfoldF
  rw [show 2 * h / 2 = h by omega, if_neg (by omega), if_neg (by omega), if_neg (by omega), show r - 3 * h = q by omega]
theorem unfA_next {h q r2 r3 r4 : Nat} (u : Nat → Int) (hq : q < h) (h2 : r2 + 1 + q = 2 * h) (h3 : r3 + 1 + q = 3 * h) (h4 : r4 = 3 * h + q) (i : Nat) :
    (if i = r4 then unfoldF (2 * h) u r4 else if i = r3 then unfoldF (2 * h) u r3 else if i = r2 then unfoldF (2 * h) u r2 else if i = q then unfoldF (2 * h) u q else unfA h u q i) = unfA h u (q + 1) i := by
  unfold unfA
  by_cases e4 : i = r4
  · subst e4; rw [if_pos rfl, if_pos (by omega)]
  · rw [if_neg e4]
    by_cases e3 : i = r3
    · subst e3; rw [if_pos rfl, if_pos (by omega)]
    · rw [if_neg e3]
      by_cases e2 : i = r2
      · subst e2; rw [if_pos rfl, if_pos (by omega)]
      · rw [if_neg e2]
        by_cases e1 : i = q
        · subst e1; rw [if_pos rfl, if_pos (by omega)]
        · rw [if_neg e1]
          by_cases c : i < q ∨ (2 * h ≤ i + q ∧ i < 2 * h) ∨ (3 * h ≤ i + q ∧ i < 3 * h + q)
          · rw [if_pos c, if_pos (by omega)]
          · rw [if_neg c, if_neg (by omega)]
theorem unfA_end {h : Nat} (u : Nat → Int) (i : Nat) (hi : i < 4 * h) : unfA h u h i = unfoldF (2 * h) u i := by unfold unfA; rw [if_pos (by omega)]
theorem unfA_start {h : Nat} (u : Nat → Int) (i : Nat) : unfA h u 0 i = 0 := by unfold unfA; rw [if_neg (by omega)]
set_option maxRecDepth 100000 in
theorem lapUnfold_any (h n N cap : Nat) (a : Option Addr) (u : Nat → Int) (w : World) (h1 : 1 ≤ h) (h2 : h ≤ 256) (hn : n = 2 * h) (hN : N = 4 * h) (hx : FnAt w w.heap.size .i32 a n u) (hb : ∀ j, j < n → -2147483647 ≤ u j ∧ u j ≤ 2147483647) :
    Calls Tryz.prog 192 #[.slice a n cap] w (RowPost .i32 21 N (unfoldF n u) w) := by
  have HN := Lib.hid hn
  have HNN := Lib.hid hN
  obtain ⟨b, off, rfl, hbl, hc⟩ := hx
  have HC := Lib.hid hc
  have HB := Lib.hid hb
  clear hc hb
  have hmk : ∀ w : World, (Instr.makeSlice 118 (.int .i64 (N : Int)) (.int .i64 (N : Int))).run Tryz.prog w = .ok (.slice (some ⟨w.heap.size, 0, none⟩) N N) (w.alloc (.cells (madeCells #[.int .i32 0] N) 21)) :=
    fun w => make_zeros (P := Tryz.prog) Tryz.underlying118 info_i32 N (by omega) (by omega) w
  have H0 : RowKit.Hid (IFun (w.alloc (.cells (madeCells #[.int .i32 0] N) 21)) w.heap.size 21 .i32 N (unfA h u 0) ∧ Below w.heap.size w (w.alloc (.cells (madeCells #[.int .i32 0] N) 21))) :=
    ⟨IFun.ext (IFun.zeros w 21 .i32 N) fun j _ => (unfA_start u j).symm, Below.alloc_new w _⟩
  have q1 : 2 * (n : Int) = (N : Int) := by omega
  have q3 : (n : Int) / 2 = (h : Int) := by omega
  have q4 : (n : Int).tdiv 2 = (h : Int) := by rw [Int.tdiv_eq_ediv_of_nonneg (by omega)]; exact q3
  have n1 : n ≤ 2 * h := by omega
  have n2 : 2 * h ≤ n := by omega
  have N1 : N ≤ 4 * h := by omega
  have N2 : 4 * h ≤ N := by omega
  clear hn hN
  go_enter Tryz.func192, Tryz.ntmps192
  go_wp2
  clear hmk q1 q3 q4
  generalize hg : w.heap.size = g at H0 hbl ⊢
  generalize (w.alloc (.cells (madeCells #[.int .i32 0] N) 21)) = w1 at H0 ⊢
  go_loopw [6, 15] (fun _ i wr => ∃ q : Nat, q ≤ h ∧ i = .int .i64 (q : Int) ∧ RowKit.Hid (IFun wr g 21 .i32 N (unfA h u q) ∧ Below g w wr)) (fun _ i _ => h - (intOf i).toNat)
  case atStart => exact ⟨0, by omega, rfl, H0.out⟩
  case round =>
    obtain ⟨q, hq, rfl, HI⟩ := hrel
    clear H0
    by_cases hlt : q < h
    · obtain ⟨p, hp⟩ : ∃ p, p = h + q := ⟨_, rfl⟩
      obtain ⟨r2, hr2⟩ : ∃ r2, r2 + 1 + q = 2 * h := ⟨2 * h - 1 - q, by omega⟩
      obtain ⟨r3, hr3⟩ : ∃ r3, r3 + 1 + q = 3 * h := ⟨3 * h - 1 - q, by omega⟩
      obtain ⟨r4, hr4⟩ : ∃ r4, r4 = 3 * h + q := ⟨_, rfl⟩
      have k1 := HC.out p (by omega)
      have k2 := HC.out q (by omega)
      obtain ⟨x10, x11⟩ := HB.out p (by omega)
      obtain ⟨x20, x21⟩ := HB.out q (by omega)
      have E1 := Lib.hid (unf_1 u hlt hp)
      have E2 := Lib.hid (unf_2 u hlt hp hr2)
      have E3 := Lib.hid (unf_3 u hlt hr3)
      have E4 := Lib.hid (unf_4 u hlt hr4)
      have EN := Lib.hid (unfA_next u hlt hr2 hr3 hr4)
      have e1 : (h : Int) + (q : Int) = (p : Int) := by omega
      have e2 : (n : Int) - 1 - (q : Int) = (r2 : Int) := by have := HN.out; omega
      have e3 : 3 * (h : Int) - 1 - (q : Int) = (r3 : Int) := by omega
      have e4 : 3 * (h : Int) + (q : Int) = (r4 : Int) := by omega
      have l1 : (p : Int) < (n : Int) := by have := HN.out; omega
      have l2 : (r2 : Int) < (N : Int) := by omega
      have l3 : (r3 : Int) < (N : Int) := by omega
      have l4 : (r4 : Int) < (N : Int) := by omega
      have l5 : (q : Int) < (n : Int) := by have := HN.out; omega
      have l6 : (q : Int) < (N : Int) := by omega
      have m1 : q ≠ r2 := by omega
      have m2 : q ≠ r3 := by omega
      have m3 : q ≠ r4 := by omega
      have m4 : r2 ≠ r3 := by omega
      have m5 : r2 ≠ r4 := by omega
      have m6 : r3 ≠ r4 := by omega
      have g1 : IntKind.i64.wrap (3 * (h : Int)) = 3 * (h : Int) := IntWalk.i64_in _ (by omega)
      have g2 : IntKind.i64.wrap (3 * (h : Int) - 1) = 3 * (h : Int) - 1 := IntWalk.i64_in _ (by omega)
      have g3 : IntKind.i64.wrap (p : Int) = (p : Int) := IntWalk.i64_in _ (by omega)
      have g4 : IntKind.i64.wrap (r2 : Int) = (r2 : Int) := IntWalk.i64_in _ (by omega)
      have g5 : IntKind.i64.wrap (r3 : Int) = (r3 : Int) := IntWalk.i64_in _ (by omega)
      have g6 : IntKind.i64.wrap (r4 : Int) = (r4 : Int) := IntWalk.i64_in _ (by omega)
      have g7 : IntKind.i64.wrap ((n : Int) - 1) = (n : Int) - 1 := IntWalk.i64_in _ (by omega)
      clear hp hr2 hr3 hr4
      have o1 := HI.out.1.cell (j := q) (by omega)
      have o2 := HI.out.1.cell (j := r2) (by omega)
      have f1 := HI.out.1.frozen q
      have f2 := HI.out.1.frozen r2
      have c1 := (HI.out.2.cell (p := ⟨b, off + p, none⟩) hbl).trans k1
      have HV1 : RowKit.Hid (∀ i, IFun ((((wr.drewN i).setCell ⟨g, q, none⟩ (.int .i32 (unfoldF (2 * h) u q))).setCell ⟨g, r2, none⟩ (.int .i32 (unfoldF (2 * h) u r2)))) g 21 .i32 N (fun i => if i = r2 then unfoldF (2 * h) u r2 else if i = q then unfoldF (2 * h) u q else unfA h u q i) ∧ Below g w ((((wr.drewN i).setCell ⟨g, q, none⟩ (.int .i32 (unfoldF (2 * h) u q))).setCell ⟨g, r2, none⟩ (.int .i32 (unfoldF (2 * h) u r2))))) := fun i =>
        ⟨((HI.out.1.drewN i).set (j := q) (by omega) (unfoldF (2 * h) u q)).set (j := r2) (by omega) (unfoldF (2 * h) u r2), Below.setCell (p := ⟨g, r2, none⟩) (Below.setCell (p := ⟨g, q, none⟩) (Below.drewN' HI.out.2 i) (Nat.le_refl _) _) (Nat.le_refl _) _⟩
      generalize hY1 : unfoldF (2 * h) u q = Y1 at HV1 E1
      generalize hY2 : unfoldF (2 * h) u r2 = Y2 at HV1 E2
      generalize u p = y1 at c1 x10 x11 k1 E1 E2
      have d1 : IntKind.i32.wrap (-y1) = -y1 := IntWalk.i32_in _ (by omega)
      have HY1 := Lib.hid hY1
      have HY2 := Lib.hid hY2
      clear HI hY1 hY2
      rw [E1.out, E2.out] at HV1
      generalize unfA h u q q = z1 at o1
      generalize unfA h u q r2 = z2 at o2
      go_wp2
      go_region
      all_goals
        go_wp2
        have HV2 : RowKit.Hid (IFun ((wr.setCell ⟨g, q, none⟩ (.int .i32 y1)).setCell ⟨g, r2, none⟩ (.int .i32 (-y1))).drew g 21 .i32 N (fun i => if i = r2 then -y1 else if i = q then y1 else unfA h u q i) ∧ Below g w ((wr.setCell ⟨g, q, none⟩ (.int .i32 y1)).setCell ⟨g, r2, none⟩ (.int .i32 (-y1))).drew) := ⟨(HV1.out 0).1.drewN 1, Below.drewN' (HV1.out 0).2 1⟩
        clear c1 o1 o2 f1 f2 HV1
        generalize ((wr.setCell ⟨g, q, none⟩ (.int .i32 y1)).setCell ⟨g, r2, none⟩ (.int .i32 (-y1))).drew = w2 at HV2 ⊢
        have c2 := (HV2.out.2.cell (p := ⟨b, off + q, none⟩) hbl).trans k2
        have o3 := HV2.out.1.cell (j := r3) (by omega)
        have o4 := HV2.out.1.cell (j := r4) (by omega)
        have f3 := HV2.out.1.frozen r3
        have f4 := HV2.out.1.frozen r4
        have HV3 : RowKit.Hid (IFun ((w2.setCell ⟨g, r3, none⟩ (.int .i32 (unfoldF (2 * h) u r3))).setCell ⟨g, r4, none⟩ (.int .i32 (unfoldF (2 * h) u r4))).drew g 21 .i32 N (unfA h u (q + 1)) ∧ Below g w ((w2.setCell ⟨g, r3, none⟩ (.int .i32 (unfoldF (2 * h) u r3))).setCell ⟨g, r4, none⟩ (.int .i32 (unfoldF (2 * h) u r4))).drew) := by
          refine ⟨IFun.ext (((HV2.out.1.set (j := r3) (by omega) (unfoldF (2 * h) u r3)).set (j := r4) (by omega) (unfoldF (2 * h) u r4)).drewN 1) fun i _ => ?_, Below.drewN' (Below.setCell (p := ⟨g, r4, none⟩) (Below.setCell (p := ⟨g, r3, none⟩) HV2.out.2 (Nat.le_refl _) _) (Nat.le_refl _) _) 1⟩
          have := EN.out i
          rw [HY1.out, HY2.out, E1.out, E2.out] at this
          exact this
        rw [E3.out, E4.out] at HV3
        clear HV2 EN HY1 HY2 E1 E2 E3 E4
        generalize u q = y2 at c2 x20 x21 k2 HV3
        have d2 : IntKind.i32.wrap (-y2) = -y2 := IntWalk.i32_in _ (by omega)
        generalize (if r3 = r2 then _ else _) = z3 at o3
        generalize (if r4 = r2 then _ else _) = z4 at o4
        go_region
        all_goals
          go_wp2
          go_roundw
          case rel => exact ⟨q + 1, by omega, by go_num, HV3.out⟩
          case measure => simp [intOf] <;> omega
    · obtain rfl : q = h := by omega
      have Z : RowKit.Hid (IFun wr g 21 .i32 N (unfoldF n u) ∧ Below g w wr) := ⟨IFun.ext HI.out.1 fun i hi => by rw [HN.out]; exact unfA_end u i (by have := HNN.out; omega), HI.out.2⟩
      go_wp2
      go_ret
      exact ⟨g, rfl, Z.out.1, by omega, by rw [hg]; exact Z.out.2⟩
end Go.Proofs.YtmgfkdmjgjlkjaaGreat

namespace Go.Proofs.YtmgfkdmjgjlkjaaGreat
open Go.RowKit
set_option linter.unusedVariables false
theorem turnF_wide {n : Nat} (hn : n = 128 ∨ n = 512) {u : Nat → Int} (hb : ∀ j, j < n → (u j).natAbs ≤ 33554432) (k : Nat) : (turnF n u k).natAbs ≤ 1073741824 := by
  have h1 := dotF_abs hb k
  rcases hn with rfl | rfl
  · have h2 := rnd27 (dotF 128 u k)
    rw [turnF_128]; omega
  · have h2 := rnd28 (dotF 512 u k)
    rw [turnF_512]; omega
theorem dotF_wide {n : Nat} (hn : n = 128 ∨ n = 512) {u : Nat → Int} (hb : ∀ j, j < n → (u j).natAbs ≤ 33554432) (k : Nat) : (dotF n u k).natAbs ≤ 288230376151711744 := by
  have h1 := dotF_abs hb k
  rcases hn with rfl | rfl <;> omega
def upTo (f f' : Nat → Int) (q i : Nat) : Int := if i < q then f i else f' i
theorem upTo_next (f f' : Nat → Int) (q i : Nat) : (if i = q then f q else upTo f f' q i) = upTo f f' (q + 1) i := by
  unfold upTo
  by_cases e : i = q
  · subst e; rw [if_pos rfl, if_pos (by omega)]
  · rw [if_neg e]
    by_cases c : i < q
    · rw [if_pos c, if_pos (by omega)]
    · rw [if_neg c, if_neg (by omega)]
theorem upTo_here (f f' : Nat → Int) (q : Nat) : upTo f f' q q = f' q := by unfold upTo; rw [if_neg (by omega)]
theorem upTo_end (f f' : Nat → Int) (n i : Nat) (h : i < n) : upTo f f' n i = f i := if_pos h
theorem upTo_start (f f' : Nat → Int) (i : Nat) : upTo f f' 0 i = f' i := by unfold upTo; rw [if_neg (by omega)]
set_option maxRecDepth 100000 in
theorem lapTurn_any (g c n cap : Nat) (a : Option Addr) (u : Nat → Int) (w : World) (hT : TrAt w g c n) (hn : n = 128 ∨ n = 512) (hu : FnAt w w.heap.size .i32 a n u) (hb : ∀ j, j < n → -33554432 ≤ u j ∧ u j ≤ 33554432) :
    Calls Tryz.prog 185 #[.pointer (some ⟨g, 0, none⟩), .slice a n cap] w (RowPost .i32 21 n (turnF n u) w) := by
  have HT := Lib.hid hT
  have HU := Lib.hid hu
  have HB := Lib.hid hb
  have Hn := Lib.hid hn
  have gl := hT.1.lt
  have cc := hT.cells.2
  obtain ⟨V, hV⟩ : ∃ V, V = 512 / n := ⟨_, rfl⟩
  have hV1 : V ≤ 4 := by rcases hn with rfl | rfl <;> omega
  have hVd : 512 / (n : Int) = (V : Int) := by rw [hV]; rcases hn with rfl | rfl <;> rfl
  have hVt : (512 : Int).tdiv (n : Int) = (V : Int) := by rw [Int.tdiv_eq_ediv_of_nonneg (by omega)]; exact hVd
  have hU : RowKit.Hid (∀ k, k < n → (2 * k + 1) * V ≤ 1023) := by
    intro k hk
    rw [hV]
    rcases hn with rfl | rfl <;> omega
  have HV := Lib.hid hV
  have n1 : 1 ≤ n := by omega
  have n2 : n ≤ 512 := by omega
  have n0 : ¬ (n : Int) = 0 := by omega
  clear hV hb hT hn hu
  have hmk : ∀ w : World, (Instr.makeSlice 118 (.int .i64 (n : Int)) (.int .i64 (n : Int))).run Tryz.prog w = .ok (.slice (some ⟨w.heap.size, 0, none⟩) n n) (w.alloc (.cells (madeCells #[.int .i32 0] n) 21)) :=
    fun w => make_zeros (P := Tryz.prog) Tryz.underlying118 info_i32 n (by omega) (by omega) w
  have H0 : RowKit.Hid (IFun (w.alloc (.cells (madeCells #[.int .i32 0] n) 21)) w.heap.size 21 .i32 n (upTo (turnF n u) (fun _ => 0) 0) ∧ Below w.heap.size w (w.alloc (.cells (madeCells #[.int .i32 0] n) 21))) :=
    ⟨IFun.ext (IFun.zeros w 21 .i32 n) fun j _ => (upTo_start (turnF n u) (fun _ => 0) j).symm, Below.alloc_new w _⟩
  have cc' := (H0.out.2.cell (p := ⟨g, 1, none⟩) gl).trans cc
  go_enter Tryz.func185, Tryz.ntmps185
  go_wp2
  clear hmk cc cc' hVd hVt
  generalize hg : w.heap.size = gg at H0 gl ⊢
  generalize (w.alloc (.cells (madeCells #[.int .i32 0] n) 21)) = w1 at H0 ⊢
  go_loopw [7, 18] (fun _ i wr => ∃ q : Nat, q ≤ n ∧ i = .int .i64 (q : Int) ∧ RowKit.Hid (IFun wr gg 21 .i32 n (upTo (turnF n u) (fun _ => 0) q) ∧ Below gg w wr)) (fun _ i _ => n - (intOf i).toNat)
  case atStart => exact ⟨0, by omega, rfl, H0.out⟩
  case round =>
    obtain ⟨q, hq, rfl, HI⟩ := hrel
    clear H0
    by_cases hlt : q < n
    · obtain ⟨U, hUe⟩ : ∃ U, U = (2 * q + 1) * V := ⟨_, rfl⟩
      have hU1 : U ≤ 1023 := by rw [hUe]; exact hU.out q hlt
      have hUi : (2 * (q : Int) + 1) * (V : Int) = (U : Int) := by rw [hUe]; simp
      have HTr : RowKit.Hid (TrAt wr g c n) := TrAt.below HT.out HI.out.2 (by omega)
      have HUr : RowKit.Hid (FnAt wr wr.heap.size .i32 a n u) := by
        refine (HU.out.below HI.out.2 (by omega)).grow ?_
        have := HI.out.2.size; omega
      have HW : RowKit.Hid (Calls Tryz.prog 196 #[.pointer (some ⟨g, 0, none⟩), .slice a n cap, .int .i64 (U : Int)] wr fun e w' => e = .returned (.int .i64 (dotF n u q)) ∧ wr = w') :=
        lapWeigh_any g c n cap q a u (U : Int) wr HTr.out Hn.out hlt HUr.out HB.out (by rw [hUe, HV.out])
      have HL : RowKit.Hid (Calls Tryz.prog 197 #[.pointer (some ⟨g, 0, none⟩)] wr fun e w' => e = .returned (.int .i64 (lossN n)) ∧ wr = w') := lapLoss_any g c n wr HTr.out Hn.out
      have hd := dotF_wide Hn.out (u := u) (fun j hj => by have := HB.out j hj; omega) q
      have ht := turnF_wide Hn.out (u := u) (fun j hj => by have := HB.out j hj; omega) q
      have HR : RowKit.Hid (rndP (dotF n u q) (lossN n) = turnF n u q) := rfl
      have o1 := HI.out.1.cell (j := q) (by omega)
      have f1 := HI.out.1.frozen q
      have HS : RowKit.Hid (IFun (wr.setCell ⟨gg, q, none⟩ (.int .i32 (turnF n u q))) gg 21 .i32 n (upTo (turnF n u) (fun _ => 0) (q + 1)) ∧ Below gg w (wr.setCell ⟨gg, q, none⟩ (.int .i32 (turnF n u q)))) :=
        ⟨IFun.ext (HI.out.1.set (j := q) (by omega) (turnF n u q)) fun i _ => upTo_next _ _ q i, Below.setCell (p := ⟨gg, q, none⟩) HI.out.2 (Nat.le_refl _) _⟩
      generalize turnF n u q = t at ht HR HS
      generalize dotF n u q = d at hd HW HR
      generalize lossN n = ls at HL HR
      generalize upTo (turnF n u) (fun _ => 0) q q = z at o1
      have t0 : -1073741824 ≤ t := by omega
      have t1 : t ≤ 1073741824 := by omega
      have l1 : (q : Int) < (n : Int) := by omega
      clear HI hUe ht
      go_wp2_with (first | (go_at_call 196; refine (HW.out).mono ?_; rintro e w' ⟨rfl, rfl⟩) | (go_at_call 197; refine (HL.out).mono ?_; rintro e w' ⟨rfl, rfl⟩) | (go_at_call 171; refine (round_any d ls _ (by omega) (by omega)).mono ?_; rintro e w' ⟨rfl, rfl⟩; rw [HR.out]))
      go_roundw
      case rel => exact ⟨q + 1, by omega, by go_num, HS.out⟩
      case measure => simp [intOf] <;> omega
    · obtain rfl : q = n := by omega
      have Z : RowKit.Hid (IFun wr gg 21 .i32 q (turnF q u) ∧ Below gg w wr) := ⟨IFun.ext HI.out.1 fun i hi => upTo_end _ _ q i hi, HI.out.2⟩
      go_wp2
      go_ret
      exact ⟨gg, rfl, Z.out.1, by omega, by rw [hg]; exact Z.out.2⟩
theorem satP_21 {x : Int} (h : -1048576 ≤ x) (h' : x ≤ 1048575) : satP x 21 = x := satP_self (by decide) (by decide) (by rw [show P2 ((21 : Int).toNat - 1) = 1048576 by decide]; omega) (by rw [show P2 ((21 : Int).toNat - 1) = 1048576 by decide]; omega)
theorem satP_26' {x : Int} (h : -33554432 ≤ x) (h' : x ≤ 33554431) : satP x 26 = x := satP_self (by decide) (by decide) (by rw [show P2 ((26 : Int).toNat - 1) = 33554432 by decide]; omega) (by rw [show P2 ((26 : Int).toNat - 1) = 33554432 by decide]; omega)
noncomputable def fwdF (n : Nat) (x : Nat → Int) (k : Nat) : Int := satP (turnF n (foldF n x) k) 26
noncomputable def backF (n : Nat) (l : Nat → Int) (i : Nat) : Int := unfoldF n (turnF n l) i
def RowsPost (n : Nat) (f : Nat → Int) (w : World) (e : Ending) (w' : World) : Prop :=
  ∃ g, e = .returned (.tuple #[.slice (some ⟨g, 0, none⟩) n n, .int .i64 0]) ∧ IFun w' g 21 .i32 n f ∧ w.heap.size ≤ g ∧ Below w.heap.size w w'
set_option maxRecDepth 100000 in
theorem lapForward_any (g c n N cap : Nat) (a : Option Addr) (x : Nat → Int) (w : World) (hT : TrAt w g c n) (hn : n = 128 ∨ n = 512) (hN : N = 2 * n) (hx : FnAt w w.heap.size .i32 a N x) (hb : ∀ j, j < N → -1048576 ≤ x j ∧ x j ≤ 1048575) :
    Calls Tryz.prog 155 #[.pointer (some ⟨g, 0, none⟩), .slice a N cap] w (RowsPost n (fwdF n x) w) := by
  have HT := Lib.hid hT
  have HX := Lib.hid hx
  have HB := Lib.hid hb
  have Hn := Lib.hid hn
  have HN := Lib.hid hN
  have cc := hT.cells.2
  have n1 : 1 ≤ n := by omega
  have n2 : n ≤ 512 := by omega
  have e1 : 2 * (n : Int) = (N : Int) := by omega
  have hF : RowKit.Hid (∀ j, j < n → (foldF n x j).natAbs ≤ 2097152) := fun j hj => foldF_abs (B := 1048576) (by omega) (fun i hi => by have := hb i (by omega); omega) hj
  clear hT hn hx hb
  have hN2 : N ≤ 1024 := by omega
  clear hN
  have K1 : RowKit.Hid (Calls Tryz.prog 183 #[.pointer (some ⟨g, 0, none⟩)] w fun e w' => e = .returned (.bool true) ∧ w = w') := lapMade_any g c n w HT.out Hn.out
  have K2 : RowKit.Hid (Calls Tryz.prog 184 #[.slice a N cap, .int .i64 N, .int .i64 21] w fun e w' => e = .returned (.bool true) ∧ w = w') :=
    lapFit_yes a N cap 21 x w HX.out (by omega) (fun j hj => by have := HB.out j hj; omega) (fun j hj => by have := HB.out j hj; exact satP_21 (by omega) (by omega))
  have K3 : RowKit.Hid (Calls Tryz.prog 186 #[.slice a N cap] w (RowPost .i32 21 n (foldF n x) w)) :=
    lapFold_any (n / 2) n N cap a x w (by have := Hn.out; omega) (by omega) (by have := Hn.out; omega) (by have := HN.out; have := Hn.out; omega) HX.out HB.out
  go_enter Tryz.func155, Tryz.ntmps155
  go_wp2_with (first | (go_at_call 183; refine (K1.out).mono ?_; rintro e w' ⟨rfl, rfl⟩) | (go_at_call 184; refine (K2.out).mono ?_; rintro e w' ⟨rfl, rfl⟩) | (go_at_call 186; go_loud (refine (K3.out).mono ?_); rintro e w1 ⟨g1, rfl, i1, s1, b1⟩; have I1 := Lib.hid i1; have S1 := Lib.hid s1; have B1 := Lib.hid b1; clear i1 s1 b1) | (go_at_call 185; go_loud (refine (lapTurn_any g c n n _ (foldF n x) _ (HT.out.below B1.out (Nat.le_refl _)) Hn.out (FnAt.of_ifun I1.out) (fun j hj => by have := hF.out j hj; omega)).mono ?_); rintro e w2 ⟨g2, rfl, i2, s2, b2⟩; have I2 := Lib.hid i2; have S2 : RowKit.Hid (w.heap.size ≤ g2) := Nat.le_trans B1.out.size s2; have B2 : RowKit.Hid (Below w.heap.size w w2) := chain B1.out b2; clear i2 s2 b2))
  clear cc
  have H0 : RowKit.Hid (IFun w2 g2 21 .i32 n (upTo (fwdF n x) (turnF n (foldF n x)) 0) ∧ Below w.heap.size w w2) := ⟨IFun.ext I2.out fun i _ => (upTo_start _ _ i).symm, B2.out⟩
  clear I1 S1 B1 I2 B2 K1 K2 K3
  go_loopw [7, 8, 28] (fun _ _ i wr => ∃ q : Nat, q ≤ n ∧ i = .int .i64 (q : Int) ∧ RowKit.Hid (IFun wr g2 21 .i32 n (upTo (fwdF n x) (turnF n (foldF n x)) q) ∧ Below w.heap.size w wr)) (fun _ _ i _ => n - (intOf i).toNat)
  case atStart => exact ⟨0, by omega, rfl, H0.out⟩
  case round =>
    obtain ⟨q, hq, rfl, HI⟩ := hrel
    clear H0
    by_cases hlt : q < n
    · have o1 := HI.out.1.cell (j := q) (by omega)
      rw [upTo_here] at o1
      have f1 := HI.out.1.frozen q
      have hb := turnF_wide Hn.out (u := foldF n x) (fun j hj => by have := hF.out j hj; omega) q
      have HS : RowKit.Hid (IFun (wr.setCell ⟨g2, q, none⟩ (.int .i32 (fwdF n x q))) g2 21 .i32 n (upTo (fwdF n x) (turnF n (foldF n x)) (q + 1)) ∧ Below w.heap.size w (wr.setCell ⟨g2, q, none⟩ (.int .i32 (fwdF n x q)))) :=
        ⟨IFun.ext (HI.out.1.set (j := q) (by omega) (fwdF n x q)) fun i _ => upTo_next _ _ q i, Below.setCell (p := ⟨g2, q, none⟩) HI.out.2 S2.out _⟩
      have HE : RowKit.Hid (satP (turnF n (foldF n x) q) 26 = fwdF n x q) := rfl
      obtain ⟨t0, t1⟩ := satP_26_bd (turnF n (foldF n x) q)
      rw [HE.out] at t0 t1
      generalize fwdF n x q = t at HS HE t0 t1
      generalize turnF n (foldF n x) q = d at o1 hb HE
      have d0 : -1073741824 ≤ d := by omega
      have d1 : d ≤ 1073741824 := by omega
      clear HI hb
      go_wp2_with (first | (go_at_call 172; refine (wide32_any d _ (by omega) (by omega)).mono ?_; rintro e w' ⟨rfl, rfl⟩) | (go_at_call 175; refine (sat_any d 26 _ (by omega) (by omega)).mono ?_; rintro e w' ⟨rfl, rfl⟩; rw [HE.out]))
      go_roundw
      case rel => exact ⟨q + 1, by omega, by go_num, HS.out⟩
      case measure => simp [intOf] <;> omega
    · obtain rfl : q = n := by omega
      have Z : RowKit.Hid (IFun wr g2 21 .i32 q (fwdF q x) ∧ Below w.heap.size w wr) := ⟨IFun.ext HI.out.1 fun i hi => upTo_end _ _ q i hi, HI.out.2⟩
      go_wp2
      go_ret2
      exact ⟨g2, rfl, Z.out.1, S2.out, Z.out.2⟩
set_option maxRecDepth 100000 in
theorem lapBack_any (g c n N cap : Nat) (a : Option Addr) (l : Nat → Int) (w : World) (hT : TrAt w g c n) (hn : n = 128 ∨ n = 512) (hN : N = 2 * n) (hx : FnAt w w.heap.size .i32 a n l) (hb : ∀ j, j < n → -33554432 ≤ l j ∧ l j ≤ 33554431) :
    Calls Tryz.prog 174 #[.pointer (some ⟨g, 0, none⟩), .slice a n cap] w (RowsPost N (backF n l) w) := by
  have HT := Lib.hid hT
  have HX := Lib.hid hx
  have HB := Lib.hid hb
  have Hn := Lib.hid hn
  have HN := Lib.hid hN
  have cc := hT.cells.2
  have n1 : 1 ≤ n := by omega
  have n2 : n ≤ 512 := by omega
  clear hT hn hx hb hN
  have K1 : RowKit.Hid (Calls Tryz.prog 183 #[.pointer (some ⟨g, 0, none⟩)] w fun e w' => e = .returned (.bool true) ∧ w = w') := lapMade_any g c n w HT.out Hn.out
  have K2 : RowKit.Hid (Calls Tryz.prog 184 #[.slice a n cap, .int .i64 n, .int .i64 26] w fun e w' => e = .returned (.bool true) ∧ w = w') :=
    lapFit_yes a n cap 26 l w HX.out (by omega) (fun j hj => by have := HB.out j hj; omega) (fun j hj => by have := HB.out j hj; exact satP_26' (by omega) (by omega))
  have K3 : RowKit.Hid (Calls Tryz.prog 185 #[.pointer (some ⟨g, 0, none⟩), .slice a n cap] w (RowPost .i32 21 n (turnF n l) w)) :=
    lapTurn_any g c n cap a l w HT.out Hn.out HX.out (fun j hj => by have := HB.out j hj; omega)
  have hF : RowKit.Hid (∀ k, -2147483647 ≤ turnF n l k ∧ turnF n l k ≤ 2147483647) := fun k => by
    have := turnF_wide Hn.out (u := l) (fun j hj => by have := HB.out j hj; omega) k
    omega
  go_enter Tryz.func174, Tryz.ntmps174
  go_wp2_with (first | (go_at_call 183; refine (K1.out).mono ?_; rintro e w' ⟨rfl, rfl⟩) | (go_at_call 184; refine (K2.out).mono ?_; rintro e w' ⟨rfl, rfl⟩) | (go_at_call 185; go_loud (refine (K3.out).mono ?_); rintro e w1 ⟨g1, rfl, i1, s1, b1⟩; have I1 := Lib.hid i1; have S1 := Lib.hid s1; have B1 := Lib.hid b1; clear i1 s1 b1) | (go_at_call 192; go_loud (refine (lapUnfold_any (n / 2) n N n _ (turnF n l) _ (by have := Hn.out; omega) (by omega) (by have := Hn.out; omega) (by have := HN.out; have := Hn.out; omega) (FnAt.of_ifun I1.out) (fun j hj => hF.out j)).mono ?_); rintro e w2 ⟨g2, rfl, i2, s2, b2⟩; have I2 := Lib.hid i2; have S2 : RowKit.Hid (w.heap.size ≤ g2) := Nat.le_trans B1.out.size s2; have B2 : RowKit.Hid (Below w.heap.size w w2) := chain B1.out b2; clear i2 s2 b2))
  go_ret2
  exact ⟨g2, rfl, I2.out, S2.out, B2.out⟩
end Go.Proofs.YtmgfkdmjgjlkjaaGreat
