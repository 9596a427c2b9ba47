/- What package lapped makes of numbers: folded. -/
import Derived.Test.YtgebnaeebdeoeaaLapC
namespace Go.Proofs.Ytgebnaeebdeoeaa
open Go.RowKit
set_option linter.unusedVariables false

/-! ### Folding -/
/-- Folded up to q, on both sides. -/
def foldA (h : Nat) (x : Nat → Int) (q i : Nat) : Int := if i < q ∨ (h ≤ i ∧ i < h + q) then foldF (2 * h) x i else 0
theorem foldF_low {h q p1 p2 : Nat} (x : Nat → Int) (hq : q < h) (h1 : p1 + 1 + q = 3 * h) (h2 : p2 = 3 * h + q) : foldF (2 * h) x q = -(x p1) - x p2 := by
  unfold foldF
  rw [show 2 * h / 2 = h by omega, if_pos hq, show 3 * h - 1 - q = p1 by omega, h2]
theorem foldF_high {h q p3 p4 : Nat} (x : Nat → Int) (hq : q < h) (h3 : p3 = h + q) (h4 : p4 + 1 + q = 2 * h) : foldF (2 * h) x p3 = x q - x p4 := by
  unfold foldF
  rw [show 2 * h / 2 = h by omega, if_neg (by omega), show p3 - h = q by omega, show 2 * h - 1 - q = p4 by omega]
theorem foldA_next {h q p3 : Nat} (x : Nat → Int) (hq : q < h) (h3 : p3 = h + q) (i : Nat) : (if i = p3 then foldF (2 * h) x p3 else if i = q then foldF (2 * h) x q else foldA h x q i) = foldA h x (q + 1) i := by
  unfold foldA
  by_cases e3 : i = p3
  · subst e3; rw [if_pos rfl, if_pos (by omega)]
  · rw [if_neg e3]
    by_cases e1 : i = q
    · subst e1; rw [if_pos rfl, if_pos (by omega)]
    · rw [if_neg e1]
      by_cases c : i < q ∨ (h ≤ i ∧ i < h + q)
      · rw [if_pos c, if_pos (by omega)]
      · rw [if_neg c, if_neg (by omega)]
theorem foldA_end {h : Nat} (x : Nat → Int) (i : Nat) (hi : i < 2 * h) : foldA h x h i = foldF (2 * h) x i := by unfold foldA; rw [if_pos (by omega)]
theorem foldA_start {h : Nat} (x : Nat → Int) (i : Nat) : foldA h x 0 i = 0 := by unfold foldA; rw [if_neg (by omega)]
def RowPost (k : IntKind) (t : TypeId) (n : Nat) (f : Nat → Int) (w : World) (e : Ending) (w' : World) : Prop :=
  ∃ g, e = .returned (.slice (some ⟨g, 0, none⟩) n n) ∧ IFun w' g t k n f ∧ w.heap.size ≤ g ∧ Below w.heap.size w w'
set_option maxRecDepth 100000 in
theorem lapFold_any (h n N cap : Nat) (a : Option Addr) (x : Nat → Int) (w : World) (h1 : 1 ≤ h) (h2 : h ≤ 256) (hn : n = 2 * h) (hN : N = 4 * h) (hx : FnAt w w.heap.size .i32 a N x) (hb : ∀ j, j < N → -1048576 ≤ x j ∧ x j ≤ 1048575) :
    Calls Try.prog 50 #[.slice a N cap] w (RowPost .i32 21 n (foldF n x) w) := by
  have HN := Lib.hid hn
  obtain ⟨b, off, rfl, hbl, hc⟩ := hx
  have HC := Lib.hid hc
  have HB := Lib.hid hb
  clear hc hb
  have hmk : ∀ w : World, (Instr.makeSlice 31 (.int .i64 (n : Int)) (.int .i64 (n : Int))).run Try.prog w = .ok (.slice (some ⟨w.heap.size, 0, none⟩) n n) (w.alloc (.cells (madeCells #[.int .i32 0] n) 21)) :=
    fun w => make_zeros (P := Try.prog) Try.underlying31 info_i32 n (by omega) (by omega) w
  have H0 : RowKit.Hid (IFun (w.alloc (.cells (madeCells #[.int .i32 0] n) 21)) w.heap.size 21 .i32 n (foldA h x 0) ∧ Below w.heap.size w (w.alloc (.cells (madeCells #[.int .i32 0] n) 21))) :=
    ⟨IFun.ext (IFun.zeros w 21 .i32 n) fun j _ => (foldA_start x j).symm, Below.alloc_new w _⟩
  have q1 : (N : Int) / 2 = (n : Int) := by omega
  have q2 : (N : Int).tdiv 2 = (n : Int) := by rw [Int.tdiv_eq_ediv_of_nonneg (by omega)]; exact q1
  have q3 : (n : Int) / 2 = (h : Int) := by omega
  have q4 : (n : Int).tdiv 2 = (h : Int) := by rw [Int.tdiv_eq_ediv_of_nonneg (by omega)]; exact q3
  have n1 : n ≤ 2 * h := by omega
  have n2 : 2 * h ≤ n := by omega
  have N1 : N ≤ 4 * h := by omega
  have N2 : 4 * h ≤ N := by omega
  clear hn hN
  go_enter Try.func50, Try.ntmps50
  go_wp2
  clear hmk q1 q2 q3 q4
  generalize hg : w.heap.size = g at H0 hbl ⊢
  generalize (w.alloc (.cells (madeCells #[.int .i32 0] n) 21)) = w1 at H0 ⊢
  go_loopw [6, 15] (fun _ i wr => ∃ q : Nat, q ≤ h ∧ i = .int .i64 (q : Int) ∧ RowKit.Hid (IFun wr g 21 .i32 n (foldA h x q) ∧ Below g w wr)) (fun _ i _ => h - (intOf i).toNat)
  case atStart => exact ⟨0, by omega, rfl, H0.out⟩
  case round =>
    obtain ⟨q, hq, rfl, HI⟩ := hrel
    clear H0
    by_cases hlt : q < h
    · obtain ⟨p1, hp1⟩ : ∃ p1, p1 + 1 + q = 3 * h := ⟨3 * h - 1 - q, by omega⟩
      obtain ⟨p2, hp2⟩ : ∃ p2, p2 = 3 * h + q := ⟨_, rfl⟩
      obtain ⟨p3, hp3⟩ : ∃ p3, p3 = h + q := ⟨_, rfl⟩
      obtain ⟨p4, hp4⟩ : ∃ p4, p4 + 1 + q = 2 * h := ⟨2 * h - 1 - q, by omega⟩
      have k1 := HC.out p1 (by omega)
      have k2 := HC.out p2 (by omega)
      have k3 := HC.out q (by omega)
      have k4 := HC.out p4 (by omega)
      obtain ⟨x10, x11⟩ := HB.out p1 (by omega)
      obtain ⟨x20, x21⟩ := HB.out p2 (by omega)
      obtain ⟨x30, x31⟩ := HB.out q (by omega)
      obtain ⟨x40, x41⟩ := HB.out p4 (by omega)
      have o1 := HI.out.1.cell (j := q) (by omega)
      have f1 := HI.out.1.frozen q
      have E1 := Lib.hid (foldF_low x hlt hp1 hp2)
      have E2 := Lib.hid (foldF_high x hlt hp3 hp4)
      have HV1 : RowKit.Hid (IFun ((wr.setCell ⟨g, q, none⟩ (.int .i32 (foldF (2 * h) x q))).drew) g 21 .i32 n (fun i => if i = q then foldF (2 * h) x q else foldA h x q i) ∧ Below g w ((wr.setCell ⟨g, q, none⟩ (.int .i32 (foldF (2 * h) x q))).drew)) :=
        ⟨(HI.out.1.set (j := q) (by omega) (foldF (2 * h) x q)).drewN 1, Below.drewN' (Below.setCell (p := ⟨g, q, none⟩) HI.out.2 (Nat.le_refl _) _) 1⟩
      have B2 := HI.out.2
      generalize hY1 : foldF (2 * h) x q = Y1 at HV1 E1
      have c1 := (B2.cell (p := ⟨b, off + p1, none⟩) hbl).trans k1
      have c2 := (B2.cell (p := ⟨b, off + p2, none⟩) hbl).trans k2
      have HYb : RowKit.Hid (Y1 = -(x p1) - x p2) := E1.out
      clear B2 HI E1
      generalize x p1 = y1 at c1 x10 x11 HYb k1
      generalize x p2 = y2 at c2 x20 x21 HYb k2
      generalize foldA h x q q = z1 at o1
      have e1 : 3 * (h : Int) - 1 - (q : Int) = (p1 : Int) := by omega
      have e2 : 3 * (h : Int) + (q : Int) = (p2 : Int) := by omega
      have e3 : (h : Int) + (q : Int) = (p3 : Int) := by omega
      have e4 : (n : Int) - 1 - (q : Int) = (p4 : Int) := by have := HN.out; omega
      have l1 : (p1 : Int) < (N : Int) := by omega
      have l2 : (p2 : Int) < (N : Int) := by omega
      have l3 : (p3 : Int) < (n : Int) := by have := HN.out; omega
      have l4 : (p4 : Int) < (N : Int) := by omega
      have l5 : (q : Int) < (n : Int) := by have := HN.out; omega
      have l6 : (q : Int) < (N : Int) := by omega
      have g1 : IntKind.i64.wrap (3 * (h : Int)) = 3 * (h : Int) := IntWalk.i64_in _ (by omega)
      have g2 : IntKind.i64.wrap (3 * (h : Int) - 1) = 3 * (h : Int) - 1 := IntWalk.i64_in _ (by omega)
      have g3 : IntKind.i64.wrap (p1 : Int) = (p1 : Int) := IntWalk.i64_in _ (by omega)
      have g4 : IntKind.i64.wrap (p2 : Int) = (p2 : Int) := IntWalk.i64_in _ (by omega)
      have g5 : IntKind.i64.wrap (p3 : Int) = (p3 : Int) := IntWalk.i64_in _ (by omega)
      have g6 : IntKind.i64.wrap (p4 : Int) = (p4 : Int) := IntWalk.i64_in _ (by omega)
      have g7 : IntKind.i64.wrap ((n : Int) - 1) = (n : Int) - 1 := IntWalk.i64_in _ (by omega)
      have g8 : IntKind.i32.wrap (-y1) = -y1 := IntWalk.i32_in _ (by omega)
      have g9 : IntKind.i32.wrap (-y1 - y2) = -y1 - y2 := IntWalk.i32_in _ (by omega)
      have HP3 := Lib.hid hp3
      clear hp1 hp2 hp3 hp4
      rw [HYb.out] at HV1
      go_wp2
      go_still_tail 20, (by kernel_rfl)
      repeat still_step
      change wpList _ _ _ _ _ wr.drew
      go_wp2
      clear c1 c2 o1 f1
      generalize (wr.setCell ⟨g, q, none⟩ (Value.int IntKind.i32 (-y1 - y2))).drew = w2 at HV1 ⊢
      have c3 := (HV1.out.2.cell (p := ⟨b, off + q, none⟩) hbl).trans k3
      have c4 := (HV1.out.2.cell (p := ⟨b, off + p4, none⟩) hbl).trans k4
      have o2 := HV1.out.1.cell (j := p3) (by omega)
      have f2 := HV1.out.1.frozen p3
      have HV : RowKit.Hid (IFun ((w2.setCell ⟨g, p3, none⟩ (.int .i32 (foldF (2 * h) x p3))).drew) g 21 .i32 n (foldA h x (q + 1)) ∧ Below g w ((w2.setCell ⟨g, p3, none⟩ (.int .i32 (foldF (2 * h) x p3))).drew)) := by
        refine ⟨IFun.ext ((HV1.out.1.set (j := p3) (by omega) (foldF (2 * h) x p3)).drewN 1) fun i _ => ?_, Below.drewN' (Below.setCell (p := ⟨g, p3, none⟩) HV1.out.2 (Nat.le_refl _) _) 1⟩
        have := foldA_next x hlt HP3.out i
        rw [hY1, HYb.out] at this
        exact this
      rw [E2.out] at HV
      clear HV1 HYb hY1 E2
      generalize x q = y3 at c3 k3 x30 x31 HV
      generalize x p4 = y4 at c4 k4 x40 x41 HV
      generalize (if p3 = q then _ else _) = z2 at o2
      have g10 : IntKind.i32.wrap (y3 - y4) = y3 - y4 := IntWalk.i32_in _ (by omega)
      go_still_tail 17, (by kernel_rfl)
      repeat still_step
      change wpList _ _ _ _ _ w2.drew
      go_wp2
      go_roundw
      case rel => exact ⟨q + 1, by omega, by go_num, HV.out⟩
      case measure => simp [intOf] <;> omega
    · obtain rfl : q = h := by omega
      have Z : RowKit.Hid (IFun wr g 21 .i32 n (foldF n x) ∧ Below g w wr) := ⟨IFun.ext HI.out.1 fun i hi => by rw [HN.out]; exact foldA_end x i (by have := HN.out; omega), HI.out.2⟩
      go_wp2
      go_ret
      exact ⟨g, rfl, Z.out.1, by omega, by rw [hg]; exact Z.out.2⟩
end Go.Proofs.Ytgebnaeebdeoeaa
