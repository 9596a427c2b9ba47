/- Plain facts, and what functions give, for the proofs of this seat: several texts in one, each with its own first remark. -/
import Derived.BigRegion
import Derived.Test.YtmgfkdmjgjlkjaaGreatAp

namespace Go.Proofs.YtmgfkdmjgjlkjaaGreat
open Go.RowKit
set_option linter.unusedVariables false
def FnAt (w : World) (B : Nat) (k : IntKind) (a : Option Addr) (n : Nat) (f : Nat → Int) : Prop :=
  ∃ b off, a = some ⟨b, off, none⟩ ∧ b < B ∧ ∀ j, j < n → w.cell? ⟨b, off + j, none⟩ = some (.int k (f j))
theorem FnAt.below {w w' : World} {B B' n : Nat} {k : IntKind} {a : Option Addr} {f : Nat → Int} (h : FnAt w B k a n f) (hb : Below B' w w') (hB : B ≤ B') : FnAt w' B k a n f := by
  obtain ⟨b, off, e, h3, h5⟩ := h
  exact ⟨b, off, e, h3, fun j hj => (hb.cell (p := ⟨b, off + j, none⟩) (by show b < _; omega)).trans (h5 j hj)⟩
theorem FnAt.grow {w : World} {B B' n : Nat} {k : IntKind} {a : Option Addr} {f : Nat → Int} (h : FnAt w B k a n f) (hB : B ≤ B') : FnAt w B' k a n f := by
  obtain ⟨b, off, e, h3, h5⟩ := h
  exact ⟨b, off, e, by omega, h5⟩
theorem FnAt.now {w w' : World} {n : Nat} {k : IntKind} {a : Option Addr} {f : Nat → Int} (h : FnAt w w.heap.size k a n f) (hb : Below w.heap.size w w') : FnAt w' w'.heap.size k a n f :=
  (h.below hb (Nat.le_refl _)).grow hb.size
theorem FnAt.of_ifun {w : World} {g n : Nat} {t : TypeId} {k : IntKind} {f : Nat → Int} (h : IFun w g t k n f) : FnAt w w.heap.size k (some ⟨g, 0, none⟩) n f :=
  ⟨g, 0, rfl, h.lt, fun j hj => by rw [Nat.zero_add]; exact h.cell hj⟩
theorem FnAt.ext {w : World} {B n : Nat} {k : IntKind} {a : Option Addr} {f f' : Nat → Int} (h : FnAt w B k a n f) (he : ∀ j, j < n → f j = f' j) : FnAt w B k a n f' := by
  obtain ⟨b, off, e, h3, h5⟩ := h
  exact ⟨b, off, e, h3, fun j hj => by rw [h5 j hj, he j hj]⟩
theorem FnAt.of_ints {w : World} {B n : Nat} {k : IntKind} {a : Option Addr} {zs : List Int} (h : IntsAt w B k a n zs) (h0 : 0 < n) : FnAt w B k a n (fun j => zs.getD j 0) := by
  obtain ⟨b, off, e, h1, h2, h3⟩ := h.2.resolve_left (by omega)
  exact ⟨b, off, e, h1, h3⟩
theorem info_i32 : (Tryz.prog.info? 21).map (fun i => (i.zero, i.size, i.bytes)) = some (some (.int .i32 0), 1, 4) := by kernel_rfl
theorem circCos_same (g : Nat) (i : Int) (w : World) (hg : CircAt w g) (hi : -9223372036854775808 ≤ i) (hi' : i ≤ 9223372036854775807) :
    Calls Tryz.prog 195 #[.pointer (some ⟨g, 0, none⟩), .int .i64 i] w fun e w' => e = .returned (.int .i32 (cosP i)) ∧ w = w' := by
  have HG := Lib.hid hg; clear hg
  rw [cosP_q]
  obtain ⟨P, n, h, hP, hn, hc⟩ := circle_in i
  have hcell := HG.out.cell (j := n) (by omega)
  obtain ⟨x0, x1⟩ := cosN_bd (i := n) (by omega)
  have hand : bits .and .i64 i 4095 = (P : Int) := by rw [i64_and4095]; exact h
  clear h
  rcases hc with ⟨a1, a2, e⟩ | ⟨a1, a2, a3, e⟩ | ⟨a1, a2, a3, e⟩ | ⟨a1, a2, e⟩
  all_goals
    rw [e]
    clear e
    generalize cosN n = x at hcell x0 x1 ⊢
    try subst a2
    go_enter Tryz.func195, Tryz.ntmps195
    go_wp2
    all_goals (go_ret; exact ⟨rfl, rfl⟩)
def TrAt (w : World) (g c n : Nat) : Prop := Cel w g 234 #[.pointer (some ⟨c, 0, none⟩), .int .i64 n] ∧ CircAt w c
theorem TrAt.below {w w' : World} {g c n B : Nat} (h : TrAt w g c n) (hb : Below B w w') (hB : w.heap.size ≤ B) : TrAt w' g c n :=
  ⟨h.1.keep (hb.block g (by have := h.1.lt; omega)), h.2.keep (hb.block c (by have := h.2.lt; omega))⟩
theorem TrAt.cells {w : World} {g c n : Nat} (h : TrAt w g c n) : w.cell? ⟨g, 0, none⟩ = some (.pointer (some ⟨c, 0, none⟩)) ∧ w.cell? ⟨g, 1, none⟩ = some (.int .i64 n) :=
  ⟨by rw [h.1.cell 0]; rfl, by rw [h.1.cell 1]; rfl⟩
def LapNewPost (n c : Nat) (w : World) (x : Ending) (w' : World) : Prop :=
  ∃ g, x = .returned (.tuple #[.pointer (some ⟨g, 0, none⟩), .int .i64 0]) ∧ TrAt w' g c n ∧ Below w.heap.size w w'
theorem lapNew_any (n c : Nat) (w : World) (hn : n = 128 ∨ n = 512) (hc : CircAt w c) :
    Calls Tryz.prog 123 #[.int .i64 n, .pointer (some ⟨c, 0, none⟩)] w (LapNewPost n c w) := by
  have HT : RowKit.Hid (TrAt (w.alloc (.cells #[.pointer (some ⟨c, 0, none⟩), .int .i64 n] 234)) w.heap.size c n ∧ Below w.heap.size w (w.alloc (.cells #[.pointer (some ⟨c, 0, none⟩), .int .i64 n] 234))) :=
    ⟨⟨Cel.new w _ _, hc.keep (Below.heap_alloc w _ c hc.lt)⟩, Below.alloc_new w _⟩
  rcases hn with rfl | rfl
  all_goals
    go_enter Tryz.func123, Tryz.ntmps123
    go_wp2
    go_ret2
    exact ⟨_, rfl, HT.out.1, HT.out.2⟩
theorem lapMade_any (g c n : Nat) (w : World) (hT : TrAt w g c n) (hn : n = 128 ∨ n = 512) :
    Calls Tryz.prog 183 #[.pointer (some ⟨g, 0, none⟩)] w fun e w' => e = .returned (.bool true) ∧ w = w' := by
  have c1 := hT.cells.2
  clear hT
  rcases hn with rfl | rfl
  all_goals
    go_enter Tryz.func183, Tryz.ntmps183
    go_wp2
    go_ret
    exact ⟨rfl, rfl⟩
theorem lapLoss_any (g c n : Nat) (w : World) (hT : TrAt w g c n) (hn : n = 128 ∨ n = 512) :
    Calls Tryz.prog 197 #[.pointer (some ⟨g, 0, none⟩)] w fun e w' => e = .returned (.int .i64 (lossN n)) ∧ w = w' := by
  have c1 := hT.cells.2
  clear hT
  rcases hn with rfl | rfl
  all_goals
    go_enter Tryz.func197, Tryz.ntmps197
    go_wp2
    go_ret
    exact ⟨rfl, rfl⟩
set_option maxRecDepth 100000 in
theorem lapFit_yes (a : Option Addr) (n cap : Nat) (wide : Int) (f : Nat → Int) (w : World) (hf : FnAt w w.heap.size .i32 a n f) (hl : n ≤ 1000000) (hb : ∀ j, j < n → -2147483648 ≤ f j ∧ f j ≤ 2147483647) (hy : ∀ j, j < n → satP (f j) wide = f j) :
    Calls Tryz.prog 184 #[.slice a n cap, .int .i64 n, .int .i64 wide] w fun e w' => e = .returned (.bool true) ∧ w = w' := by
  obtain ⟨b, off, rfl, _, hc⟩ := hf
  have HC := Lib.hid hc
  have HB := Lib.hid hb
  have HY := Lib.hid hy
  clear hc hb hy
  go_enter Tryz.func184, Tryz.ntmps184
  go_wp2
  go_loop [15] (fun i => ∃ k : Nat, k ≤ n ∧ i = .int .i64 (k : Int)) (fun i => n - (intOf i).toNat)
  case atStart => exact ⟨0, by omega, rfl⟩
  case round =>
    obtain ⟨k, hk, rfl⟩ := hrel
    by_cases hlt : k < n
    · have hcell := HC.out k hlt
      obtain ⟨b0, b1⟩ := HB.out k hlt
      have E := Lib.hid (HY.out k hlt)
      generalize f k = x at hcell b0 b1 E
      go_wp2_with (first | (go_at_call 172; refine (wide32_any x _ b0 b1).mono ?_; rintro e w' ⟨rfl, rfl⟩) | (go_at_call 175; refine (sat_any x wide _ (by omega) (by omega)).mono ?_; rintro e w' ⟨rfl, rfl⟩; rw [E.out]))
      go_round
      case rel => exact ⟨k + 1, by omega, by go_num⟩
      case measure => simp [intOf]; omega
    · go_wp2
      go_ret
      exact ⟨rfl, rfl⟩
set_option maxRecDepth 100000 in
theorem lapWeigh_any (g c n cap k : Nat) (a : Option Addr) (u : Nat → Int) (U : Int) (w : World) (hT : TrAt w g c n) (hn : n = 128 ∨ n = 512) (hk : k < n) (hu : FnAt w w.heap.size .i32 a n u) (hb : ∀ j, j < n → -33554432 ≤ u j ∧ u j ≤ 33554432) (hU : U = ((2 * k + 1) * (512 / n) : Nat)) :
    Calls Tryz.prog 196 #[.pointer (some ⟨g, 0, none⟩), .slice a n cap, .int .i64 U] w fun e w' => e = .returned (.int .i64 (dotF n u k)) ∧ w = w' := by
  obtain ⟨b, off, rfl, _, hc⟩ := hu
  have HC := Lib.hid hc
  have HB := Lib.hid hb
  have HG := Lib.hid hT.2
  have c0 := hT.cells.1
  clear hc hb hT
  obtain ⟨V, hV⟩ : ∃ V, V = (2 * k + 1) * (512 / n) := ⟨_, rfl⟩
  rw [← hV] at hU
  have hV1 : V ≤ 1023 := by rcases hn with rfl | rfl <;> omega
  have hn2 : n ≤ 512 := by omega
  have HA : RowKit.Hid (∀ q, cosA n q k = cosP (((2 * q + 1) * V : Nat) : Int)) := by intro q; unfold cosA; rw [hV, Nat.mul_assoc]
  have HD : RowKit.Hid (dotF n u k = sumF (fun j => u j * cosA n j k) n) := rfl
  subst hU
  clear hV hn hk
  go_enter Tryz.func196, Tryz.ntmps196
  go_wp2
  go_loop [7, 8, 14] (fun s t i => ∃ q A : Nat, q ≤ n ∧ A ≤ 1023 + 2046 * q ∧ i = .int .i64 (q : Int) ∧ t = .int .i64 (A : Int) ∧ RowKit.Hid (A = (2 * q + 1) * V) ∧ s = .int .i64 (sumF (fun j => u j * cosA n j k) q)) (fun _ _ i => n - (intOf i).toNat)
  case atStart => exact ⟨0, V, by omega, by omega, rfl, rfl, by show V = _; omega, rfl⟩
  case round =>
    obtain ⟨q, A, hq, hA, rfl, rfl, HQ, rfl⟩ := hrel
    by_cases hlt : q < n
    · have hcell := HC.out q hlt
      obtain ⟨b0, b1⟩ := HB.out q hlt
      have hs := sumF_abs (f := fun j => u j * cosA n j k) (n := q) (B := 33554432 * 16777216) fun j hj => mul_abs (by have := HB.out j (by omega); omega) (cosA_abs n j k)
      have E : RowKit.Hid (sumF (fun j => u j * cosA n j k) (q + 1) = sumF (fun j => u j * cosA n j k) q + u q * cosP (A : Int)) := by
        show _ = _
        rw [sumF_succ, HA.out, HQ.out]
      have HN : RowKit.Hid (A + 2 * V = (2 * (q + 1) + 1) * V) := by
        show _ = _
        rw [HQ.out, ← Nat.add_mul]; congr 1
      have hx := cosP_bd (A : Int)
      have hp : (u q * cosP (A : Int)).natAbs ≤ 33554432 * 16777216 := mul_abs (by omega) (cosP_abs _)
      have HX : RowKit.Hid (Calls Tryz.prog 195 #[.pointer (some ⟨c, 0, none⟩), .int .i64 (A : Int)] w fun e w' => e = .returned (.int .i32 (cosP (A : Int))) ∧ w = w') := circCos_same c (A : Int) w HG.out (by omega) (by omega)
      generalize sumF (fun j => u j * cosA n j k) q = s at hs E
      generalize u q = y at hcell b0 b1 E hp
      generalize cosP (A : Int) = x at hx E hp HX
      obtain ⟨x0, x1⟩ := hx
      have p0 : -562949953421312 ≤ y * x := by omega
      have p1 : y * x ≤ 562949953421312 := by omega
      have s0 : -288230376151711744 ≤ s := by omega
      have s1 : s ≤ 288230376151711744 := by omega
      clear hp hs
      go_wp2_with (go_at_call 195; refine (HX.out).mono ?_; rintro e w' ⟨rfl, rfl⟩)
      go_round
      case rel => exact ⟨q + 1, A + 2 * V, by omega, by omega, by go_num, by go_num, HN.out, by rw [E.out]⟩
      case measure => simp [intOf]; omega
    · obtain rfl : q = n := by omega
      go_wp2
      go_ret
      exact ⟨ret_int HD.out.symm, rfl⟩
end Go.Proofs.YtmgfkdmjgjlkjaaGreat

namespace Go.Proofs.YtmgfkdmjgjlkjaaGreat
open Go.RowKit
set_option linter.unusedVariables false
def foldA (h : Nat) (x : Nat → Int) (q i : Nat) : Int := if i < q ∨ (h ≤ i ∧ i < h + q) then foldF (2 * h) x i else 0
theorem foldF_low {h q p1 p2 : Nat} (x : Nat → Int) (hq : q < h) (h1 : p1 + 1 + q = 3 * h) (h2 : p2 = 3 * h + q) : foldF (2 * h) x q = -(x p1) - x p2 := by
  unfold foldF
  rw [show 2 * h / 2 = h by omega, if_pos hq, show 3 * h - 1 - q = p1 by omega, h2]
theorem foldF_high {h q p3 p4 : Nat} (x : Nat → Int) (hq : q < h) (h3 : p3 = h + q) (h4 : p4 + 1 + q = 2 * h) : foldF (2 * h) x p3 = x q - x p4 := by
  unfold foldF
  rw [show 2 * h / 2 = h by omega, if_neg (by omega), show p3 - h = q by omega, show 2 * h - 1 - q = p4 by omega]
theorem foldA_next {h q p3 : Nat} (x : Nat → Int) (hq : q < h) (h3 : p3 = h + q) (i : Nat) : (if i = p3 then foldF (2 * h) x p3 else if i = q then foldF (2 * h) x q else foldA h x q i) = foldA h x (q + 1) i := by
  unfold foldA
  by_cases e3 : i = p3
  · subst e3; rw [if_pos rfl, if_pos (by omega)]
  · rw [if_neg e3]
    by_cases e1 : i = q
    · subst e1; rw [if_pos rfl, if_pos (by omega)]
    · rw [if_neg e1]
      by_cases c : i < q ∨ (h ≤ i ∧ i < h + q)
      · rw [if_pos c, if_pos (by omega)]
      · rw [if_neg c, if_neg (by omega)]
theorem foldA_end {h : Nat} (x : Nat → Int) (i : Nat) (hi : i < 2 * h) : foldA h x h i = foldF (2 * h) x i := by unfold foldA; rw [if_pos (by omega)]
theorem foldA_start {h : Nat} (x : Nat → Int) (i : Nat) : foldA h x 0 i = 0 := by unfold foldA; rw [if_neg (by omega)]
def RowPost (k : IntKind) (t : TypeId) (n : Nat) (f : Nat → Int) (w : World) (e : Ending) (w' : World) : Prop :=
  ∃ g, e = .returned (.slice (some ⟨g, 0, none⟩) n n) ∧ IFun w' g t k n f ∧ w.heap.size ≤ g ∧ Below w.heap.size w w'
set_option maxRecDepth 100000 in
theorem lapFold_any (h n N cap : Nat) (a : Option Addr) (x : Nat → Int) (w : World) (h1 : 1 ≤ h) (h2 : h ≤ 256) (hn : n = 2 * h) (hN : N = 4 * h) (hx : FnAt w w.heap.size .i32 a N x) (hb : ∀ j, j < N → -1048576 ≤ x j ∧ x j ≤ 1048575) :
    Calls Tryz.prog 186 #[.slice a N cap] w (RowPost .i32 21 n (foldF n x) w) := by
  have HN := Lib.hid hn
  obtain ⟨b, off, rfl, hbl, hc⟩ := hx
  have HC := Lib.hid hc
  have HB := Lib.hid hb
  clear hc hb
  have hmk : ∀ w : World, (Instr.makeSlice 118 (.int .i64 (n : Int)) (.int .i64 (n : Int))).run Tryz.prog w = .ok (.slice (some ⟨w.heap.size, 0, none⟩) n n) (w.alloc (.cells (madeCells #[.int .i32 0] n) 21)) :=
    fun w => make_zeros (P := Tryz.prog) Tryz.underlying118 info_i32 n (by omega) (by omega) w
  have H0 : RowKit.Hid (IFun (w.alloc (.cells (madeCells #[.int .i32 0] n) 21)) w.heap.size 21 .i32 n (foldA h x 0) ∧ Below w.heap.size w (w.alloc (.cells (madeCells #[.int .i32 0] n) 21))) :=
    ⟨IFun.ext (IFun.zeros w 21 .i32 n) fun j _ => (foldA_start x j).symm, Below.alloc_new w _⟩
  have q1 : (N : Int) / 2 = (n : Int) := by omega
  have q2 : (N : Int).tdiv 2 = (n : Int) := by rw [Int.tdiv_eq_ediv_of_nonneg (by omega)]; exact q1
  have q3 : (n : Int) / 2 = (h : Int) := by omega
  have q4 : (n : Int).tdiv 2 = (h : Int) := by rw [Int.tdiv_eq_ediv_of_nonneg (by omega)]; exact q3
  have n1 : n ≤ 2 * h := by omega
  have n2 : 2 * h ≤ n := by omega
  have N1 : N ≤ 4 * h := by omega
  have N2 : 4 * h ≤ N := by omega
  clear hn hN
  go_enter Tryz.func186, Tryz.ntmps186
  go_wp2
  clear hmk q1 q2 q3 q4
  generalize hg : w.heap.size = g at H0 hbl ⊢
  generalize (w.alloc (.cells (madeCells #[.int .i32 0] n) 21)) = w1 at H0 ⊢
  go_loopw [6, 15] (fun _ i wr => ∃ q : Nat, q ≤ h ∧ i = .int .i64 (q : Int) ∧ RowKit.Hid (IFun wr g 21 .i32 n (foldA h x q) ∧ Below g w wr)) (fun _ i _ => h - (intOf i).toNat)
  case atStart => exact ⟨0, by omega, rfl, H0.out⟩
  case round =>
    obtain ⟨q, hq, rfl, HI⟩ := hrel
    clear H0
    by_cases hlt : q < h
    · obtain ⟨p1, hp1⟩ : ∃ p1, p1 + 1 + q = 3 * h := ⟨3 * h - 1 - q, by omega⟩
      obtain ⟨p2, hp2⟩ : ∃ p2, p2 = 3 * h + q := ⟨_, rfl⟩
      obtain ⟨p3, hp3⟩ : ∃ p3, p3 = h + q := ⟨_, rfl⟩
      obtain ⟨p4, hp4⟩ : ∃ p4, p4 + 1 + q = 2 * h := ⟨2 * h - 1 - q, by omega⟩
      have k1 := HC.out p1 (by omega)
      have k2 := HC.out p2 (by omega)
      have k3 := HC.out q (by omega)
      have k4 := HC.out p4 (by omega)
      obtain ⟨x10, x11⟩ := HB.out p1 (by omega)
      obtain ⟨x20, x21⟩ := HB.out p2 (by omega)
      obtain ⟨x30, x31⟩ := HB.out q (by omega)
      obtain ⟨x40, x41⟩ := HB.out p4 (by omega)
      have o1 := HI.out.1.cell (j := q) (by omega)
      have f1 := HI.out.1.frozen q
      have E1 := Lib.hid (foldF_low x hlt hp1 hp2)
      have E2 := Lib.hid (foldF_high x hlt hp3 hp4)
      have HV1 : RowKit.Hid (IFun ((wr.setCell ⟨g, q, none⟩ (.int .i32 (foldF (2 * h) x q))).drew) g 21 .i32 n (fun i => if i = q then foldF (2 * h) x q else foldA h x q i) ∧ Below g w ((wr.setCell ⟨g, q, none⟩ (.int .i32 (foldF (2 * h) x q))).drew)) :=
        ⟨(HI.out.1.set (j := q) (by omega) (foldF (2 * h) x q)).drewN 1, Below.drewN' (Below.setCell (p := ⟨g, q, none⟩) HI.out.2 (Nat.le_refl _) _) 1⟩
      have B2 := HI.out.2
      generalize hY1 : foldF (2 * h) x q = Y1 at HV1 E1
      have c1 := (B2.cell (p := ⟨b, off + p1, none⟩) hbl).trans k1
      have c2 := (B2.cell (p := ⟨b, off + p2, none⟩) hbl).trans k2
      have HYb : RowKit.Hid (Y1 = -(x p1) - x p2) := E1.out
      clear B2 HI E1
      generalize x p1 = y1 at c1 x10 x11 HYb k1
      generalize x p2 = y2 at c2 x20 x21 HYb k2
      generalize foldA h x q q = z1 at o1
      have e1 : 3 * (h : Int) - 1 - (q : Int) = (p1 : Int) := by omega
      have e2 : 3 * (h : Int) + (q : Int) = (p2 : Int) := by omega
      have e3 : (h : Int) + (q : Int) = (p3 : Int) := by omega
      have e4 : (n : Int) - 1 - (q : Int) = (p4 : Int) := by have := HN.out; omega
      have l1 : (p1 : Int) < (N : Int) := by omega
      have l2 : (p2 : Int) < (N : Int) := by omega
      have l3 : (p3 : Int) < (n : Int) := by have := HN.out; omega
      have l4 : (p4 : Int) < (N : Int) := by omega
      have l5 : (q : Int) < (n : Int) := by have := HN.out; omega
      have l6 : (q : Int) < (N : Int) := by omega
      have g1 : IntKind.i64.wrap (3 * (h : Int)) = 3 * (h : Int) := IntWalk.i64_in _ (by omega)
      have g2 : IntKind.i64.wrap (3 * (h : Int) - 1) = 3 * (h : Int) - 1 := IntWalk.i64_in _ (by omega)
      have g3 : IntKind.i64.wrap (p1 : Int) = (p1 : Int) := IntWalk.i64_in _ (by omega)
      have g4 : IntKind.i64.wrap (p2 : Int) = (p2 : Int) := IntWalk.i64_in _ (by omega)
      have g5 : IntKind.i64.wrap (p3 : Int) = (p3 : Int) := IntWalk.i64_in _ (by omega)
      have g6 : IntKind.i64.wrap (p4 : Int) = (p4 : Int) := IntWalk.i64_in _ (by omega)
      have g7 : IntKind.i64.wrap ((n : Int) - 1) = (n : Int) - 1 := IntWalk.i64_in _ (by omega)
      have g8 : IntKind.i32.wrap (-y1) = -y1 := IntWalk.i32_in _ (by omega)
      have g9 : IntKind.i32.wrap (-y1 - y2) = -y1 - y2 := IntWalk.i32_in _ (by omega)
      have HP3 := Lib.hid hp3
      clear hp1 hp2 hp3 hp4
      rw [HYb.out] at HV1
      go_wp2
      go_still_tail 20, (by kernel_rfl)
      repeat still_step
      change wpList _ _ _ _ _ wr.drew
      go_wp2
      clear c1 c2 o1 f1
      generalize (wr.setCell ⟨g, q, none⟩ (Value.int IntKind.i32 (-y1 - y2))).drew = w2 at HV1 ⊢
      have c3 := (HV1.out.2.cell (p := ⟨b, off + q, none⟩) hbl).trans k3
      have c4 := (HV1.out.2.cell (p := ⟨b, off + p4, none⟩) hbl).trans k4
      have o2 := HV1.out.1.cell (j := p3) (by omega)
      have f2 := HV1.out.1.frozen p3
      have HV : RowKit.Hid (IFun ((w2.setCell ⟨g, p3, none⟩ (.int .i32 (foldF (2 * h) x p3))).drew) g 21 .i32 n (foldA h x (q + 1)) ∧ Below g w ((w2.setCell ⟨g, p3, none⟩ (.int .i32 (foldF (2 * h) x p3))).drew)) := by
        refine ⟨IFun.ext ((HV1.out.1.set (j := p3) (by omega) (foldF (2 * h) x p3)).drewN 1) fun i _ => ?_, Below.drewN' (Below.setCell (p := ⟨g, p3, none⟩) HV1.out.2 (Nat.le_refl _) _) 1⟩
        have := foldA_next x hlt HP3.out i
        rw [hY1, HYb.out] at this
        exact this
      rw [E2.out] at HV
      clear HV1 HYb hY1 E2
      generalize x q = y3 at c3 k3 x30 x31 HV
      generalize x p4 = y4 at c4 k4 x40 x41 HV
      generalize (if p3 = q then _ else _) = z2 at o2
      have g10 : IntKind.i32.wrap (y3 - y4) = y3 - y4 := IntWalk.i32_in _ (by omega)
      go_still_tail 17, (by kernel_rfl)
      repeat still_step
      change wpList _ _ _ _ _ w2.drew
      go_wp2
      go_roundw
      case rel => exact ⟨q + 1, by omega, by go_num, HV.out⟩
      case measure => simp [intOf] <;> omega
    · obtain rfl : q = h := by omega
      have Z : RowKit.Hid (IFun wr g 21 .i32 n (foldF n x) ∧ Below g w wr) := ⟨IFun.ext HI.out.1 fun i hi => by rw [HN.out]; exact foldA_end x i (by have := HN.out; omega), HI.out.2⟩
      go_wp2
      go_ret
      exact ⟨g, rfl, Z.out.1, by omega, by rw [hg]; exact Z.out.2⟩
end Go.Proofs.YtmgfkdmjgjlkjaaGreat

namespace Go.Proofs.YtmgfkdmjgjlkjaaGreat
open Go.RowKit
set_option linter.unusedVariables false
def unfA (h : Nat) (u : Nat → Int) (q i : Nat) : Int := if i < q ∨ (2 * h ≤ i + q ∧ i < 2 * h) ∨ (3 * h ≤ i + q ∧ i < 3 * h + q) then unfoldF (2 * h) u i else 0
theorem unf_1 {h q p : Nat} (u : Nat → Int) (hq : q < h) (hp : p = h + q) : unfoldF (2 * h) u q = u p := by
  unfold unfoldF
  rw [show 2 * h / 2 = h by omega, if_pos hq, hp]
theorem unf_2 {h q p r : Nat} (u : Nat → Int) (hq : q < h) (hp : p = h + q) (hr : r + 1 + q = 2 * h) : unfoldF (2 * h) u r = -(u p) := by
  unfold unfoldF
  rw [show 2 * h / 2 = h by omega, if_neg (by omega), if_pos (by omega), show h + (2 * h - 1 - r) = p by omega]
theorem unf_3 {h q r : Nat} (u : Nat → Int) (hq : q < h) (hr : r + 1 + q = 3 * h) : unfoldF (2 * h) u r = -(u q) := by
  unfold unfoldF
  rw [show 2 * h / 2 = h by omega, if_neg (by omega), if_neg (by omega), if_pos (by omega), show 3 * h - 1 - r = q by omega]
theorem unf_4 {h q r : Nat} (u : Nat → Int) (hq : q < h) (hr : r = 3 * h + q) : unfoldF (2 * h) u r = -(u q) := by
  unfold unfoldF
  rw [show 2 * h / 2 = h by omega, if_neg (by omega), if_neg (by omega), if_neg (by omega), show r - 3 * h = q by omega]
theorem unfA_next {h q r2 r3 r4 : Nat} (u : Nat → Int) (hq : q < h) (h2 : r2 + 1 + q = 2 * h) (h3 : r3 + 1 + q = 3 * h) (h4 : r4 = 3 * h + q) (i : Nat) :
    (if i = r4 then unfoldF (2 * h) u r4 else if i = r3 then unfoldF (2 * h) u r3 else if i = r2 then unfoldF (2 * h) u r2 else if i = q then unfoldF (2 * h) u q else unfA h u q i) = unfA h u (q + 1) i := by
  unfold unfA
  by_cases e4 : i = r4
  · subst e4; rw [if_pos rfl, if_pos (by omega)]
  · rw [if_neg e4]
    by_cases e3 : i = r3
    · subst e3; rw [if_pos rfl, if_pos (by omega)]
    · rw [if_neg e3]
      by_cases e2 : i = r2
      · subst e2; rw [if_pos rfl, if_pos (by omega)]
      · rw [if_neg e2]
        by_cases e1 : i = q
        · subst e1; rw [if_pos rfl, if_pos (by omega)]
        · rw [if_neg e1]
          by_cases c : i < q ∨ (2 * h ≤ i + q ∧ i < 2 * h) ∨ (3 * h ≤ i + q ∧ i < 3 * h + q)
          · rw [if_pos c, if_pos (by omega)]
          · rw [if_neg c, if_neg (by omega)]
theorem unfA_end {h : Nat} (u : Nat → Int) (i : Nat) (hi : i < 4 * h) : unfA h u h i = unfoldF (2 * h) u i := by unfold unfA; rw [if_pos (by omega)]
theorem unfA_start {h : Nat} (u : Nat → Int) (i : Nat) : unfA h u 0 i = 0 := by unfold unfA; rw [if_neg (by omega)]
set_option maxRecDepth 100000 in
theorem lapUnfold_any (h n N cap : Nat) (a : Option Addr) (u : Nat → Int) (w : World) (h1 : 1 ≤ h) (h2 : h ≤ 256) (hn : n = 2 * h) (hN : N = 4 * h) (hx : FnAt w w.heap.size .i32 a n u) (hb : ∀ j, j < n → -2147483647 ≤ u j ∧ u j ≤ 2147483647) :
    Calls Tryz.prog 192 #[.slice a n cap] w (RowPost .i32 21 N (unfoldF n u) w) := by
  have HN := Lib.hid hn
  have HNN := Lib.hid hN
  obtain ⟨b, off, rfl, hbl, hc⟩ := hx
  have HC := Lib.hid hc
  have HB := Lib.hid hb
  clear hc hb
  have hmk : ∀ w : World, (Instr.makeSlice 118 (.int .i64 (N : Int)) (.int .i64 (N : Int))).run Tryz.prog w = .ok (.slice (some ⟨w.heap.size, 0, none⟩) N N) (w.alloc (.cells (madeCells #[.int .i32 0] N) 21)) :=
    fun w => make_zeros (P := Tryz.prog) Tryz.underlying118 info_i32 N (by omega) (by omega) w
  have H0 : RowKit.Hid (IFun (w.alloc (.cells (madeCells #[.int .i32 0] N) 21)) w.heap.size 21 .i32 N (unfA h u 0) ∧ Below w.heap.size w (w.alloc (.cells (madeCells #[.int .i32 0] N) 21))) :=
    ⟨IFun.ext (IFun.zeros w 21 .i32 N) fun j _ => (unfA_start u j).symm, Below.alloc_new w _⟩
  have q1 : 2 * (n : Int) = (N : Int) := by omega
  have q3 : (n : Int) / 2 = (h : Int) := by omega
  have q4 : (n : Int).tdiv 2 = (h : Int) := by rw [Int.tdiv_eq_ediv_of_nonneg (by omega)]; exact q3
  have n1 : n ≤ 2 * h := by omega
  have n2 : 2 * h ≤ n := by omega
  have N1 : N ≤ 4 * h := by omega
  have N2 : 4 * h ≤ N := by omega
  clear hn hN
  go_enter Tryz.func192, Tryz.ntmps192
  go_wp2
  clear hmk q1 q3 q4
  generalize hg : w.heap.size = g at H0 hbl ⊢
  generalize (w.alloc (.cells (madeCells #[.int .i32 0] N) 21)) = w1 at H0 ⊢
  go_loopw [6, 15] (fun _ i wr => ∃ q : Nat, q ≤ h ∧ i = .int .i64 (q : Int) ∧ RowKit.Hid (IFun wr g 21 .i32 N (unfA h u q) ∧ Below g w wr)) (fun _ i _ => h - (intOf i).toNat)
  case atStart => exact ⟨0, by omega, rfl, H0.out⟩
  case round =>
    obtain ⟨q, hq, rfl, HI⟩ := hrel
    clear H0
    by_cases hlt : q < h
    · obtain ⟨p, hp⟩ : ∃ p, p = h + q := ⟨_, rfl⟩
      obtain ⟨r2, hr2⟩ : ∃ r2, r2 + 1 + q = 2 * h := ⟨2 * h - 1 - q, by omega⟩
      obtain ⟨r3, hr3⟩ : ∃ r3, r3 + 1 + q = 3 * h := ⟨3 * h - 1 - q, by omega⟩
      obtain ⟨r4, hr4⟩ : ∃ r4, r4 = 3 * h + q := ⟨_, rfl⟩
      have k1 := HC.out p (by omega)
      have k2 := HC.out q (by omega)
      obtain ⟨x10, x11⟩ := HB.out p (by omega)
      obtain ⟨x20, x21⟩ := HB.out q (by omega)
      have E1 := Lib.hid (unf_1 u hlt hp)
      have E2 := Lib.hid (unf_2 u hlt hp hr2)
      have E3 := Lib.hid (unf_3 u hlt hr3)
      have E4 := Lib.hid (unf_4 u hlt hr4)
      have EN := Lib.hid (unfA_next u hlt hr2 hr3 hr4)
      have e1 : (h : Int) + (q : Int) = (p : Int) := by omega
      have e2 : (n : Int) - 1 - (q : Int) = (r2 : Int) := by have := HN.out; omega
      have e3 : 3 * (h : Int) - 1 - (q : Int) = (r3 : Int) := by omega
      have e4 : 3 * (h : Int) + (q : Int) = (r4 : Int) := by omega
      have l1 : (p : Int) < (n : Int) := by have := HN.out; omega
      have l2 : (r2 : Int) < (N : Int) := by omega
      have l3 : (r3 : Int) < (N : Int) := by omega
      have l4 : (r4 : Int) < (N : Int) := by omega
      have l5 : (q : Int) < (n : Int) := by have := HN.out; omega
      have l6 : (q : Int) < (N : Int) := by omega
      have m1 : q ≠ r2 := by omega
      have m2 : q ≠ r3 := by omega
      have m3 : q ≠ r4 := by omega
      have m4 : r2 ≠ r3 := by omega
      have m5 : r2 ≠ r4 := by omega
      have m6 : r3 ≠ r4 := by omega
      have g1 : IntKind.i64.wrap (3 * (h : Int)) = 3 * (h : Int) := IntWalk.i64_in _ (by omega)
      have g2 : IntKind.i64.wrap (3 * (h : Int) - 1) = 3 * (h : Int) - 1 := IntWalk.i64_in _ (by omega)
      have g3 : IntKind.i64.wrap (p : Int) = (p : Int) := IntWalk.i64_in _ (by omega)
      have g4 : IntKind.i64.wrap (r2 : Int) = (r2 : Int) := IntWalk.i64_in _ (by omega)
      have g5 : IntKind.i64.wrap (r3 : Int) = (r3 : Int) := IntWalk.i64_in _ (by omega)
      have g6 : IntKind.i64.wrap (r4 : Int) = (r4 : Int) := IntWalk.i64_in _ (by omega)
      have g7 : IntKind.i64.wrap ((n : Int) - 1) = (n : Int) - 1 := IntWalk.i64_in _ (by omega)
      clear hp hr2 hr3 hr4
      have o1 := HI.out.1.cell (j := q) (by omega)
      have o2 := HI.out.1.cell (j := r2) (by omega)
      have f1 := HI.out.1.frozen q
      have f2 := HI.out.1.frozen r2
      have c1 := (HI.out.2.cell (p := ⟨b, off + p, none⟩) hbl).trans k1
      have HV1 : RowKit.Hid (∀ i, IFun ((((wr.drewN i).setCell ⟨g, q, none⟩ (.int .i32 (unfoldF (2 * h) u q))).setCell ⟨g, r2, none⟩ (.int .i32 (unfoldF (2 * h) u r2)))) g 21 .i32 N (fun i => if i = r2 then unfoldF (2 * h) u r2 else if i = q then unfoldF (2 * h) u q else unfA h u q i) ∧ Below g w ((((wr.drewN i).setCell ⟨g, q, none⟩ (.int .i32 (unfoldF (2 * h) u q))).setCell ⟨g, r2, none⟩ (.int .i32 (unfoldF (2 * h) u r2))))) := fun i =>
        ⟨((HI.out.1.drewN i).set (j := q) (by omega) (unfoldF (2 * h) u q)).set (j := r2) (by omega) (unfoldF (2 * h) u r2), Below.setCell (p := ⟨g, r2, none⟩) (Below.setCell (p := ⟨g, q, none⟩) (Below.drewN' HI.out.2 i) (Nat.le_refl _) _) (Nat.le_refl _) _⟩
      generalize hY1 : unfoldF (2 * h) u q = Y1 at HV1 E1
      generalize hY2 : unfoldF (2 * h) u r2 = Y2 at HV1 E2
      generalize u p = y1 at c1 x10 x11 k1 E1 E2
      have d1 : IntKind.i32.wrap (-y1) = -y1 := IntWalk.i32_in _ (by omega)
      have HY1 := Lib.hid hY1
      have HY2 := Lib.hid hY2
      clear HI hY1 hY2
      rw [E1.out, E2.out] at HV1
      generalize unfA h u q q = z1 at o1
      generalize unfA h u q r2 = z2 at o2
      go_wp2
      go_region
      all_goals
        go_wp2
        have HV2 : RowKit.Hid (IFun ((wr.setCell ⟨g, q, none⟩ (.int .i32 y1)).setCell ⟨g, r2, none⟩ (.int .i32 (-y1))).drew g 21 .i32 N (fun i => if i = r2 then -y1 else if i = q then y1 else unfA h u q i) ∧ Below g w ((wr.setCell ⟨g, q, none⟩ (.int .i32 y1)).setCell ⟨g, r2, none⟩ (.int .i32 (-y1))).drew) := ⟨(HV1.out 0).1.drewN 1, Below.drewN' (HV1.out 0).2 1⟩
        clear c1 o1 o2 f1 f2 HV1
        generalize ((wr.setCell ⟨g, q, none⟩ (.int .i32 y1)).setCell ⟨g, r2, none⟩ (.int .i32 (-y1))).drew = w2 at HV2 ⊢
        have c2 := (HV2.out.2.cell (p := ⟨b, off + q, none⟩) hbl).trans k2
        have o3 := HV2.out.1.cell (j := r3) (by omega)
        have o4 := HV2.out.1.cell (j := r4) (by omega)
        have f3 := HV2.out.1.frozen r3
        have f4 := HV2.out.1.frozen r4
        have HV3 : RowKit.Hid (IFun ((w2.setCell ⟨g, r3, none⟩ (.int .i32 (unfoldF (2 * h) u r3))).setCell ⟨g, r4, none⟩ (.int .i32 (unfoldF (2 * h) u r4))).drew g 21 .i32 N (unfA h u (q + 1)) ∧ Below g w ((w2.setCell ⟨g, r3, none⟩ (.int .i32 (unfoldF (2 * h) u r3))).setCell ⟨g, r4, none⟩ (.int .i32 (unfoldF (2 * h) u r4))).drew) := by
          refine ⟨IFun.ext (((HV2.out.1.set (j := r3) (by omega) (unfoldF (2 * h) u r3)).set (j := r4) (by omega) (unfoldF (2 * h) u r4)).drewN 1) fun i _ => ?_, Below.drewN' (Below.setCell (p := ⟨g, r4, none⟩) (Below.setCell (p := ⟨g, r3, none⟩) HV2.out.2 (Nat.le_refl _) _) (Nat.le_refl _) _) 1⟩
          have := EN.out i
          rw [HY1.out, HY2.out, E1.out, E2.out] at this
          exact this
        rw [E3.out, E4.out] at HV3
        clear HV2 EN HY1 HY2 E1 E2 E3 E4
        generalize u q = y2 at c2 x20 x21 k2 HV3
        have d2 : IntKind.i32.wrap (-y2) = -y2 := IntWalk.i32_in _ (by omega)
        generalize (if r3 = r2 then _ else _) = z3 at o3
        generalize (if r4 = r2 then _ else _) = z4 at o4
        go_region
        all_goals
          go_wp2
          go_roundw
          case rel => exact ⟨q + 1, by omega, by go_num, HV3.out⟩
          case measure => simp [intOf] <;> omega
    · obtain rfl : q = h := by omega
      have Z : RowKit.Hid (IFun wr g 21 .i32 N (unfoldF n u) ∧ Below g w wr) := ⟨IFun.ext HI.out.1 fun i hi => by rw [HN.out]; exact unfA_end u i (by have := HNN.out; omega), HI.out.2⟩
      go_wp2
      go_ret
      exact ⟨g, rfl, Z.out.1, by omega, by rw [hg]; exact Z.out.2⟩
end Go.Proofs.YtmgfkdmjgjlkjaaGreat
