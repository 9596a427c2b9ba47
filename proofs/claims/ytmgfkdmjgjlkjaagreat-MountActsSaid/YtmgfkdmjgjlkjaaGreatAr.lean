/- Plain facts, and what functions give, for the proofs of this seat: several texts in one, each with its own first remark. -/
import Derived.Test.YtmgfkdmjgjlkjaaGreatAq

namespace Go.Proofs.YtmgfkdmjgjlkjaaGreat
open Go.RowKit
set_option linter.unusedVariables false
theorem turnF_wide {n : Nat} (hn : n = 128 ∨ n = 512) {u : Nat → Int} (hb : ∀ j, j < n → (u j).natAbs ≤ 33554432) (k : Nat) : (turnF n u k).natAbs ≤ 1073741824 := by
  have h1 := dotF_abs hb k
  rcases hn with rfl | rfl
  · have h2 := rnd27 (dotF 128 u k)
    rw [turnF_128]; omega
  · have h2 := rnd28 (dotF 512 u k)
    rw [turnF_512]; omega
theorem dotF_wide {n : Nat} (hn : n = 128 ∨ n = 512) {u : Nat → Int} (hb : ∀ j, j < n → (u j).natAbs ≤ 33554432) (k : Nat) : (dotF n u k).natAbs ≤ 288230376151711744 := by
  have h1 := dotF_abs hb k
  rcases hn with rfl | rfl <;> omega
def upTo (f f' : Nat → Int) (q i : Nat) : Int := if i < q then f i else f' i
theorem upTo_next (f f' : Nat → Int) (q i : Nat) : (if i = q then f q else upTo f f' q i) = upTo f f' (q + 1) i := by
  unfold upTo
  by_cases e : i = q
  · subst e; rw [if_pos rfl, if_pos (by omega)]
  · rw [if_neg e]
    by_cases c : i < q
    · rw [if_pos c, if_pos (by omega)]
    · rw [if_neg c, if_neg (by omega)]
theorem upTo_here (f f' : Nat → Int) (q : Nat) : upTo f f' q q = f' q := by unfold upTo; rw [if_neg (by omega)]
theorem upTo_end (f f' : Nat → Int) (n i : Nat) (h : i < n) : upTo f f' n i = f i := if_pos h
theorem upTo_start (f f' : Nat → Int) (i : Nat) : upTo f f' 0 i = f' i := by unfold upTo; rw [if_neg (by omega)]
set_option maxRecDepth 100000 in
theorem lapTurn_any (g c n cap : Nat) (a : Option Addr) (u : Nat → Int) (w : World) (hT : TrAt w g c n) (hn : n = 128 ∨ n = 512) (hu : FnAt w w.heap.size .i32 a n u) (hb : ∀ j, j < n → -33554432 ≤ u j ∧ u j ≤ 33554432) :
    Calls Tryz.prog 185 #[.pointer (some ⟨g, 0, none⟩), .slice a n cap] w (RowPost .i32 21 n (turnF n u) w) := by
  have HT := Lib.hid hT
  have HU := Lib.hid hu
  have HB := Lib.hid hb
  have Hn := Lib.hid hn
  have gl := hT.1.lt
  have cc := hT.cells.2
  obtain ⟨V, hV⟩ : ∃ V, V = 512 / n := ⟨_, rfl⟩
  have hV1 : V ≤ 4 := by rcases hn with rfl | rfl <;> omega
  have hVd : 512 / (n : Int) = (V : Int) := by rw [hV]; rcases hn with rfl | rfl <;> rfl
  have hVt : (512 : Int).tdiv (n : Int) = (V : Int) := by rw [Int.tdiv_eq_ediv_of_nonneg (by omega)]; exact hVd
  have hU : RowKit.Hid (∀ k, k < n → (2 * k + 1) * V ≤ 1023) := by
    intro k hk
    rw [hV]
    rcases hn with rfl | rfl <;> omega
  have HV := Lib.hid hV
  have n1 : 1 ≤ n := by omega
  have n2 : n ≤ 512 := by omega
  have n0 : ¬ (n : Int) = 0 := by omega
  clear hV hb hT hn hu
  have hmk : ∀ w : World, (Instr.makeSlice 118 (.int .i64 (n : Int)) (.int .i64 (n : Int))).run Tryz.prog w = .ok (.slice (some ⟨w.heap.size, 0, none⟩) n n) (w.alloc (.cells (madeCells #[.int .i32 0] n) 21)) :=
    fun w => make_zeros (P := Tryz.prog) Tryz.underlying118 info_i32 n (by omega) (by omega) w
  have H0 : RowKit.Hid (IFun (w.alloc (.cells (madeCells #[.int .i32 0] n) 21)) w.heap.size 21 .i32 n (upTo (turnF n u) (fun _ => 0) 0) ∧ Below w.heap.size w (w.alloc (.cells (madeCells #[.int .i32 0] n) 21))) :=
    ⟨IFun.ext (IFun.zeros w 21 .i32 n) fun j _ => (upTo_start (turnF n u) (fun _ => 0) j).symm, Below.alloc_new w _⟩
  have cc' := (H0.out.2.cell (p := ⟨g, 1, none⟩) gl).trans cc
  go_enter Tryz.func185, Tryz.ntmps185
  go_wp2
  clear hmk cc cc' hVd hVt
  generalize hg : w.heap.size = gg at H0 gl ⊢
  generalize (w.alloc (.cells (madeCells #[.int .i32 0] n) 21)) = w1 at H0 ⊢
  go_loopw [7, 18] (fun _ i wr => ∃ q : Nat, q ≤ n ∧ i = .int .i64 (q : Int) ∧ RowKit.Hid (IFun wr gg 21 .i32 n (upTo (turnF n u) (fun _ => 0) q) ∧ Below gg w wr)) (fun _ i _ => n - (intOf i).toNat)
  case atStart => exact ⟨0, by omega, rfl, H0.out⟩
  case round =>
    obtain ⟨q, hq, rfl, HI⟩ := hrel
    clear H0
    by_cases hlt : q < n
    · obtain ⟨U, hUe⟩ : ∃ U, U = (2 * q + 1) * V := ⟨_, rfl⟩
      have hU1 : U ≤ 1023 := by rw [hUe]; exact hU.out q hlt
      have hUi : (2 * (q : Int) + 1) * (V : Int) = (U : Int) := by rw [hUe]; simp
      have HTr : RowKit.Hid (TrAt wr g c n) := TrAt.below HT.out HI.out.2 (by omega)
      have HUr : RowKit.Hid (FnAt wr wr.heap.size .i32 a n u) := by
        refine (HU.out.below HI.out.2 (by omega)).grow ?_
        have := HI.out.2.size; omega
      have HW : RowKit.Hid (Calls Tryz.prog 196 #[.pointer (some ⟨g, 0, none⟩), .slice a n cap, .int .i64 (U : Int)] wr fun e w' => e = .returned (.int .i64 (dotF n u q)) ∧ wr = w') :=
        lapWeigh_any g c n cap q a u (U : Int) wr HTr.out Hn.out hlt HUr.out HB.out (by rw [hUe, HV.out])
      have HL : RowKit.Hid (Calls Tryz.prog 197 #[.pointer (some ⟨g, 0, none⟩)] wr fun e w' => e = .returned (.int .i64 (lossN n)) ∧ wr = w') := lapLoss_any g c n wr HTr.out Hn.out
      have hd := dotF_wide Hn.out (u := u) (fun j hj => by have := HB.out j hj; omega) q
      have ht := turnF_wide Hn.out (u := u) (fun j hj => by have := HB.out j hj; omega) q
      have HR : RowKit.Hid (rndP (dotF n u q) (lossN n) = turnF n u q) := rfl
      have o1 := HI.out.1.cell (j := q) (by omega)
      have f1 := HI.out.1.frozen q
      have HS : RowKit.Hid (IFun (wr.setCell ⟨gg, q, none⟩ (.int .i32 (turnF n u q))) gg 21 .i32 n (upTo (turnF n u) (fun _ => 0) (q + 1)) ∧ Below gg w (wr.setCell ⟨gg, q, none⟩ (.int .i32 (turnF n u q)))) :=
        ⟨IFun.ext (HI.out.1.set (j := q) (by omega) (turnF n u q)) fun i _ => upTo_next _ _ q i, Below.setCell (p := ⟨gg, q, none⟩) HI.out.2 (Nat.le_refl _) _⟩
      generalize turnF n u q = t at ht HR HS
      generalize dotF n u q = d at hd HW HR
      generalize lossN n = ls at HL HR
      generalize upTo (turnF n u) (fun _ => 0) q q = z at o1
      have t0 : -1073741824 ≤ t := by omega
      have t1 : t ≤ 1073741824 := by omega
      have l1 : (q : Int) < (n : Int) := by omega
      clear HI hUe ht
      go_wp2_with (first | (go_at_call 196; refine (HW.out).mono ?_; rintro e w' ⟨rfl, rfl⟩) | (go_at_call 197; refine (HL.out).mono ?_; rintro e w' ⟨rfl, rfl⟩) | (go_at_call 171; refine (round_any d ls _ (by omega) (by omega)).mono ?_; rintro e w' ⟨rfl, rfl⟩; rw [HR.out]))
      go_roundw
      case rel => exact ⟨q + 1, by omega, by go_num, HS.out⟩
      case measure => simp [intOf] <;> omega
    · obtain rfl : q = n := by omega
      have Z : RowKit.Hid (IFun wr gg 21 .i32 q (turnF q u) ∧ Below gg w wr) := ⟨IFun.ext HI.out.1 fun i hi => upTo_end _ _ q i hi, HI.out.2⟩
      go_wp2
      go_ret
      exact ⟨gg, rfl, Z.out.1, by omega, by rw [hg]; exact Z.out.2⟩
theorem satP_21 {x : Int} (h : -1048576 ≤ x) (h' : x ≤ 1048575) : satP x 21 = x := satP_self (by decide) (by decide) (by rw [show P2 ((21 : Int).toNat - 1) = 1048576 by decide]; omega) (by rw [show P2 ((21 : Int).toNat - 1) = 1048576 by decide]; omega)
theorem satP_26' {x : Int} (h : -33554432 ≤ x) (h' : x ≤ 33554431) : satP x 26 = x := satP_self (by decide) (by decide) (by rw [show P2 ((26 : Int).toNat - 1) = 33554432 by decide]; omega) (by rw [show P2 ((26 : Int).toNat - 1) = 33554432 by decide]; omega)
noncomputable def fwdF (n : Nat) (x : Nat → Int) (k : Nat) : Int := satP (turnF n (foldF n x) k) 26
noncomputable def backF (n : Nat) (l : Nat → Int) (i : Nat) : Int := unfoldF n (turnF n l) i
def RowsPost (n : Nat) (f : Nat → Int) (w : World) (e : Ending) (w' : World) : Prop :=
  ∃ g, e = .returned (.tuple #[.slice (some ⟨g, 0, none⟩) n n, .int .i64 0]) ∧ IFun w' g 21 .i32 n f ∧ w.heap.size ≤ g ∧ Below w.heap.size w w'
set_option maxRecDepth 100000 in
theorem lapForward_any (g c n N cap : Nat) (a : Option Addr) (x : Nat → Int) (w : World) (hT : TrAt w g c n) (hn : n = 128 ∨ n = 512) (hN : N = 2 * n) (hx : FnAt w w.heap.size .i32 a N x) (hb : ∀ j, j < N → -1048576 ≤ x j ∧ x j ≤ 1048575) :
    Calls Tryz.prog 155 #[.pointer (some ⟨g, 0, none⟩), .slice a N cap] w (RowsPost n (fwdF n x) w) := by
  have HT := Lib.hid hT
  have HX := Lib.hid hx
  have HB := Lib.hid hb
  have Hn := Lib.hid hn
  have HN := Lib.hid hN
  have cc := hT.cells.2
  have n1 : 1 ≤ n := by omega
  have n2 : n ≤ 512 := by omega
  have e1 : 2 * (n : Int) = (N : Int) := by omega
  have hF : RowKit.Hid (∀ j, j < n → (foldF n x j).natAbs ≤ 2097152) := fun j hj => foldF_abs (B := 1048576) (by omega) (fun i hi => by have := hb i (by omega); omega) hj
  clear hT hn hx hb
  have hN2 : N ≤ 1024 := by omega
  clear hN
  have K1 : RowKit.Hid (Calls Tryz.prog 183 #[.pointer (some ⟨g, 0, none⟩)] w fun e w' => e = .returned (.bool true) ∧ w = w') := lapMade_any g c n w HT.out Hn.out
  have K2 : RowKit.Hid (Calls Tryz.prog 184 #[.slice a N cap, .int .i64 N, .int .i64 21] w fun e w' => e = .returned (.bool true) ∧ w = w') :=
    lapFit_yes a N cap 21 x w HX.out (by omega) (fun j hj => by have := HB.out j hj; omega) (fun j hj => by have := HB.out j hj; exact satP_21 (by omega) (by omega))
  have K3 : RowKit.Hid (Calls Tryz.prog 186 #[.slice a N cap] w (RowPost .i32 21 n (foldF n x) w)) :=
    lapFold_any (n / 2) n N cap a x w (by have := Hn.out; omega) (by omega) (by have := Hn.out; omega) (by have := HN.out; have := Hn.out; omega) HX.out HB.out
  go_enter Tryz.func155, Tryz.ntmps155
  go_wp2_with (first | (go_at_call 183; refine (K1.out).mono ?_; rintro e w' ⟨rfl, rfl⟩) | (go_at_call 184; refine (K2.out).mono ?_; rintro e w' ⟨rfl, rfl⟩) | (go_at_call 186; go_loud (refine (K3.out).mono ?_); rintro e w1 ⟨g1, rfl, i1, s1, b1⟩; have I1 := Lib.hid i1; have S1 := Lib.hid s1; have B1 := Lib.hid b1; clear i1 s1 b1) | (go_at_call 185; go_loud (refine (lapTurn_any g c n n _ (foldF n x) _ (HT.out.below B1.out (Nat.le_refl _)) Hn.out (FnAt.of_ifun I1.out) (fun j hj => by have := hF.out j hj; omega)).mono ?_); rintro e w2 ⟨g2, rfl, i2, s2, b2⟩; have I2 := Lib.hid i2; have S2 : RowKit.Hid (w.heap.size ≤ g2) := Nat.le_trans B1.out.size s2; have B2 : RowKit.Hid (Below w.heap.size w w2) := chain B1.out b2; clear i2 s2 b2))
  clear cc
  have H0 : RowKit.Hid (IFun w2 g2 21 .i32 n (upTo (fwdF n x) (turnF n (foldF n x)) 0) ∧ Below w.heap.size w w2) := ⟨IFun.ext I2.out fun i _ => (upTo_start _ _ i).symm, B2.out⟩
  clear I1 S1 B1 I2 B2 K1 K2 K3
  go_loopw [7, 8, 28] (fun _ _ i wr => ∃ q : Nat, q ≤ n ∧ i = .int .i64 (q : Int) ∧ RowKit.Hid (IFun wr g2 21 .i32 n (upTo (fwdF n x) (turnF n (foldF n x)) q) ∧ Below w.heap.size w wr)) (fun _ _ i _ => n - (intOf i).toNat)
  case atStart => exact ⟨0, by omega, rfl, H0.out⟩
  case round =>
    obtain ⟨q, hq, rfl, HI⟩ := hrel
    clear H0
    by_cases hlt : q < n
    · have o1 := HI.out.1.cell (j := q) (by omega)
      rw [upTo_here] at o1
      have f1 := HI.out.1.frozen q
      have hb := turnF_wide Hn.out (u := foldF n x) (fun j hj => by have := hF.out j hj; omega) q
      have HS : RowKit.Hid (IFun (wr.setCell ⟨g2, q, none⟩ (.int .i32 (fwdF n x q))) g2 21 .i32 n (upTo (fwdF n x) (turnF n (foldF n x)) (q + 1)) ∧ Below w.heap.size w (wr.setCell ⟨g2, q, none⟩ (.int .i32 (fwdF n x q)))) :=
        ⟨IFun.ext (HI.out.1.set (j := q) (by omega) (fwdF n x q)) fun i _ => upTo_next _ _ q i, Below.setCell (p := ⟨g2, q, none⟩) HI.out.2 S2.out _⟩
      have HE : RowKit.Hid (satP (turnF n (foldF n x) q) 26 = fwdF n x q) := rfl
      obtain ⟨t0, t1⟩ := satP_26_bd (turnF n (foldF n x) q)
      rw [HE.out] at t0 t1
      generalize fwdF n x q = t at HS HE t0 t1
      generalize turnF n (foldF n x) q = d at o1 hb HE
      have d0 : -1073741824 ≤ d := by omega
      have d1 : d ≤ 1073741824 := by omega
      clear HI hb
      go_wp2_with (first | (go_at_call 172; refine (wide32_any d _ (by omega) (by omega)).mono ?_; rintro e w' ⟨rfl, rfl⟩) | (go_at_call 175; refine (sat_any d 26 _ (by omega) (by omega)).mono ?_; rintro e w' ⟨rfl, rfl⟩; rw [HE.out]))
      go_roundw
      case rel => exact ⟨q + 1, by omega, by go_num, HS.out⟩
      case measure => simp [intOf] <;> omega
    · obtain rfl : q = n := by omega
      have Z : RowKit.Hid (IFun wr g2 21 .i32 q (fwdF q x) ∧ Below w.heap.size w wr) := ⟨IFun.ext HI.out.1 fun i hi => upTo_end _ _ q i hi, HI.out.2⟩
      go_wp2
      go_ret2
      exact ⟨g2, rfl, Z.out.1, S2.out, Z.out.2⟩
set_option maxRecDepth 100000 in
theorem lapBack_any (g c n N cap : Nat) (a : Option Addr) (l : Nat → Int) (w : World) (hT : TrAt w g c n) (hn : n = 128 ∨ n = 512) (hN : N = 2 * n) (hx : FnAt w w.heap.size .i32 a n l) (hb : ∀ j, j < n → -33554432 ≤ l j ∧ l j ≤ 33554431) :
    Calls Tryz.prog 174 #[.pointer (some ⟨g, 0, none⟩), .slice a n cap] w (RowsPost N (backF n l) w) := by
  have HT := Lib.hid hT
  have HX := Lib.hid hx
  have HB := Lib.hid hb
  have Hn := Lib.hid hn
  have HN := Lib.hid hN
  have cc := hT.cells.2
  have n1 : 1 ≤ n := by omega
  have n2 : n ≤ 512 := by omega
  clear hT hn hx hb hN
  have K1 : RowKit.Hid (Calls Tryz.prog 183 #[.pointer (some ⟨g, 0, none⟩)] w fun e w' => e = .returned (.bool true) ∧ w = w') := lapMade_any g c n w HT.out Hn.out
  have K2 : RowKit.Hid (Calls Tryz.prog 184 #[.slice a n cap, .int .i64 n, .int .i64 26] w fun e w' => e = .returned (.bool true) ∧ w = w') :=
    lapFit_yes a n cap 26 l w HX.out (by omega) (fun j hj => by have := HB.out j hj; omega) (fun j hj => by have := HB.out j hj; exact satP_26' (by omega) (by omega))
  have K3 : RowKit.Hid (Calls Tryz.prog 185 #[.pointer (some ⟨g, 0, none⟩), .slice a n cap] w (RowPost .i32 21 n (turnF n l) w)) :=
    lapTurn_any g c n cap a l w HT.out Hn.out HX.out (fun j hj => by have := HB.out j hj; omega)
  have hF : RowKit.Hid (∀ k, -2147483647 ≤ turnF n l k ∧ turnF n l k ≤ 2147483647) := fun k => by
    have := turnF_wide Hn.out (u := l) (fun j hj => by have := HB.out j hj; omega) k
    omega
  go_enter Tryz.func174, Tryz.ntmps174
  go_wp2_with (first | (go_at_call 183; refine (K1.out).mono ?_; rintro e w' ⟨rfl, rfl⟩) | (go_at_call 184; refine (K2.out).mono ?_; rintro e w' ⟨rfl, rfl⟩) | (go_at_call 185; go_loud (refine (K3.out).mono ?_); rintro e w1 ⟨g1, rfl, i1, s1, b1⟩; have I1 := Lib.hid i1; have S1 := Lib.hid s1; have B1 := Lib.hid b1; clear i1 s1 b1) | (go_at_call 192; go_loud (refine (lapUnfold_any (n / 2) n N n _ (turnF n l) _ (by have := Hn.out; omega) (by omega) (by have := Hn.out; omega) (by have := HN.out; have := Hn.out; omega) (FnAt.of_ifun I1.out) (fun j hj => hF.out j)).mono ?_); rintro e w2 ⟨g2, rfl, i2, s2, b2⟩; have I2 := Lib.hid i2; have S2 : RowKit.Hid (w.heap.size ≤ g2) := Nat.le_trans B1.out.size s2; have B2 : RowKit.Hid (Below w.heap.size w w2) := chain B1.out b2; clear i2 s2 b2))
  go_ret2
  exact ⟨g2, rfl, I2.out, S2.out, B2.out⟩
end Go.Proofs.YtmgfkdmjgjlkjaaGreat

namespace Go.Proofs.YtmgfkdmjgjlkjaaGreat
open Go
set_option linter.unusedVariables false
theorem cosN_one : cosN 1 ≤ 16777200 := by decide +kernel
theorem cosN_less : ∀ {n : Nat}, 1 ≤ n → n ≤ 1024 → cosN n ≤ 16777200
  | 0, h, _ => by omega
  | 1, _, _ => cosN_one
  | n + 2, _, h => by
    have h1 := cosN_less (n := n + 1) (by omega) (by omega)
    have h2 := cosN_falls (i := n + 1) (by omega)
    have : cosN (n + 2) < cosN (n + 1) := h2
    omega
theorem cosP_less {a : Int} (h : a % 2048 ≠ 0) : (cosP a).natAbs ≤ 16777200 := by
  rw [cosP_q]
  rcases circle_at a with ⟨n, e, l⟩ | ⟨n, e, l⟩ | ⟨n, e, l0, l⟩ | ⟨n, e, l0, l⟩
  · rw [cosQ_in e l]; have h1 := cosN_bd l; have h2 := cosN_less (n := n) (by omega) l; omega
  · rw [cosQ_2 e l]; have h1 := cosN_bd (i := n) (by omega); have h2 := cosN_less (n := n) (by omega) (by omega); omega
  · rw [cosQ_3 e l0 l]; have h1 := cosN_bd (i := n) (by omega); have h2 := cosN_less (n := n) (by omega) (by omega); omega
  · rw [cosQ_4 e l0 l]; have h1 := cosN_bd l; have h2 := cosN_less (n := n) (by omega) l; omega
theorem cosA_less {n : Nat} (hn : n = 128 ∨ n = 512) (j k : Nat) : (cosA n j k).natAbs ≤ 16777200 := by
  unfold cosA
  refine cosP_less ?_
  obtain ⟨q, hq⟩ := odd_odd j k
  rw [hq]
  rcases hn with rfl | rfl
  · rw [show 512 / 128 = 4 by decide]; omega
  · rw [show 512 / 512 = 1 by decide]; omega
theorem dotF_less {n B : Nat} (hn : n = 128 ∨ n = 512) {u : Nat → Int} (hb : ∀ j, j < n → (u j).natAbs ≤ B) (k : Nat) : (dotF n u k).natAbs ≤ n * (B * 16777200) :=
  sumF_abs fun j hj => mul_abs (hb j hj) (cosA_less hn j k)
theorem turn_bd_512 {u : Nat → Int} (hb : ∀ j, j < 512 → (u j).natAbs ≤ 33554432) (k : Nat) : (turnF 512 u k).natAbs ≤ 1073741000 := by
  have h1 := dotF_less (.inr rfl) hb k
  have h2 := rnd28 (dotF 512 u k)
  rw [turnF_512]; omega
theorem turn_bd_128 {u : Nat → Int} (hb : ∀ j, j < 128 → (u j).natAbs ≤ 33554432) (k : Nat) : (turnF 128 u k).natAbs ≤ 536870500 := by
  have h1 := dotF_less (.inl rfl) hb k
  have h2 := rnd27 (dotF 128 u k)
  rw [turnF_128]; omega
theorem unfoldF_le {n B : Nat} {u : Nat → Int} (h2 : n % 2 = 0) (hb : ∀ j, j < n → (u j).natAbs ≤ B) {i : Nat} (hi : i < 2 * n) : (unfoldF n u i).natAbs ≤ B := by
  unfold unfoldF
  split
  · exact hb _ (by omega)
  · split
    · have := hb (n / 2 + (n - 1 - i)) (by omega); omega
    · split
      · have := hb (3 * (n / 2) - 1 - i) (by omega); omega
      · have := hb (i - 3 * (n / 2)) (by omega); omega
theorem backF_512 {l : Nat → Int} (hb : ∀ j, j < 512 → (l j).natAbs ≤ 33554432) {i : Nat} (hi : i < 1024) : (backF 512 l i).natAbs ≤ 1073741000 :=
  unfoldF_le (by decide) (fun k _ => turn_bd_512 hb k) (by omega)
theorem backF_128 {l : Nat → Int} (hb : ∀ j, j < 128 → (l j).natAbs ≤ 33554432) {i : Nat} (hi : i < 256) : (backF 128 l i).natAbs ≤ 536870500 :=
  unfoldF_le (by decide) (fun k _ => turn_bd_128 hb k) (by omega)
theorem riseP_bd (i : Int) (h : 0 ≤ i) : 0 ≤ riseP i ∧ riseP i ≤ 16777216 := by
  by_cases h1 : 128 ≤ i
  · rw [riseP_big h1]; omega
  · rw [riseP_in h (by omega), cosP_q, cosQ_in (n := (1024 - 4 * (2 * i + 1)).toNat) (by omega) (by omega)]
    exact cosN_bd (by omega)
noncomputable def slopeF (N i : Nat) : Int := if riseP ((N - 1 - i : Nat) : Int) < riseP (i : Int) then riseP ((N - 1 - i : Nat) : Int) else riseP (i : Int)
theorem slopeF_bd (N i : Nat) : 0 ≤ slopeF N i ∧ slopeF N i ≤ 16777216 := by
  unfold slopeF
  split
  · exact riseP_bd _ (by omega)
  · exact riseP_bd _ (by omega)
noncomputable def shapeF (N : Nat) (x : Nat → Int) (i : Nat) : Int := rndP (x i * slopeF N i) 24
theorem rnd24 (x : Int) : (16777216 * rndP x 24 - x).natAbs ≤ 8388608 := by
  rw [rndP_in (by decide) (by decide), show P2 (24 : Int).toNat = 16777216 by decide]; omega
theorem rnd4 (x : Int) : (16 * rndP x 4 - x).natAbs ≤ 8 := by
  rw [rndP_in (by decide) (by decide), show P2 (4 : Int).toNat = 16 by decide]; omega
theorem shapeF_abs {N B i : Nat} {x : Nat → Int} (h : (x i).natAbs ≤ B) : (shapeF N x i).natAbs ≤ B := by
  have h0 := slopeF_bd N i
  have h1 : (x i * slopeF N i).natAbs ≤ B * 16777216 := mul_abs h (by omega)
  have h2 := rnd24 (x i * slopeF N i)
  unfold shapeF
  omega
noncomputable def winF (all : Nat → Int) (i : Nat) : Int := if i < 192 then 0 else if i < 832 then shapeF 640 all (i - 192) else 0
noncomputable def blkF (all : Nat → Int) (m i : Nat) : Int := shapeF 256 (fun j => all (128 * m + j)) i
noncomputable def linesF (b : Bool) (all : Nat → Int) (k : Nat) : Int := if b then fwdF 128 (blkF all (k % 4)) (k / 4) else fwdF 512 (winF all) k
def pickF (l : Nat → Int) (m k : Nat) : Int := l (4 * k + m)
noncomputable def soundB (l : Nat → Int) (m i : Nat) : Int := if 128 * m ≤ i ∧ i < 128 * m + 256 then shapeF 256 (backF 128 (pickF l m)) (i - 128 * m) else 0
noncomputable def soundA (l : Nat → Int) : Nat → Nat → Int
  | 0, _ => 0
  | m + 1, i => soundA l m i + soundB l m i
noncomputable def soundL (l : Nat → Int) (i : Nat) : Int := shapeF 640 (fun j => backF 512 l (192 + j)) i
noncomputable def soundF (b : Bool) (l : Nat → Int) (i : Nat) : Int := if b then soundA l 4 i else soundL l i
noncomputable def leftF (b : Bool) (l : Nat → Int) (q : Nat) : Int := soundF b l (512 + q)
noncomputable def bothF (b : Bool) (l left : Nat → Int) (i : Nat) : Int := soundF b l i + if i < 128 then left i else 0
noncomputable def samplesF (b : Bool) (l left : Nat → Int) (i : Nat) : Int := satP (rndP (bothF b l left i) 4) 16
theorem winF_abs {all : Nat → Int} {B : Nat} (h : ∀ i, i < 640 → (all i).natAbs ≤ B) (i : Nat) : (winF all i).natAbs ≤ B := by
  unfold winF
  split
  · simp
  · split
    · exact shapeF_abs (h _ (by omega))
    · simp
theorem blkF_abs {all : Nat → Int} {B m : Nat} (h : ∀ i, i < 640 → (all i).natAbs ≤ B) (hm : m < 4) {i : Nat} (hi : i < 256) : (blkF all m i).natAbs ≤ B :=
  shapeF_abs (h _ (by omega))
theorem linesF_bd (b : Bool) (all : Nat → Int) (k : Nat) : -33554432 ≤ linesF b all k ∧ linesF b all k ≤ 33554431 := by
  unfold linesF
  split
  · exact satP_26_bd _
  · exact satP_26_bd _
theorem linesF_brief (all : Nat → Int) {m : Nat} (hm : m < 4) : pickF (linesF true all) m = fwdF 128 (blkF all m) := by
  funext k
  unfold pickF linesF
  rw [if_pos rfl, show (4 * k + m) % 4 = m by omega, show (4 * k + m) / 4 = k by omega]
theorem linesF_long (all : Nat → Int) : linesF false all = fwdF 512 (winF all) := by
  funext k
  unfold linesF
  rw [if_neg (by decide)]
section
variable {l : Nat → Int}
theorem soundB_abs (h : ∀ j, j < 512 → (l j).natAbs ≤ 33554432) {m : Nat} (hm : m < 4) (i : Nat) : (soundB l m i).natAbs ≤ 536870500 := by
  unfold soundB
  split
  · exact shapeF_abs (backF_128 (fun j hj => h _ (by omega)) (by omega))
  · simp
theorem soundA_abs (h : ∀ j, j < 512 → (l j).natAbs ≤ 33554432) : ∀ {m : Nat}, m ≤ 4 → ∀ i, (soundA l m i).natAbs ≤ m * 536870500
  | 0, _, i => by simp [soundA]
  | m + 1, hm, i => by
    have h1 := soundA_abs h (m := m) (by omega) i
    have h2 := soundB_abs h (m := m) (by omega) i
    unfold soundA
    omega
theorem soundB_out {m i : Nat} (h : i < 128 * m ∨ 128 * m + 256 ≤ i) : soundB l m i = 0 := if_neg (by omega)
theorem soundA_first {i : Nat} (h : i < 128) : soundA l 4 i = soundB l 0 i := by
  show 0 + soundB l 0 i + soundB l 1 i + soundB l 2 i + soundB l 3 i = _
  rw [soundB_out (m := 1) (by omega), soundB_out (m := 2) (by omega), soundB_out (m := 3) (by omega)]; omega
theorem soundA_last {i : Nat} (h : 512 ≤ i) : soundA l 4 i = soundB l 3 i := by
  show 0 + soundB l 0 i + soundB l 1 i + soundB l 2 i + soundB l 3 i = _
  rw [soundB_out (m := 1) (by omega), soundB_out (m := 2) (by omega), soundB_out (m := 0) (by omega)]; omega
theorem soundL_abs (h : ∀ j, j < 512 → (l j).natAbs ≤ 33554432) {i : Nat} (hi : i < 640) : (soundL l i).natAbs ≤ 1073741000 :=
  shapeF_abs (backF_512 h (by omega))
theorem soundF_abs (h : ∀ j, j < 512 → (l j).natAbs ≤ 33554432) (b : Bool) {i : Nat} (hi : i < 640) : (soundF b l i).natAbs ≤ 2147482000 := by
  unfold soundF
  split
  · have := soundA_abs h (m := 4) (by omega) i; omega
  · have := soundL_abs h hi; omega
theorem soundF_edge (h : ∀ j, j < 512 → (l j).natAbs ≤ 33554432) (b : Bool) {i : Nat} (hi : i < 128 ∨ (512 ≤ i ∧ i < 640)) : (soundF b l i).natAbs ≤ 1073741000 := by
  unfold soundF
  split
  · rcases hi with hi | hi
    · rw [soundA_first hi]; have := soundB_abs h (m := 0) (by omega) i; omega
    · rw [soundA_last hi.1]; have := soundB_abs h (m := 3) (by omega) i; omega
  · exact soundL_abs h (by omega)
theorem leftF_abs (h : ∀ j, j < 512 → (l j).natAbs ≤ 33554432) (b : Bool) {q : Nat} (hq : q < 128) : (leftF b l q).natAbs ≤ 1073741000 := soundF_edge h b (.inr ⟨by omega, by omega⟩)
theorem bothF_abs {left : Nat → Int} (h : ∀ j, j < 512 → (l j).natAbs ≤ 33554432) (hl : ∀ q, q < 128 → (left q).natAbs ≤ 1073741000) (b : Bool) {i : Nat} (hi : i < 640) : (bothF b l left i).natAbs ≤ 2147482000 := by
  unfold bothF
  split
  · have h1 := soundF_edge h b (i := i) (.inl (by assumption)); have h2 := hl i (by assumption); omega
  · have := soundF_abs h b hi; omega
end
section
variable {all : Nat → Int}
end
end Go.Proofs.YtmgfkdmjgjlkjaaGreat
