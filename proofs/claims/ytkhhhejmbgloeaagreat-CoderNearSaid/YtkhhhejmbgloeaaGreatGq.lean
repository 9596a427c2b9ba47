/- Plain facts, and what functions give, for the proofs of this seat: several texts in one, each with its own first remark. -/
import Derived.Test.YtkhhhejmbgloeaaGreatGp

/- What package lapped makes of numbers: turned, forward, back. -/
namespace Go.Proofs.YtkhhhejmbgloeaaGreat
open Go.RowKit
set_option linter.unusedVariables false

/-! ### Turning -/
theorem turnF_wide {n : Nat} (hn : n = 128 ∨ n = 512) {u : Nat → Int} (hb : ∀ j, j < n → (u j).natAbs ≤ 33554432) (k : Nat) : (turnF n u k).natAbs ≤ 1073741824 := by
  have h1 := dotF_abs hb k
  rcases hn with rfl | rfl
  · have h2 := rnd27 (dotF 128 u k)
    rw [turnF_128]; omega
  · have h2 := rnd28 (dotF 512 u k)
    rw [turnF_512]; omega
theorem dotF_wide {n : Nat} (hn : n = 128 ∨ n = 512) {u : Nat → Int} (hb : ∀ j, j < n → (u j).natAbs ≤ 33554432) (k : Nat) : (dotF n u k).natAbs ≤ 288230376151711744 := by
  have h1 := dotF_abs hb k
  rcases hn with rfl | rfl <;> omega
/-- The first q are f's. -/
def upTo (f f' : Nat → Int) (q i : Nat) : Int := if i < q then f i else f' i
theorem upTo_next (f f' : Nat → Int) (q i : Nat) : (if i = q then f q else upTo f f' q i) = upTo f f' (q + 1) i := by
  unfold upTo
  by_cases e : i = q
  · subst e; rw [if_pos rfl, if_pos (by omega)]
  · rw [if_neg e]
    by_cases c : i < q
    · rw [if_pos c, if_pos (by omega)]
    · rw [if_neg c, if_neg (by omega)]
theorem upTo_here (f f' : Nat → Int) (q : Nat) : upTo f f' q q = f' q := by unfold upTo; rw [if_neg (by omega)]
theorem upTo_end (f f' : Nat → Int) (n i : Nat) (h : i < n) : upTo f f' n i = f i := if_pos h
theorem upTo_start (f f' : Nat → Int) (i : Nat) : upTo f f' 0 i = f' i := by unfold upTo; rw [if_neg (by omega)]
set_option maxRecDepth 100000 in
theorem lapTurn_any (g c n cap : Nat) (a : Option Addr) (u : Nat → Int) (w : World) (hT : TrAt w g c n) (hn : n = 128 ∨ n = 512) (hu : FnAt w w.heap.size .i32 a n u) (hb : ∀ j, j < n → -33554432 ≤ u j ∧ u j ≤ 33554432) :
    Calls Tryz.prog 135 #[.pointer (some ⟨g, 0, none⟩), .slice a n cap] w (RowPost .i32 21 n (turnF n u) w) := by
  have HT := Lib.hid hT
  have HU := Lib.hid hu
  have HB := Lib.hid hb
  have Hn := Lib.hid hn
  have gl := hT.1.lt
  have cc := hT.cells.2
  obtain ⟨V, hV⟩ : ∃ V, V = 512 / n := ⟨_, rfl⟩
  have hV1 : V ≤ 4 := by rcases hn with rfl | rfl <;> omega
  have hVd : 512 / (n : Int) = (V : Int) := by rw [hV]; rcases hn with rfl | rfl <;> rfl
  have hVt : (512 : Int).tdiv (n : Int) = (V : Int) := by rw [Int.tdiv_eq_ediv_of_nonneg (by omega)]; exact hVd
  have hU : RowKit.Hid (∀ k, k < n → (2 * k + 1) * V ≤ 1023) := by
    intro k hk
    rw [hV]
    rcases hn with rfl | rfl <;> omega
  have HV := Lib.hid hV
  have n1 : 1 ≤ n := by omega
  have n2 : n ≤ 512 := by omega
  have n0 : ¬ (n : Int) = 0 := by omega
  clear hV hb hT hn hu
  have hmk : ∀ w : World, (Instr.makeSlice 49 (.int .i64 (n : Int)) (.int .i64 (n : Int))).run Tryz.prog w = .ok (.slice (some ⟨w.heap.size, 0, none⟩) n n) (w.alloc (.cells (madeCells #[.int .i32 0] n) 21)) :=
    fun w => make_zeros (P := Tryz.prog) Tryz.underlying49 info_i32 n (by omega) (by omega) w
  have H0 : RowKit.Hid (IFun (w.alloc (.cells (madeCells #[.int .i32 0] n) 21)) w.heap.size 21 .i32 n (upTo (turnF n u) (fun _ => 0) 0) ∧ Below w.heap.size w (w.alloc (.cells (madeCells #[.int .i32 0] n) 21))) :=
    ⟨IFun.ext (IFun.zeros w 21 .i32 n) fun j _ => (upTo_start (turnF n u) (fun _ => 0) j).symm, Below.alloc_new w _⟩
  have cc' := (H0.out.2.cell (p := ⟨g, 1, none⟩) gl).trans cc
  go_enter Tryz.func135, Tryz.ntmps135
  go_wp2
  clear hmk cc cc' hVd hVt
  generalize hg : w.heap.size = gg at H0 gl ⊢
  generalize (w.alloc (.cells (madeCells #[.int .i32 0] n) 21)) = w1 at H0 ⊢
  go_loopw [7, 18] (fun _ i wr => ∃ q : Nat, q ≤ n ∧ i = .int .i64 (q : Int) ∧ RowKit.Hid (IFun wr gg 21 .i32 n (upTo (turnF n u) (fun _ => 0) q) ∧ Below gg w wr)) (fun _ i _ => n - (intOf i).toNat)
  case atStart => exact ⟨0, by omega, rfl, H0.out⟩
  case round =>
    obtain ⟨q, hq, rfl, HI⟩ := hrel
    clear H0
    by_cases hlt : q < n
    · obtain ⟨U, hUe⟩ : ∃ U, U = (2 * q + 1) * V := ⟨_, rfl⟩
      have hU1 : U ≤ 1023 := by rw [hUe]; exact hU.out q hlt
      have hUi : (2 * (q : Int) + 1) * (V : Int) = (U : Int) := by rw [hUe]; simp
      have HTr : RowKit.Hid (TrAt wr g c n) := TrAt.below HT.out HI.out.2 (by omega)
      have HUr : RowKit.Hid (FnAt wr wr.heap.size .i32 a n u) := by
        refine (HU.out.below HI.out.2 (by omega)).grow ?_
        have := HI.out.2.size; omega
      have HW : RowKit.Hid (Calls Tryz.prog 145 #[.pointer (some ⟨g, 0, none⟩), .slice a n cap, .int .i64 (U : Int)] wr fun e w' => e = .returned (.int .i64 (dotF n u q)) ∧ wr = w') :=
        lapWeigh_any g c n cap q a u (U : Int) wr HTr.out Hn.out hlt HUr.out HB.out (by rw [hUe, HV.out])
      have HL : RowKit.Hid (Calls Tryz.prog 146 #[.pointer (some ⟨g, 0, none⟩)] wr fun e w' => e = .returned (.int .i64 (lossN n)) ∧ wr = w') := lapLoss_any g c n wr HTr.out Hn.out
      have hd := dotF_wide Hn.out (u := u) (fun j hj => by have := HB.out j hj; omega) q
      have ht := turnF_wide Hn.out (u := u) (fun j hj => by have := HB.out j hj; omega) q
      have HR : RowKit.Hid (rndP (dotF n u q) (lossN n) = turnF n u q) := rfl
      have o1 := HI.out.1.cell (j := q) (by omega)
      have f1 := HI.out.1.frozen q
      have HS : RowKit.Hid (IFun (wr.setCell ⟨gg, q, none⟩ (.int .i32 (turnF n u q))) gg 21 .i32 n (upTo (turnF n u) (fun _ => 0) (q + 1)) ∧ Below gg w (wr.setCell ⟨gg, q, none⟩ (.int .i32 (turnF n u q)))) :=
        ⟨IFun.ext (HI.out.1.set (j := q) (by omega) (turnF n u q)) fun i _ => upTo_next _ _ q i, Below.setCell (p := ⟨gg, q, none⟩) HI.out.2 (Nat.le_refl _) _⟩
      generalize turnF n u q = t at ht HR HS
      generalize dotF n u q = d at hd HW HR
      generalize lossN n = ls at HL HR
      generalize upTo (turnF n u) (fun _ => 0) q q = z at o1
      have t0 : -1073741824 ≤ t := by omega
      have t1 : t ≤ 1073741824 := by omega
      have l1 : (q : Int) < (n : Int) := by omega
      clear HI hUe ht
      go_wp2_with (first | (go_at_call 145; refine (HW.out).mono ?_; rintro e w' ⟨rfl, rfl⟩) | (go_at_call 146; refine (HL.out).mono ?_; rintro e w' ⟨rfl, rfl⟩) | (go_at_call 119; refine (round_any d ls _ (by omega) (by omega)).mono ?_; rintro e w' ⟨rfl, rfl⟩; rw [HR.out]))
      go_roundw
      case rel => exact ⟨q + 1, by omega, by go_num, HS.out⟩
      case measure => simp [intOf] <;> omega
    · obtain rfl : q = n := by omega
      have Z : RowKit.Hid (IFun wr gg 21 .i32 q (turnF q u) ∧ Below gg w wr) := ⟨IFun.ext HI.out.1 fun i hi => upTo_end _ _ q i hi, HI.out.2⟩
      go_wp2
      go_ret
      exact ⟨gg, rfl, Z.out.1, by omega, by rw [hg]; exact Z.out.2⟩

/-! ### Forward -/
theorem satP_21 {x : Int} (h : -1048576 ≤ x) (h' : x ≤ 1048575) : satP x 21 = x := satP_self (by decide) (by decide) (by rw [show P2 ((21 : Int).toNat - 1) = 1048576 by decide]; omega) (by rw [show P2 ((21 : Int).toNat - 1) = 1048576 by decide]; omega)
theorem satP_26' {x : Int} (h : -33554432 ≤ x) (h' : x ≤ 33554431) : satP x 26 = x := satP_self (by decide) (by decide) (by rw [show P2 ((26 : Int).toNat - 1) = 33554432 by decide]; omega) (by rw [show P2 ((26 : Int).toNat - 1) = 33554432 by decide]; omega)
theorem satP_21_no {x : Int} (h : x < -1048576 ∨ 1048575 < x) : satP x 21 ≠ x := by
  rw [satP_in (by decide) (by decide), show P2 ((21 : Int).toNat - 1) = 1048576 by decide]
  split
  · omega
  · split <;> omega
theorem satP_26_no {x : Int} (h : x < -33554432 ∨ 33554431 < x) : satP x 26 ≠ x := by
  rw [satP_in (by decide) (by decide), show P2 ((26 : Int).toNat - 1) = 33554432 by decide]
  split
  · omega
  · split <;> omega
noncomputable def fwdF (n : Nat) (x : Nat → Int) (k : Nat) : Int := satP (turnF n (foldF n x) k) 26
noncomputable def backF (n : Nat) (l : Nat → Int) (i : Nat) : Int := unfoldF n (turnF n l) i
def RowsPost (n : Nat) (f : Nat → Int) (w : World) (e : Ending) (w' : World) : Prop :=
  ∃ g, e = .returned (.tuple #[.slice (some ⟨g, 0, none⟩) n n, .int .i64 0]) ∧ IFun w' g 21 .i32 n f ∧ w.heap.size ≤ g ∧ Below w.heap.size w w'
set_option maxRecDepth 100000 in
theorem lapForward_any (g c n N cap : Nat) (a : Option Addr) (x : Nat → Int) (w : World) (hT : TrAt w g c n) (hn : n = 128 ∨ n = 512) (hN : N = 2 * n) (hx : FnAt w w.heap.size .i32 a N x) (hb : ∀ j, j < N → -1048576 ≤ x j ∧ x j ≤ 1048575) :
    Calls Tryz.prog 103 #[.pointer (some ⟨g, 0, none⟩), .slice a N cap] w (RowsPost n (fwdF n x) w) := by
  have HT := Lib.hid hT
  have HX := Lib.hid hx
  have HB := Lib.hid hb
  have Hn := Lib.hid hn
  have HN := Lib.hid hN
  have cc := hT.cells.2
  have n1 : 1 ≤ n := by omega
  have n2 : n ≤ 512 := by omega
  have e1 : 2 * (n : Int) = (N : Int) := by omega
  have hF : RowKit.Hid (∀ j, j < n → (foldF n x j).natAbs ≤ 2097152) := fun j hj => foldF_abs (B := 1048576) (by omega) (fun i hi => by have := hb i (by omega); omega) hj
  clear hT hn hx hb
  have hN2 : N ≤ 1024 := by omega
  clear hN
  have K1 : RowKit.Hid (Calls Tryz.prog 133 #[.pointer (some ⟨g, 0, none⟩)] w fun e w' => e = .returned (.bool true) ∧ w = w') := lapMade_any g c n w HT.out Hn.out
  have K2 : RowKit.Hid (Calls Tryz.prog 134 #[.slice a N cap, .int .i64 N, .int .i64 21] w fun e w' => e = .returned (.bool true) ∧ w = w') :=
    lapFit_yes a N cap 21 x w HX.out (by omega) (fun j hj => by have := HB.out j hj; omega) (fun j hj => by have := HB.out j hj; exact satP_21 (by omega) (by omega))
  have K3 : RowKit.Hid (Calls Tryz.prog 136 #[.slice a N cap] w (RowPost .i32 21 n (foldF n x) w)) :=
    lapFold_any (n / 2) n N cap a x w (by have := Hn.out; omega) (by omega) (by have := Hn.out; omega) (by have := HN.out; have := Hn.out; omega) HX.out HB.out
  go_enter Tryz.func103, Tryz.ntmps103
  go_wp2_with (first | (go_at_call 133; refine (K1.out).mono ?_; rintro e w' ⟨rfl, rfl⟩) | (go_at_call 134; refine (K2.out).mono ?_; rintro e w' ⟨rfl, rfl⟩) | (go_at_call 136; go_loud (refine (K3.out).mono ?_); rintro e w1 ⟨g1, rfl, i1, s1, b1⟩; have I1 := Lib.hid i1; have S1 := Lib.hid s1; have B1 := Lib.hid b1; clear i1 s1 b1) | (go_at_call 135; go_loud (refine (lapTurn_any g c n n _ (foldF n x) _ (HT.out.below B1.out (Nat.le_refl _)) Hn.out (FnAt.of_ifun I1.out) (fun j hj => by have := hF.out j hj; omega)).mono ?_); rintro e w2 ⟨g2, rfl, i2, s2, b2⟩; have I2 := Lib.hid i2; have S2 : RowKit.Hid (w.heap.size ≤ g2) := Nat.le_trans B1.out.size s2; have B2 : RowKit.Hid (Below w.heap.size w w2) := chain B1.out b2; clear i2 s2 b2))
  clear cc
  have H0 : RowKit.Hid (IFun w2 g2 21 .i32 n (upTo (fwdF n x) (turnF n (foldF n x)) 0) ∧ Below w.heap.size w w2) := ⟨IFun.ext I2.out fun i _ => (upTo_start _ _ i).symm, B2.out⟩
  clear I1 S1 B1 I2 B2 K1 K2 K3
  go_loopw [7, 8, 28] (fun _ _ i wr => ∃ q : Nat, q ≤ n ∧ i = .int .i64 (q : Int) ∧ RowKit.Hid (IFun wr g2 21 .i32 n (upTo (fwdF n x) (turnF n (foldF n x)) q) ∧ Below w.heap.size w wr)) (fun _ _ i _ => n - (intOf i).toNat)
  case atStart => exact ⟨0, by omega, rfl, H0.out⟩
  case round =>
    obtain ⟨q, hq, rfl, HI⟩ := hrel
    clear H0
    by_cases hlt : q < n
    · have o1 := HI.out.1.cell (j := q) (by omega)
      rw [upTo_here] at o1
      have f1 := HI.out.1.frozen q
      have hb := turnF_wide Hn.out (u := foldF n x) (fun j hj => by have := hF.out j hj; omega) q
      have HS : RowKit.Hid (IFun (wr.setCell ⟨g2, q, none⟩ (.int .i32 (fwdF n x q))) g2 21 .i32 n (upTo (fwdF n x) (turnF n (foldF n x)) (q + 1)) ∧ Below w.heap.size w (wr.setCell ⟨g2, q, none⟩ (.int .i32 (fwdF n x q)))) :=
        ⟨IFun.ext (HI.out.1.set (j := q) (by omega) (fwdF n x q)) fun i _ => upTo_next _ _ q i, Below.setCell (p := ⟨g2, q, none⟩) HI.out.2 S2.out _⟩
      have HE : RowKit.Hid (satP (turnF n (foldF n x) q) 26 = fwdF n x q) := rfl
      obtain ⟨t0, t1⟩ := satP_26_bd (turnF n (foldF n x) q)
      rw [HE.out] at t0 t1
      generalize fwdF n x q = t at HS HE t0 t1
      generalize turnF n (foldF n x) q = d at o1 hb HE
      have d0 : -1073741824 ≤ d := by omega
      have d1 : d ≤ 1073741824 := by omega
      clear HI hb
      go_wp2_with (first | (go_at_call 120; refine (wide32_any d _ (by omega) (by omega)).mono ?_; rintro e w' ⟨rfl, rfl⟩) | (go_at_call 123; refine (sat_any d 26 _ (by omega) (by omega)).mono ?_; rintro e w' ⟨rfl, rfl⟩; rw [HE.out]))
      go_roundw
      case rel => exact ⟨q + 1, by omega, by go_num, HS.out⟩
      case measure => simp [intOf] <;> omega
    · obtain rfl : q = n := by omega
      have Z : RowKit.Hid (IFun wr g2 21 .i32 q (fwdF q x) ∧ Below w.heap.size w wr) := ⟨IFun.ext HI.out.1 fun i hi => upTo_end _ _ q i hi, HI.out.2⟩
      go_wp2
      go_ret2
      exact ⟨g2, rfl, Z.out.1, S2.out, Z.out.2⟩
theorem lapForward_nil (a : Option Addr) (len cap : Nat) (w : World) :
    Calls Tryz.prog 103 #[.pointer none, .slice a len cap] w fun e w' => e = .returned (.tuple #[.slice none 0 0, .int .i64 1]) ∧ w = w' := by
  go_enter Tryz.func103, Tryz.ntmps103
  go_wp2_with (go_at_call 133; refine (lapMade_nil _).mono ?_; rintro e w' ⟨rfl, rfl⟩)
  go_ret2
  exact ⟨rfl, rfl⟩
/-- What doesn't fit is refused. -/
theorem lapForward_no (g c n len cap : Nat) (a : Option Addr) (w : World) (hT : TrAt w g c n) (hn : n = 128 ∨ n = 512) (hl : len ≤ 1000000)
    (hf : Calls Tryz.prog 134 #[.slice a len cap, .int .i64 (2 * (n : Int)), .int .i64 21] w fun e w' => e = .returned (.bool false) ∧ w = w') :
    Calls Tryz.prog 103 #[.pointer (some ⟨g, 0, none⟩), .slice a len cap] w fun e w' => e = .returned (.tuple #[.slice none 0 0, .int .i64 1]) ∧ w = w' := by
  have cc := hT.cells.2
  have K1 : RowKit.Hid (Calls Tryz.prog 133 #[.pointer (some ⟨g, 0, none⟩)] w fun e w' => e = .returned (.bool true) ∧ w = w') := lapMade_any g c n w hT hn
  have K2 := Lib.hid hf
  have n2 : n ≤ 512 := by omega
  clear hT hn hf
  go_enter Tryz.func103, Tryz.ntmps103
  go_wp2_with (first | (go_at_call 133; refine (K1.out).mono ?_; rintro e w' ⟨rfl, rfl⟩) | (go_at_call 134; refine (K2.out).mono ?_; rintro e w' ⟨rfl, rfl⟩))
  go_ret2
  exact ⟨rfl, rfl⟩

/-! ### Back -/
set_option maxRecDepth 100000 in
theorem lapBack_any (g c n N cap : Nat) (a : Option Addr) (l : Nat → Int) (w : World) (hT : TrAt w g c n) (hn : n = 128 ∨ n = 512) (hN : N = 2 * n) (hx : FnAt w w.heap.size .i32 a n l) (hb : ∀ j, j < n → -33554432 ≤ l j ∧ l j ≤ 33554431) :
    Calls Tryz.prog 122 #[.pointer (some ⟨g, 0, none⟩), .slice a n cap] w (RowsPost N (backF n l) w) := by
  have HT := Lib.hid hT
  have HX := Lib.hid hx
  have HB := Lib.hid hb
  have Hn := Lib.hid hn
  have HN := Lib.hid hN
  have cc := hT.cells.2
  have n1 : 1 ≤ n := by omega
  have n2 : n ≤ 512 := by omega
  clear hT hn hx hb hN
  have K1 : RowKit.Hid (Calls Tryz.prog 133 #[.pointer (some ⟨g, 0, none⟩)] w fun e w' => e = .returned (.bool true) ∧ w = w') := lapMade_any g c n w HT.out Hn.out
  have K2 : RowKit.Hid (Calls Tryz.prog 134 #[.slice a n cap, .int .i64 n, .int .i64 26] w fun e w' => e = .returned (.bool true) ∧ w = w') :=
    lapFit_yes a n cap 26 l w HX.out (by omega) (fun j hj => by have := HB.out j hj; omega) (fun j hj => by have := HB.out j hj; exact satP_26' (by omega) (by omega))
  have K3 : RowKit.Hid (Calls Tryz.prog 135 #[.pointer (some ⟨g, 0, none⟩), .slice a n cap] w (RowPost .i32 21 n (turnF n l) w)) :=
    lapTurn_any g c n cap a l w HT.out Hn.out HX.out (fun j hj => by have := HB.out j hj; omega)
  have hF : RowKit.Hid (∀ k, -2147483647 ≤ turnF n l k ∧ turnF n l k ≤ 2147483647) := fun k => by
    have := turnF_wide Hn.out (u := l) (fun j hj => by have := HB.out j hj; omega) k
    omega
  go_enter Tryz.func122, Tryz.ntmps122
  go_wp2_with (first | (go_at_call 133; refine (K1.out).mono ?_; rintro e w' ⟨rfl, rfl⟩) | (go_at_call 134; refine (K2.out).mono ?_; rintro e w' ⟨rfl, rfl⟩) | (go_at_call 135; go_loud (refine (K3.out).mono ?_); rintro e w1 ⟨g1, rfl, i1, s1, b1⟩; have I1 := Lib.hid i1; have S1 := Lib.hid s1; have B1 := Lib.hid b1; clear i1 s1 b1) | (go_at_call 142; go_loud (refine (lapUnfold_any (n / 2) n N n _ (turnF n l) _ (by have := Hn.out; omega) (by omega) (by have := Hn.out; omega) (by have := HN.out; have := Hn.out; omega) (FnAt.of_ifun I1.out) (fun j hj => hF.out j)).mono ?_); rintro e w2 ⟨g2, rfl, i2, s2, b2⟩; have I2 := Lib.hid i2; have S2 : RowKit.Hid (w.heap.size ≤ g2) := Nat.le_trans B1.out.size s2; have B2 : RowKit.Hid (Below w.heap.size w w2) := chain B1.out b2; clear i2 s2 b2))
  go_ret2
  exact ⟨g2, rfl, I2.out, S2.out, B2.out⟩
theorem lapBack_nil (a : Option Addr) (len cap : Nat) (w : World) :
    Calls Tryz.prog 122 #[.pointer none, .slice a len cap] w fun e w' => e = .returned (.tuple #[.slice none 0 0, .int .i64 1]) ∧ w = w' := by
  go_enter Tryz.func122, Tryz.ntmps122
  go_wp2_with (go_at_call 133; refine (lapMade_nil _).mono ?_; rintro e w' ⟨rfl, rfl⟩)
  go_ret2
  exact ⟨rfl, rfl⟩
theorem lapBack_no (g c n len cap : Nat) (a : Option Addr) (w : World) (hT : TrAt w g c n) (hn : n = 128 ∨ n = 512)
    (hf : Calls Tryz.prog 134 #[.slice a len cap, .int .i64 (n : Int), .int .i64 26] w fun e w' => e = .returned (.bool false) ∧ w = w') :
    Calls Tryz.prog 122 #[.pointer (some ⟨g, 0, none⟩), .slice a len cap] w fun e w' => e = .returned (.tuple #[.slice none 0 0, .int .i64 1]) ∧ w = w' := by
  have cc := hT.cells.2
  have K1 : RowKit.Hid (Calls Tryz.prog 133 #[.pointer (some ⟨g, 0, none⟩)] w fun e w' => e = .returned (.bool true) ∧ w = w') := lapMade_any g c n w hT hn
  have K2 := Lib.hid hf
  clear hT hn hf
  go_enter Tryz.func122, Tryz.ntmps122
  go_wp2_with (first | (go_at_call 133; refine (K1.out).mono ?_; rintro e w' ⟨rfl, rfl⟩) | (go_at_call 134; refine (K2.out).mono ?_; rintro e w' ⟨rfl, rfl⟩))
  go_ret2
  exact ⟨rfl, rfl⟩
end Go.Proofs.YtkhhhejmbgloeaaGreat
