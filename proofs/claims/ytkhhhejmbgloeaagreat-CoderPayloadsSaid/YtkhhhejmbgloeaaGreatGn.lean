/- Plain facts, and what functions give, for the proofs of this seat: several texts in one, each with its own first remark. -/
import Derived.Test.YtkhhhejmbgloeaaGreatGc
import Derived.Test.YtkhhhejmbgloeaaGreatGm
import Derived.StillTailTactics
import Derived.Test.YtkhhhejmbgloeaaGreatGb

/- What the functions of package bands give, for whatever arguments. -/
namespace Go.Proofs.YtkhhhejmbgloeaaGreat
open Go.RowKit
set_option linter.unusedVariables false

/-- Block g is a circle's table. -/
def CircAt (w : World) (g : Nat) : Prop := IFun w g 168 .i32 1025 cosN
theorem CircAt.keep {w w' : World} {g : Nat} (h : CircAt w g) (hk : w'.heap[g]? = w.heap[g]?) : CircAt w' g := hk.trans h
theorem CircAt.lt {w : World} {g : Nat} (h : CircAt w g) : g < w.heap.size := IFun.lt h

theorem ints_some {w : World} {B len : Nat} {k : IntKind} {a : Option Addr} {zs : List Int} (h : IntsAt w B k a len zs) (h0 : 0 < len) : ∃ b off, a = some ⟨b, off, none⟩ := by
  obtain ⟨b, off, e, _⟩ := h.2.resolve_left (by omega)
  exact ⟨b, off, e⟩
theorem ints_cell {w : World} {B len b off : Nat} {k : IntKind} {zs : List Int} (h : IntsAt w B k (some ⟨b, off, none⟩) len zs) {j : Nat} (hj : j < len) : w.cell? ⟨b, off + j, none⟩ = some (.int k (zs.getD j 0)) := by
  obtain ⟨b', off', e, _, _, hc⟩ := h.at_ hj
  obtain ⟨rfl, rfl⟩ : b = b' ∧ off = off' := by injection e with e; injection e with e1 e2; exact ⟨e1, e2⟩
  exact hc

/-! ### Dividing to the nearest -/
theorem i64_and4095 (n : Int) : bits .and .i64 n 4095 = n % 4096 := by
  have h1 : (BitVec.ofInt 64 4095).toNat = 2 ^ 12 - 1 := by decide
  have key : (BitVec.ofInt 64 n &&& BitVec.ofInt 64 4095).toNat = (n % ((2 ^ 64 : Nat) : Int)).toNat % 2 ^ 12 := by
    rw [BitVec.toNat_and, BitVec.toNat_ofInt, h1, Nat.and_two_pow_sub_one_eq_mod]
  show IntKind.i64.wrap ((BitVec.ofInt 64 n &&& BitVec.ofInt 64 4095).toNat : Nat) = n % 4096
  rw [key, IntKind.wrap_i64]
  omega
theorem near_eq {n z : Int} (hn : 0 ≤ n) (hz : 0 < z) : (n + z / 2) / z = if 2 * (n % z) ≥ z then n / z + 1 else n / z := by
  have h := Int.emod_add_mul_ediv n z
  have t0 := Int.emod_nonneg n (b := z) (by omega)
  have t1 := Int.emod_lt_of_pos n hz
  have e : n + z / 2 = (n % z + z / 2) + z * (n / z) := by omega
  rw [e, Int.add_mul_ediv_left _ _ (by omega)]
  split
  · rename_i c
    have : (n % z + z / 2) / z = 1 := by
      rw [show n % z + z / 2 = (n % z + z / 2 - z) + z * 1 by omega, Int.add_mul_ediv_left _ _ (by omega), Int.ediv_eq_zero_of_lt (by omega) (by omega)]
      rfl
    omega
  · have : (n % z + z / 2) / z = 0 := Int.ediv_eq_zero_of_lt (by omega) (by omega)
    omega
theorem nearest_any (n z v : Int) (w : World) (hn : 0 ≤ n) (hn' : n ≤ 562949953421312) (hz : 0 < z) (hz' : z ≤ 16777216) (hv : v = if 2 * (n % z) ≥ z then n / z + 1 else n / z) :
    Calls Tryz.prog 130 #[.int .i64 n, .int .i64 z] w fun e w' => e = .returned (.int .i64 v) ∧ w = w' := by
  have E : RowKit.Hid ((n + z / 2) / z = v) := by show _ = _; rw [hv]; exact near_eq hn hz
  clear hv
  go_enter Tryz.func130, Tryz.ntmps130
  go_wp2
  go_ret
  exact ⟨ret_int E.out, rfl⟩

/-! ### Making the table -/
set_option maxHeartbeats 300000 in
set_option maxRecDepth 100000 in
theorem circHalve_any (B g k H : Nat) (w : World) (hB : B ≤ g) (hk9 : k < 10) (hH : H = 2 ^ (k + 1)) (hg : IFun w g 168 .i32 1025 (lev (k + 1))) :
    Calls Tryz.prog 100 #[.pointer (some ⟨g, 0, none⟩), .int .i64 H] w fun e w' => e = .returned (.tuple #[]) ∧ IFun w' g 168 .i32 1025 (lev k) ∧ Below B w w' := by
  have HI := Lib.hid hg
  have HH := Lib.hid hH
  obtain ⟨m, hm⟩ : ∃ m, m = 2 ^ k := ⟨_, rfl⟩
  have hHm : H = 2 * m := by rw [hH, hm, Nat.pow_succ]; omega
  have hp : 1 ≤ 2 ^ k := Nat.two_pow_pos k
  have hp2 : 2 ^ k ≤ 512 := Nat.pow_le_pow_right (n := 2) (by decide) (show k ≤ 9 by omega)
  have hm1 : 1 ≤ m := by omega
  have hm2 : 2 * m ≤ H := by omega
  have hm3 : H ≤ 2 * m := by omega
  have hH2 : H ≤ 1024 := by omega
  clear hp hp2 hH
  have hq1 : (H : Int) / 2 = (m : Int) := by omega
  have hq2 : (H : Int).tdiv 2 = (m : Int) := by rw [Int.tdiv_eq_ediv_of_nonneg (by omega)]; exact hq1
  clear hHm
  have hcH := HI.out.cell (j := H) (by omega)
  have hcm := HI.out.cell (j := m) (by omega)
  have hfm := HI.out.frozen m
  have e1 : lev (k + 1) H = cosN H := by unfold lev; rw [if_pos (by rw [HH.out]; exact Nat.mod_self _)]
  rw [e1] at hcH
  clear e1
  obtain ⟨b0, b1⟩ := cosN_bd (i := H) (by omega)
  have HR : RowKit.Hid (rootP ((16777216 + cosN H) * 8388608) = cosN m) := by
    have := cos_root hk9
    rw [← HH.out, ← hm] at this
    exact (rootP_eq this).symm
  obtain ⟨d0, d1⟩ := cosN_bd (i := m) (by omega)
  have HS : RowKit.Hid (IFun (w.setCell ⟨g, m, none⟩ (.int .i32 (cosN m))) g 168 .i32 1025 (levA k H)) := by
    refine IFun.ext (HI.out.set (j := m) (by omega) (cosN m)) fun j _ => ?_
    rw [HH.out, ← levA_start, ← hm]
  have HB := Lib.hid ((Below.refl B w).setCell (p := ⟨g, m, none⟩) hB (.int .i32 (cosN m)))
  have HM := Lib.hid hm
  have c1 : 1 ≤ cosN m := by have := cosN_falls (i := m) (by omega); have := cosN_bd (i := m + 1) (by omega); omega
  clear hm HI hg d0
  generalize lev (k + 1) m = old at hcm
  go_enter Tryz.func100, Tryz.ntmps100
  go_wp2_with (go_at_call 129; refine (root_any _ _ (by omega) (by omega)).mono ?_; rintro e w' ⟨rfl, rfl⟩; rw [HR.out])
  clear hcH hcm hfm HR
  go_loopw [6, 7] (fun a _ wr => ∃ A : Nat, a = .int .i64 A ∧ H ≤ A ∧ A ≤ 1024 ∧ RowKit.Hid (A % 2 ^ (k + 1) = 0) ∧ RowKit.Hid (IFun wr g 168 .i32 1025 (levA k A) ∧ Below B w wr))
    (fun a _ _ => (1024 - intOf a).toNat)
  case atStart => exact ⟨H, rfl, by omega, by omega, by show H % 2 ^ (k + 1) = 0; rw [HH.out]; exact Nat.mod_self _, HS.out, HB.out⟩
  case round =>
    obtain ⟨A, rfl, hA0, hA1, HA, HI⟩ := hrel
    clear HS HB
    by_cases hlt : A < 1024
    · have hAH : A + H ≤ 1024 := by
        rcases Nat.lt_or_ge 1024 (A + H) with c | c
        · have := step_last hk9 HA.out hA1 (by rw [← HH.out]; exact c)
          omega
        · exact c
      have i1 := HI.out.1.cell (j := A) (by omega)
      have i2 := HI.out.1.cell (j := A + H) (by omega)
      have i4 := HI.out.1.cell (j := A + m) (by omega)
      have f4 := HI.out.1.frozen (A + m)
      have e1 : levA k A A = cosN A := levA_old HA.out
      have e2 : levA k A (A + H) = cosN (A + H) := levA_old (by rw [HH.out]; exact (step_next HA.out).1)
      rw [e1] at i1
      rw [e2] at i2
      clear e1 e2
      obtain ⟨x0, x1⟩ := cosN_bd (i := A) (by omega)
      obtain ⟨y0, y1⟩ := cosN_bd (i := A + H) (by omega)
      have HC := Lib.hid (cos_mid (k := k) (a := A) hk9 (by omega) HA.out (by omega))
      obtain ⟨v0, v1⟩ := cosN_bd (i := A + m) (by omega)
      have HV : RowKit.Hid (∀ i : Nat, IFun ((wr.drewN i).setCell ⟨g, A + m, none⟩ (.int .i32 (cosN (A + m)))) g 168 .i32 1025 (levA k (A + H)) ∧ Below B w ((wr.drewN i).setCell ⟨g, A + m, none⟩ (.int .i32 (cosN (A + m))))) := by
        intro i
        refine ⟨IFun.ext ((HI.out.1.drewN i).set (j := A + m) (by omega) (cosN (A + m))) fun j _ => ?_, (Below.drewN' HI.out.2 i).setCell hB _⟩
        rw [HH.out, ← levA_next HA.out, ← HM.out]
      rw [← HM.out, ← HH.out] at HC
      generalize cosN A = x at i1 x0 x1 HC
      generalize cosN (A + H) = y at i2 y0 y1 HC
      generalize cosN (A + m) = v at HC HV v0 v1
      generalize cosN m = z at c1 d1 HC ⊢
      generalize levA k A (A + m) = old at i4
      go_wp2
      have g1 : IntKind.i64.wrap ((A : Int) + (H : Int)) = (A : Int) + (H : Int) := IntWalk.i64_in _ (by omega)
      have g2 : IntKind.i64.wrap (x + y) = x + y := IntWalk.i64_in _ (by omega)
      have g4 : ((A : Int) + (H : Int)).toNat = A + H := by omega
      have g5 : (A : Int) < 1025 := by omega
      have g6 : (A : Int) + (H : Int) < 1025 := by omega
      have g7 : 0 ≤ (A : Int) + (H : Int) := by omega
      go_quiet (first | (go_at_call 120; exact Calls.quiet_of_same ((wide32_any x _ (by omega) (by omega)).mono fun _ _ h => ⟨h.1, h.2.symm⟩)) | (go_at_call 120; exact Calls.quiet_of_same ((wide32_any y _ (by omega) (by omega)).mono fun _ _ h => ⟨h.1, h.2.symm⟩)))
      clear g1 g2 g4 g5 g6 g7
      obtain ⟨n, hn⟩ : ∃ n, n = (x + y) * 8388608 := ⟨_, rfl⟩
      have n0 : 0 ≤ n := by omega
      have n1 : n ≤ 281474976710656 := by omega
      have HW : RowKit.Hid (IFun ((wr.drewN nq).drew.setCell ⟨g, A + m, none⟩ (.int .i32 v)) g 168 .i32 1025 (levA k (A + H)) ∧ Below B w ((wr.drewN nq).drew.setCell ⟨g, A + m, none⟩ (.int .i32 v))) := by
        have := HV.out (nq + 1)
        rw [← World.drewN_drewN] at this
        exact this
      have j4 : (wr.drewN nq).cell? ⟨g, A + m, none⟩ = some (.int .i32 old) := i4
      have k4 : (wr.drewN nq).frozen? ⟨g, A + m, none⟩ = false := f4
      generalize wr.drewN nq = wq at HW j4 k4 ⊢
      clear HV i1 i2 i4 f4
      rw [← hn] at HC
      have g2 : IntKind.i64.wrap (x + y) = x + y := IntWalk.i64_in _ (by omega)
      have g1 : IntKind.i64.wrap ((x + y) * 8388608) = n := by rw [hn]; exact IntWalk.i64_in _ (by omega)
      have g3 : IntKind.i64.wrap ((A : Int) + (m : Int)) = (A : Int) + (m : Int) := IntWalk.i64_in _ (by omega)
      have g4 : ((A : Int) + (m : Int)).toNat = A + m := by omega
      have g6 : (A : Int) + (m : Int) < 1025 := by omega
      have g7 : 0 ≤ (A : Int) + (m : Int) := by omega
      have g8 : IntKind.i64.wrap z = z := IntWalk.i64_in _ (by omega)
      have g9 : IntKind.i32.wrap v = v := IntWalk.i32_in _ (by omega)
      clear hn
      go_wp2
      go_still_tail 13, (by kernel_rfl)
      still_call ((nearest_any n z v _ n0 (by omega) (by omega) d1 HC.out).mono fun _ _ h => ⟨h.1, h.2.symm⟩)
      repeat still_step
      refine wpStill_nil ?_
      change wpList _ _ _ _ _ wq.drew
      clear g1 g2 g3 g4 g6 g7 g8 g9
      have j5 : wq.drew.cell? ⟨g, A + m, none⟩ = some (.int .i32 old) := j4
      have k5 : wq.drew.frozen? ⟨g, A + m, none⟩ = false := k4
      generalize wq.drew = wp at HW j5 k5 ⊢
      clear j4 k4
      go_wp2
      go_roundw
      case rel => exact ⟨A + H, by go_num, by omega, by omega, by show _ % _ = _; rw [HH.out]; exact (step_next HA.out).1, HW.out⟩
      case measure => simp [intOf] <;> omega
    · obtain rfl : A = 1024 := by omega
      have Z : RowKit.Hid (IFun wr g 168 .i32 1025 (lev k)) := IFun.ext HI.out.1 fun j hj => levA_end hk9 j hj
      have HB := Lib.hid HI.out.2
      clear HI
      go_wp2
      go_end0
      exact ⟨rfl, Z.out, HB.out⟩

theorem made_rep (k : IntKind) (n : Nat) : madeCells #[.int k 0] n = Array.replicate n (.int k 0) := by
  apply Array.ext_getElem?
  intro i
  by_cases h : i < n
  · simp [madeCells, Nat.mod_one, h]
  · simp [madeCells, h]
theorem info_circ : (Tryz.prog.info? 168).map (fun i => i.zero) = some (some (.agg (Array.replicate 1025 (.int .i32 0)))) := by kernel_rfl
theorem zero_circ (w : World) : (zeroValue 168).run Tryz.prog w = .ok (.agg (madeCells #[.int .i32 0] 1025)) w := by
  obtain ⟨i, h1, h2⟩ := Option.map_eq_some_iff.1 info_circ
  simp [zeroValue, typeInfo, h1, h2, made_rep]
set_option maxRecDepth 100000 in
theorem circNew_any (w : World) : Calls Tryz.prog 65 #[] w fun e w' => ∃ g, e = .returned (.pointer (some ⟨g, 0, none⟩)) ∧ CircAt w' g ∧ Below w.heap.size w w' := by
  have HI := Lib.hid (IFun.zeros w 168 .i32 1025)
  have hmk := zero_circ
  have hcell0 := HI.out.cell (j := 0) (by decide)
  have hfz0 := HI.out.frozen 0
  have H0 : RowKit.Hid (IFun ((w.alloc (.cells (madeCells #[.int .i32 0] 1025) 168)).setCell ⟨w.heap.size, 0, none⟩ (.int .i32 16777216)) w.heap.size 168 .i32 1025 (lev 10)) := by
    refine IFun.ext (HI.out.set (j := 0) (by decide) 16777216) fun j hj => ?_
    unfold lev
    by_cases h0 : j = 0
    · subst h0; rw [if_pos rfl, if_pos (by decide), cosN_first]
    · rw [if_neg h0]
      by_cases h1 : j = 1024
      · subst h1; rw [if_pos (by decide), cosN_last]
      · rw [if_neg]
        show ¬ j % 1024 = 0
        omega
  have HB := Lib.hid ((Below.alloc_new w (.cells (madeCells #[.int .i32 0] 1025) 168)).setCell (p := ⟨w.heap.size, 0, none⟩) (Nat.le_refl _) (.int .i32 16777216))
  go_enter Tryz.func65, Tryz.ntmps65
  go_wp2
  clear hmk hcell0 hfz0 HI
  go_loopw [2] (fun h wr => ∃ k H : Nat, k ≤ 10 ∧ h = .int .i64 H ∧ 1 ≤ H ∧ H ≤ 1024 ∧ RowKit.Hid (H = 2 ^ k) ∧ RowKit.Hid (IFun wr w.heap.size 168 .i32 1025 (lev k) ∧ Below w.heap.size w wr))
    (fun h _ => (intOf h).toNat)
  case atStart => exact ⟨10, 1024, by omega, rfl, by omega, by omega, rfl, by have := H0.out; rw [World.setCell_alloc_at _ _ _ _ _ rfl] at this; exact this, by have := HB.out; rw [World.setCell_alloc_at _ _ _ _ _ rfl] at this; exact this⟩
  case round =>
    obtain ⟨k, H, hk, rfl, hH1, hH2, HH, HI⟩ := hrel
    clear H0 HB
    cases k with
    | zero =>
      obtain rfl : H = 1 := HH.out
      have Z : RowKit.Hid (IFun wr w.heap.size 168 .i32 1025 cosN) := by
        refine IFun.ext HI.out.1 fun j _ => ?_
        unfold lev
        rw [if_pos (by simp [Nat.mod_one])]
      have HB := Lib.hid HI.out.2
      clear HI
      go_wp2
      go_ret
      exact ⟨_, rfl, Z.out, HB.out⟩
    | succ k =>
      have hk9 : k < 10 := by omega
      obtain ⟨m, hm⟩ : ∃ m, m = 2 ^ k := ⟨_, rfl⟩
      have hHm : H = 2 * m := by rw [HH.out, hm, Nat.pow_succ]; omega
      have hm1 : 1 ≤ m := by have := Nat.two_pow_pos k; omega
      have hq1 : (H : Int) / 2 = (m : Int) := by omega
      have hq2 : (H : Int).tdiv 2 = (m : Int) := by rw [Int.tdiv_eq_ediv_of_nonneg (by omega)]; exact hq1
      have hm2 : m < H := by omega
      have HM := Lib.hid hm
      clear hHm hm
      have hH3 : (1 : Int) < (H : Int) := by omega
      go_wp2_with (go_at_call 100; go_loud (refine (circHalve_any w.heap.size w.heap.size k H _ (Nat.le_refl _) hk9 HH.out HI.out.1).mono ?_); rintro e w5 ⟨rfl, hf, hb⟩; have HF := Lib.hid hf; have HB := Lib.hid (HI.out.2.trans hb); clear hf hb)
      go_roundw
      case rel => exact ⟨k, m, by omega, by go_num, by omega, by omega, HM.out, HF.out, HB.out⟩
      case measure => simp [intOf] <;> omega

theorem circCos_any (g : Nat) (i : Int) (w : World) (hg : CircAt w g) (hi : -9223372036854775808 ≤ i) (hi' : i ≤ 9223372036854775807) :
    Calls Tryz.prog 144 #[.pointer (some ⟨g, 0, none⟩), .int .i64 i] w fun e w' => e = .returned (.int .i32 (cosP i)) ∧ Below w.heap.size w w' := by
  have HG := Lib.hid hg; clear hg
  rw [cosP_q]
  obtain ⟨P, n, h, hP, hn, hc⟩ := circle_in i
  have hcell := HG.out.cell (j := n) (by omega)
  obtain ⟨x0, x1⟩ := cosN_bd (i := n) (by omega)
  have hand : bits .and .i64 i 4095 = (P : Int) := by rw [i64_and4095]; exact h
  clear h
  rcases hc with ⟨a1, a2, e⟩ | ⟨a1, a2, a3, e⟩ | ⟨a1, a2, a3, e⟩ | ⟨a1, a2, e⟩
  all_goals
    rw [e]
    clear e
    generalize cosN n = x at hcell x0 x1 ⊢
    try subst a2
    go_enter Tryz.func144, Tryz.ntmps144
    go_wp2
    all_goals (go_ret; exact ⟨rfl, Below.refl _ _⟩)
theorem circCos_nil (i : Int) (w : World) (hi : -9223372036854775808 ≤ i) (hi' : i ≤ 9223372036854775807) :
    Calls Tryz.prog 144 #[.pointer none, .int .i64 i] w fun e w' => e = .returned (.int .i32 0) ∧ Below w.heap.size w w' := by
  go_enter Tryz.func144, Tryz.ntmps144
  go_wp2
  go_ret
  exact ⟨rfl, Below.refl _ _⟩
theorem circRise_any (g : Nat) (i : Int) (w : World) (hg : CircAt w g) (hi : -9223372036854775808 ≤ i) (hi' : i ≤ 9223372036854775807) :
    Calls Tryz.prog 131 #[.pointer (some ⟨g, 0, none⟩), .int .i64 i] w fun e w' => e = .returned (.int .i32 (riseP i)) ∧ Below w.heap.size w w' := by
  have HG := Lib.hid hg; clear hg
  by_cases h0 : i < 0
  · rw [riseP_neg h0]
    go_enter Tryz.func131, Tryz.ntmps131
    go_wp2
    go_ret
    exact ⟨rfl, Below.refl _ _⟩
  · by_cases h1 : 128 ≤ i
    · rw [riseP_big h1]
      go_enter Tryz.func131, Tryz.ntmps131
      go_wp2
      go_ret
      exact ⟨rfl, Below.refl _ _⟩
    · rw [riseP_in (by omega) (by omega)]
      go_enter Tryz.func131, Tryz.ntmps131
      go_wp2_with (go_at_call 144; refine (circCos_any g _ _ HG.out (by omega) (by omega)).mono ?_; rintro e w' ⟨rfl, hb⟩)
      go_ret
      exact ⟨rfl, hb⟩
theorem circRise_nil (i : Int) (w : World) (hi : -9223372036854775808 ≤ i) (hi' : i ≤ 9223372036854775807) :
    Calls Tryz.prog 131 #[.pointer none, .int .i64 i] w fun e w' => e = .returned (.int .i32 0) ∧ Below w.heap.size w w' := by
  go_enter Tryz.func131, Tryz.ntmps131
  go_wp2
  go_ret
  exact ⟨rfl, Below.refl _ _⟩

/-! ### Bands -/
theorem bandsEdges_any (w : World) : Calls Tryz.prog 69 #[] w fun e w' => ∃ a c, e = .returned (.slice a 22 c) ∧ IntsAt w' w'.heap.size .i64 a 22 edgesL ∧ Below w.heap.size w w' := by
  go_enter Tryz.func69, Tryz.ntmps69
  go_wp2
  go_ret
  exact ⟨_, _, rfl, lit_ints w 3 .i64 edgesL _ (0, 0) rfl (by decide), Below.alloc_new w _⟩
theorem edge_all : (List.range 22).all (fun k => (List.range (k + 1)).all fun j => decide (edgeN j ≤ edgeN k)) = true := by decide +kernel
theorem edge_mono {j k : Nat} (h : j ≤ k) (hk : k < 22) : edgeN j ≤ edgeN k := by
  have := List.all_eq_true.1 (List.all_eq_true.1 edge_all k (List.mem_range.2 hk)) j (List.mem_range.2 (by omega))
  simpa using this
end Go.Proofs.YtkhhhejmbgloeaaGreat

/- Cosines' products as sums, out of the circle's table: each pair of odd units of a quarter, and each pair of four times odd ones. Nothing here speaks of the program. -/
namespace Go.Proofs.YtkhhhejmbgloeaaGreat
open Go
set_option linter.unusedVariables false
set_option maxRecDepth 100000

/-- The cosines of 1, 3, 5, .. units. -/
def odd1 : List Nat := [
  16777195, 16777038, 16776723, 16776249, 16775618, 16774829, 16773882, 16772776, 16771512, 16770092, 16768513, 16766776, 16764882, 16762830, 16760619,
  16758251, 16755725, 16753043, 16750202, 16747203, 16744047, 16740733, 16737262, 16733632, 16729846, 16725902, 16721801, 16717542, 16713126, 16708553,
  16703822, 16698933, 16693888, 16688686, 16683327, 16677811, 16672138, 16666308, 16660321, 16654177, 16647876, 16641420, 16634806, 16628035, 16621108,
  16614024, 16606784, 16599387, 16591834, 16584126, 16576262, 16568241, 16560064, 16551732, 16543244, 16534599, 16525800, 16516845, 16507734, 16498467,
  16489046, 16479469, 16469737, 16459850, 16449808, 16439613, 16429262, 16418756, 16408096, 16397282, 16386313, 16375188, 16363911, 16352480, 16340894,
  16329155, 16317262, 16305215, 16293015, 16280661, 16268155, 16255496, 16242683, 16229717, 16216599, 16203328, 16189905, 16176328, 16162600, 16148720,
  16134687, 16120503, 16106167, 16091679, 16077040, 16062249, 16047308, 16032216, 16016973, 16001579, 15986034, 15970339, 15954494, 15938497, 15922351,
  15906056, 15889611, 15873015, 15856271, 15839378, 15822335, 15805143, 15787802, 15770314, 15752677, 15734891, 15716957, 15698876, 15680646, 15662269,
  15643745, 15625074, 15606255, 15587288, 15568175, 15548917, 15529511, 15509959, 15490261, 15470419, 15450431, 15430296, 15410017, 15389593, 15369024,
  15348309, 15327451, 15306449, 15285302, 15264011, 15242577, 15220999, 15199278, 15177412, 15155405, 15133256, 15110965, 15088530, 15065954, 15043236,
  15020377, 14997375, 14974232, 14950949, 14927525, 14903960, 14880255, 14856410, 14832426, 14808301, 14784037, 14759634, 14735093, 14710413, 14685594,
  14660637, 14635542, 14610309, 14584938, 14559431, 14533787, 14508005, 14482087, 14456033, 14429842, 14403515, 14377053, 14350456, 14323724, 14296857,
  14269856, 14242720, 14215450, 14188046, 14160508, 14132838, 14105035, 14077098, 14049029, 14020828, 13992494, 13964028, 13935432, 13906706, 13877848,
  13848859, 13819740, 13790491, 13761112, 13731603, 13701965, 13672199, 13642303, 13612279, 13582127, 13551847, 13521439, 13490904, 13460242, 13429454,
  13398539, 13367498, 13336332, 13305040, 13273623, 13242080, 13210413, 13178621, 13146706, 13114666, 13082504, 13050218, 13017809, 12985277, 12952624,
  12919849, 12886953, 12853934, 12820795, 12787536, 12754155, 12720654, 12687034, 12653295, 12619437, 12585460, 12551364, 12517150, 12482818, 12448368,
  12413802, 12379119, 12344320, 12309404, 12274372, 12239225, 12203962, 12168584, 12133092, 12097487, 12061767, 12025933, 11989986, 11953926, 11917754,
  11881469, 11845072, 11808565, 11771947, 11735218, 11698378, 11661428, 11624369, 11587199, 11549920, 11512534, 11475039, 11437435, 11399724, 11361906,
  11323981, 11285948, 11247810, 11209567, 11171217, 11132763, 11094203, 11055540, 11016772, 10977900, 10938925, 10899848, 10860667, 10821384, 10781999,
  10742513, 10702925, 10663237, 10623449, 10583561, 10543574, 10503486, 10463300, 10423016, 10382633, 10342153, 10301575, 10260901, 10220129, 10179262,
  10138299, 10097240, 10056086, 10014838, 9973495, 9932059, 9890529, 9848906, 9807191, 9765383, 9723483, 9681491, 9639409, 9597236, 9554971, 9512617,
  9470174, 9427642, 9385021, 9342311, 9299514, 9256629, 9213657, 9170598, 9127454, 9084223, 9040907, 8997506, 8954020, 8910450, 8866795, 8823057,
  8779236, 8735333, 8691347, 8647279, 8603130, 8558901, 8514591, 8470200, 8425730, 8381180, 8336552, 8291845, 8247060, 8202198, 8157258, 8112241,
  8067148, 8021980, 7976735, 7931415, 7886020, 7840552, 7795011, 7749395, 7703707, 7657946, 7612113, 7566208, 7520232, 7474185, 7428068, 7381881,
  7335625, 7289299, 7242905, 7196443, 7149912, 7103315, 7056651, 7009921, 6963124, 6916262, 6869335, 6822343, 6775287, 6728167, 6680984, 6633738,
  6586430, 6539059, 6491627, 6444133, 6396580, 6348966, 6301292, 6253559, 6205767, 6157917, 6110009, 6062043, 6014021, 5965941, 5917806, 5869614,
  5821368, 5773067, 5724711, 5676301, 5627838, 5579322, 5530754, 5482133, 5433461, 5384738, 5335964, 5287140, 5238266, 5189342, 5140370, 5091350,
  5042281, 4993165, 4944002, 4894793, 4845537, 4796237, 4746891, 4697500, 4648064, 4598585, 4549063, 4499498, 4449891, 4400242, 4350551, 4300819,
  4251047, 4201235, 4151384, 4101493, 4051563, 4001596, 3951591, 3901548, 3851469, 3801354, 3751203, 3701017, 3650796, 3600540, 3550250, 3499927,
  3449571, 3399183, 3348763, 3298311, 3247828, 3197315, 3146771, 3096198, 3045596, 2994965, 2944306, 2893619, 2842905, 2792164, 2741397, 2690604,
  2639786, 2588943, 2538075, 2487184, 2436269, 2385331, 2334371, 2283389, 2232386, 2181361, 2130316, 2079251, 2028167, 1977062, 1925940, 1874799,
  1823641, 1772466, 1721274, 1670066, 1618842, 1567602, 1516348, 1465080, 1413798, 1362503, 1311195, 1259874, 1208542, 1157198, 1105843, 1054478,
  1003103, 951719, 900325, 848923, 797513, 746096, 694672, 643241, 591804, 540361, 488914, 437462, 386005, 334545, 283082, 231617, 180149, 128679,
  77208, 25736]
/-- The cosines of 0, 2, 4, .. units, of half a circle, each greater by 2 to the 24. -/
def even1 : List Nat := [
  33554432, 33554352, 33554115, 33553721, 33553168, 33552459, 33551590, 33550564, 33549378, 33548037, 33546537, 33544880, 33543063, 33541091, 33538959,
  33536670, 33534222, 33531619, 33528857, 33525938, 33522859, 33519625, 33516232, 33512682, 33508973, 33505109, 33501086, 33496907, 33492568, 33488075,
  33483422, 33478613, 33473644, 33468522, 33463241, 33457804, 33452208, 33446458, 33440549, 33434484, 33428260, 33421883, 33415347, 33408655, 33401805,
  33394801, 33387638, 33380320, 33372844, 33365215, 33357428, 33349486, 33341386, 33333133, 33324722, 33316156, 33307433, 33298557, 33289523, 33280335,
  33270990, 33261492, 33251837, 33242028, 33232062, 33221945, 33211671, 33201243, 33190659, 33179923, 33169031, 33157985, 33146783, 33135430, 33123921,
  33112259, 33100442, 33088473, 33076349, 33064073, 33051641, 33039060, 33026323, 33013434, 33000391, 32987198, 32973850, 32960351, 32946697, 32932894,
  32918937, 32904829, 32890568, 32876157, 32861593, 32846879, 32832011, 32816996, 32801828, 32786510, 32771039, 32755421, 32739650, 32723730, 32707657,
  32691438, 32675067, 32658547, 32641876, 32625059, 32608090, 32590973, 32573705, 32556292, 32538729, 32521018, 32503157, 32485150, 32466994, 32448691,
  32430239, 32411643, 32392897, 32374005, 32354964, 32335780, 32316447, 32296969, 32277342, 32257574, 32237658, 32217597, 32197389, 32177038, 32156541,
  32135900, 32115112, 32094183, 32073108, 32051890, 32030526, 32009021, 31987371, 31965578, 31943641, 31921564, 31899343, 31876981, 31854474, 31831828,
  31809039, 31786109, 31763035, 31739823, 31716469, 31692975, 31669339, 31645565, 31621650, 31597596, 31573400, 31549068, 31524596, 31499986, 31475235,
  31450348, 31425322, 31400158, 31374855, 31349417, 31323841, 31298128, 31272277, 31246292, 31220169, 31193911, 31167515, 31140987, 31114322, 31087523,
  31060588, 31033520, 31006317, 30978980, 30951508, 30923905, 30896168, 30868298, 30840294, 30812160, 30783892, 30755493, 30726961, 30698301, 30669508,
  30640585, 30611530, 30582347, 30553032, 30523589, 30494014, 30464313, 30434482, 30404522, 30374433, 30344218, 30313874, 30283403, 30252803, 30222079,
  30191227, 30160250, 30129145, 30097917, 30066562, 30035082, 30003476, 29971748, 29939894, 29907917, 29875815, 29843592, 29811244, 29778774, 29746180,
  29713467, 29680631, 29647674, 29614594, 29581396, 29548075, 29514635, 29481074, 29447395, 29413596, 29379679, 29345641, 29311487, 29277214, 29242823,
  29208314, 29173691, 29138949, 29104092, 29069117, 29034028, 28998823, 28963503, 28928067, 28892519, 28856856, 28821079, 28785188, 28749186, 28713069,
  28676841, 28640499, 28604048, 28567485, 28530812, 28494026, 28457132, 28420127, 28383013, 28345788, 28308456, 28271015, 28233466, 28195808, 28158044,
  28120172, 28082193, 28044107, 28005917, 27967620, 27929219, 27890711, 27852100, 27813384, 27774564, 27735640, 27696615, 27657485, 27618254, 27578919,
  27539484, 27499947, 27460309, 27420570, 27380733, 27340795, 27300758, 27260620, 27220386, 27180052, 27139621, 27099091, 27058466, 27017742, 26976923,
  26936007, 26894997, 26853890, 26812689, 26771393, 26730004, 26688521, 26646945, 26605275, 26563514, 26521660, 26479714, 26437676, 26395549, 26353330,
  26311021, 26268622, 26226135, 26183558, 26140893, 26098138, 26055298, 26012369, 25969354, 25926252, 25883065, 25839791, 25796433, 25752988, 25709461,
  25665848, 25622152, 25578372, 25534511, 25490566, 25446539, 25402430, 25358241, 25313971, 25269621, 25225190, 25180681, 25136091, 25091424, 25046677,
  25001854, 24956953, 24911975, 24866919, 24821789, 24776582, 24731300, 24685942, 24640511, 24595006, 24549428, 24503775, 24458051, 24412254, 24366385,
  24320444, 24274433, 24228351, 24182199, 24135977, 24089686, 24043326, 23996898, 23950401, 23903838, 23857207, 23810510, 23763746, 23716917, 23670022,
  23623063, 23576038, 23528951, 23481799, 23434585, 23387307, 23339968, 23292566, 23245103, 23197579, 23149996, 23102352, 23054649, 23006886, 22959065,
  22911186, 22863249, 22815254, 22767204, 22719096, 22670933, 22622713, 22574440, 22526111, 22477728, 22429291, 22380802, 22332260, 22283666, 22235019,
  22186322, 22137573, 22088774, 22039924, 21991026, 21942078, 21893082, 21844037, 21794945, 21745805, 21696619, 21647386, 21598108, 21548785, 21499417,
  21450003, 21400546, 21351045, 21301502, 21251915, 21202287, 21152617, 21102906, 21053154, 21003362, 20953530, 20903659, 20853748, 20803800, 20753814,
  20703790, 20653729, 20603632, 20553499, 20503330, 20453126, 20402888, 20352615, 20302309, 20251969, 20201597, 20151193, 20100757, 20050289, 19999791,
  19949262, 19898704, 19848116, 19797500, 19746855, 19696182, 19645481, 19594754, 19544000, 19493220, 19442414, 19391583, 19340728, 19289848, 19238945,
  19188019, 19137070, 19086099, 19035106, 18984092, 18933057, 18882002, 18830927, 18779833, 18728719, 18677588, 18626438, 18575272, 18524088, 18472888,
  18421671, 18370440, 18319193, 18267932, 18216656, 18165368, 18114066, 18062752, 18011425, 17960087, 17908738, 17857378, 17806008, 17754628, 17703239,
  17651841, 17600435, 17549022, 17497601, 17446173, 17394739, 17343299, 17291854, 17240404, 17188950, 17137492, 17086030, 17034566, 16983099, 16931630,
  16880159, 16828688, 16777216, 16725744, 16674273, 16622802, 16571333, 16519866, 16468402, 16416940, 16365482, 16314028, 16262578, 16211133, 16159693,
  16108259, 16056831, 16005410, 15953997, 15902591, 15851193, 15799804, 15748424, 15697054, 15645694, 15594345, 15543007, 15491680, 15440366, 15389064,
  15337776, 15286500, 15235239, 15183992, 15132761, 15081544, 15030344, 14979160, 14927994, 14876844, 14825713, 14774599, 14723505, 14672430, 14621375,
  14570340, 14519326, 14468333, 14417362, 14366413, 14315487, 14264584, 14213704, 14162849, 14112018, 14061212, 14010432, 13959678, 13908951, 13858250,
  13807577, 13756932, 13706316, 13655728, 13605170, 13554641, 13504143, 13453675, 13403239, 13352835, 13302463, 13252123, 13201817, 13151544, 13101306,
  13051102, 13000933, 12950800, 12900703, 12850642, 12800618, 12750632, 12700684, 12650773, 12600902, 12551070, 12501278, 12451526, 12401815, 12352145,
  12302517, 12252930, 12203387, 12153886, 12104429, 12055015, 12005647, 11956324, 11907046, 11857813, 11808627, 11759487, 11710395, 11661350, 11612354,
  11563406, 11514508, 11465658, 11416859, 11368110, 11319413, 11270766, 11222172, 11173630, 11125141, 11076704, 11028321, 10979992, 10931719, 10883499,
  10835336, 10787228, 10739178, 10691183, 10643246, 10595367, 10547546, 10499783, 10452080, 10404436, 10356853, 10309329, 10261866, 10214464, 10167125,
  10119847, 10072633, 10025481, 9978394, 9931369, 9884410, 9837515, 9790686, 9743922, 9697225, 9650594, 9604031, 9557534, 9511106, 9464746, 9418455,
  9372233, 9326081, 9279999, 9233988, 9188047, 9142178, 9096381, 9050657, 9005004, 8959426, 8913921, 8868490, 8823132, 8777850, 8732643, 8687513,
  8642457, 8597479, 8552578, 8507755, 8463008, 8418341, 8373751, 8329242, 8284811, 8240461, 8196191, 8152002, 8107893, 8063866, 8019921, 7976060,
  7932280, 7888584, 7844971, 7801444, 7757999, 7714641, 7671367, 7628180, 7585078, 7542063, 7499134, 7456294, 7413539, 7370874, 7328297, 7285810,
  7243411, 7201102, 7158883, 7116756, 7074718, 7032772, 6990918, 6949157, 6907487, 6865911, 6824428, 6783039, 6741743, 6700542, 6659435, 6618425,
  6577509, 6536690, 6495966, 6455341, 6414811, 6374380, 6334046, 6293812, 6253674, 6213637, 6173699, 6133862, 6094123, 6054485, 6014948, 5975513,
  5936178, 5896947, 5857817, 5818792, 5779868, 5741048, 5702332, 5663721, 5625213, 5586812, 5548515, 5510325, 5472239, 5434260, 5396388, 5358624,
  5320966, 5283417, 5245976, 5208644, 5171419, 5134305, 5097300, 5060406, 5023620, 4986947, 4950384, 4913933, 4877591, 4841363, 4805246, 4769244,
  4733353, 4697576, 4661913, 4626365, 4590929, 4555609, 4520404, 4485315, 4450340, 4415483, 4380741, 4346118, 4311609, 4277218, 4242945, 4208791,
  4174753, 4140836, 4107037, 4073358, 4039797, 4006357, 3973036, 3939838, 3906758, 3873801, 3840965, 3808252, 3775658, 3743188, 3710840, 3678617,
  3646515, 3614538, 3582684, 3550956, 3519350, 3487870, 3456515, 3425287, 3394182, 3363205, 3332353, 3301629, 3271029, 3240558, 3210214, 3179999,
  3149910, 3119950, 3090119, 3060418, 3030843, 3001400, 2972085, 2942902, 2913847, 2884924, 2856131, 2827471, 2798939, 2770540, 2742272, 2714138,
  2686134, 2658264, 2630527, 2602924, 2575452, 2548115, 2520912, 2493844, 2466909, 2440110, 2413445, 2386917, 2360521, 2334263, 2308140, 2282155,
  2256304, 2230591, 2205015, 2179577, 2154274, 2129110, 2104084, 2079197, 2054446, 2029836, 2005364, 1981032, 1956836, 1932782, 1908867, 1885093,
  1861457, 1837963, 1814609, 1791397, 1768323, 1745393, 1722604, 1699958, 1677451, 1655089, 1632868, 1610791, 1588854, 1567061, 1545411, 1523906,
  1502542, 1481324, 1460249, 1439320, 1418532, 1397891, 1377394, 1357043, 1336835, 1316774, 1296858, 1277090, 1257463, 1237985, 1218652, 1199468,
  1180427, 1161535, 1142789, 1124193, 1105741, 1087438, 1069282, 1051275, 1033414, 1015703, 998140, 980727, 963459, 946342, 929373, 912556, 895885,
  879365, 862994, 846775, 830702, 814782, 799011, 783393, 767922, 752604, 737436, 722421, 707553, 692839, 678275, 663864, 649603, 635495, 621538,
  607735, 594081, 580582, 567234, 554041, 540998, 528109, 515372, 502791, 490359, 478083, 465959, 453990, 442173, 430511, 419002, 407649, 396447,
  385401, 374509, 363773, 353189, 342761, 332487, 322370, 312404, 302595, 292940, 283442, 274097, 264909, 255875, 246999, 238276, 229710, 221299,
  213046, 204946, 197004, 189217, 181588, 174112, 166794, 159631, 152627, 145777, 139085, 132549, 126172, 119948, 113883, 107974, 102224, 96628, 91191,
  85910, 80788, 75819, 71010, 66357, 61864, 57525, 53346, 49323, 45459, 41750, 38200, 34807, 31573, 28494, 25575, 22813, 20210, 17762, 15473, 13341,
  11369, 9552, 7895, 6395, 5054, 3868, 2842, 1973, 1264, 711, 317, 80, 0]
/-- The cosines of 4, 12, 20, .. units. -/
def odd4 : List Nat := [
  16776899, 16774374, 16769321, 16761743, 16751641, 16739016, 16723870, 16706206, 16686025, 16663333, 16638131, 16610422, 16580212, 16547506, 16512307,
  16474621, 16434455, 16391815, 16346705, 16299133, 16249107, 16196634, 16141721, 16084377, 16024612, 15962434, 15897851, 15830874, 15761513, 15689778,
  15615681, 15539231, 15460442, 15379325, 15295892, 15210155, 15122127, 15031823, 14939253, 14844434, 14747380, 14648106, 14546625, 14442953, 14337106,
  14229101, 14118952, 14006676, 13892292, 13775816, 13657266, 13536658, 13414011, 13289346, 13162678, 13034028, 12903415, 12770859, 12636380, 12499998,
  12361733, 12221607, 12079640, 11935853, 11790269, 11642911, 11493799, 11342956, 11190404, 11036168, 10880269, 10722731, 10563579, 10402836, 10240526,
  10076674, 9911305, 9744444, 9576114, 9406342, 9235153, 9062575, 8888632, 8713350, 8536755, 8358875, 8179737, 7999366, 7817790, 7635038, 7451135,
  7266110, 7079991, 6892806, 6704583, 6515350, 6325136, 6133970, 5941880, 5748895, 5555044, 5360357, 5164862, 4968589, 4771569, 4573829, 4375401,
  4176314, 3976598, 3776283, 3575399, 3373977, 3172046, 2969639, 2766784, 2563512, 2359854, 2155841, 1951503, 1746872, 1541977, 1336850, 1131522,
  926023, 720385, 514638, 308814, 102943]
/-- The cosines of 0, 8, 16, .. units, of half a circle, each greater by 2 to the 24. -/
def even4 : List Nat := [
  33554432, 33553168, 33549378, 33543063, 33534222, 33522859, 33508973, 33492568, 33473644, 33452208, 33428260, 33401805, 33372844, 33341386, 33307433,
  33270990, 33232062, 33190659, 33146783, 33100442, 33051641, 33000391, 32946697, 32890568, 32832011, 32771039, 32707657, 32641876, 32573705, 32503157,
  32430239, 32354964, 32277342, 32197389, 32115112, 32030526, 31943641, 31854474, 31763035, 31669339, 31573400, 31475235, 31374855, 31272277, 31167515,
  31060588, 30951508, 30840294, 30726961, 30611530, 30494014, 30374433, 30252803, 30129145, 30003476, 29875815, 29746180, 29614594, 29481074, 29345641,
  29208314, 29069117, 28928067, 28785188, 28640499, 28494026, 28345788, 28195808, 28044107, 27890711, 27735640, 27578919, 27420570, 27260620, 27099091,
  26936007, 26771393, 26605275, 26437676, 26268622, 26098138, 25926252, 25752988, 25578372, 25402430, 25225190, 25046677, 24866919, 24685942, 24503775,
  24320444, 24135977, 23950401, 23763746, 23576038, 23387307, 23197579, 23006886, 22815254, 22622713, 22429291, 22235019, 22039924, 21844037, 21647386,
  21450003, 21251915, 21053154, 20853748, 20653729, 20453126, 20251969, 20050289, 19848116, 19645481, 19442414, 19238945, 19035106, 18830927, 18626438,
  18421671, 18216656, 18011425, 17806008, 17600435, 17394739, 17188950, 16983099, 16777216, 16571333, 16365482, 16159693, 15953997, 15748424, 15543007,
  15337776, 15132761, 14927994, 14723505, 14519326, 14315487, 14112018, 13908951, 13706316, 13504143, 13302463, 13101306, 12900703, 12700684, 12501278,
  12302517, 12104429, 11907046, 11710395, 11514508, 11319413, 11125141, 10931719, 10739178, 10547546, 10356853, 10167125, 9978394, 9790686, 9604031,
  9418455, 9233988, 9050657, 8868490, 8687513, 8507755, 8329242, 8152002, 7976060, 7801444, 7628180, 7456294, 7285810, 7116756, 6949157, 6783039,
  6618425, 6455341, 6293812, 6133862, 5975513, 5818792, 5663721, 5510325, 5358624, 5208644, 5060406, 4913933, 4769244, 4626365, 4485315, 4346118,
  4208791, 4073358, 3939838, 3808252, 3678617, 3550956, 3425287, 3301629, 3179999, 3060418, 2942902, 2827471, 2714138, 2602924, 2493844, 2386917,
  2282155, 2179577, 2079197, 1981032, 1885093, 1791397, 1699958, 1610791, 1523906, 1439320, 1357043, 1277090, 1199468, 1124193, 1051275, 980727,
  912556, 846775, 783393, 722421, 663864, 607735, 554041, 502791, 453990, 407649, 363773, 322370, 283442, 246999, 213046, 181588, 152627, 126172,
  102224, 80788, 61864, 45459, 31573, 20210, 11369, 5054, 1264, 0]
/-- One product: by the cosine of the difference, and of the sum. -/
noncomputable def pairT (c d x y b a m p : Nat) : Bool := @Bool.rec (fun _ => Bool) false (Nat.ble (c * (p + m)) (2 * b * a + y)) (Nat.ble (2 * b * a + x) (c * (p + m) + d))
/-- One cosine's products with a row's: by lists of the second cosines, of the differences and of the sums. -/
noncomputable def pairsOK (T : Nat → Nat → Nat → Nat → Bool) (b : Nat) (l : List Nat) : List Nat → List Nat → Bool :=
  @List.rec Nat (fun _ => List Nat → List Nat → Bool) (fun _ _ => true)
    (fun a _ ih ms ps => @List.rec Nat (fun _ => Bool) false (fun m mt _ => @List.rec Nat (fun _ => Bool) false (fun p pt _ =>
      @Bool.rec (fun _ => Bool) false (ih mt pt) (T b a m p)) ps) ms) l
/-- .. of each cosine with itself and those behind it. -/
noncomputable def pairsAll (T : Nat → Nat → Nat → Nat → Bool) (L : List Nat) (l : List Nat) : List Nat → Bool :=
  @List.rec Nat (fun _ => List Nat → Bool) (fun _ => true)
    (fun b az ih ps => @List.rec Nat (fun _ => Bool) false (fun _ qs _ => @List.rec Nat (fun _ => Bool) false (fun _ rs _ =>
      @Bool.rec (fun _ => Bool) false (ih rs) (pairsOK T b (List.cons b az) L qs)) qs) ps) l
theorem pairs_4 : pairsAll (pairT 16777216 300000000 562949953421312 562950253421312) even4 odd4 even4 = true := by decide +kernel
theorem pairs_1 : pairsAll (pairT 16777216 300000000 562949953421312 562950253421312) even1 odd1 even1 = true := by decide +kernel
end Go.Proofs.YtkhhhejmbgloeaaGreat
