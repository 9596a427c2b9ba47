/- What the functions of package bands give, for whatever arguments. -/
import Derived.Test.YtgebnaeebdeoeaaBandS
import Derived.Test.YtgebnaeebdeoeaaAriW
import Derived.StillTailTactics
namespace Go.Proofs.Ytgebnaeebdeoeaa
open Go.RowKit
set_option linter.unusedVariables false

/-- Block g is a circle's table. -/
def CircAt (w : World) (g : Nat) : Prop := IFun w g 75 .i32 1025 cosN
theorem CircAt.keep {w w' : World} {g : Nat} (h : CircAt w g) (hk : w'.heap[g]? = w.heap[g]?) : CircAt w' g := hk.trans h
theorem CircAt.lt {w : World} {g : Nat} (h : CircAt w g) : g < w.heap.size := IFun.lt h

theorem ints_some {w : World} {B len : Nat} {k : IntKind} {a : Option Addr} {zs : List Int} (h : IntsAt w B k a len zs) (h0 : 0 < len) : ∃ b off, a = some ⟨b, off, none⟩ := by
  obtain ⟨b, off, e, _⟩ := h.2.resolve_left (by omega)
  exact ⟨b, off, e⟩
theorem ints_cell {w : World} {B len b off : Nat} {k : IntKind} {zs : List Int} (h : IntsAt w B k (some ⟨b, off, none⟩) len zs) {j : Nat} (hj : j < len) : w.cell? ⟨b, off + j, none⟩ = some (.int k (zs.getD j 0)) := by
  obtain ⟨b', off', e, _, _, hc⟩ := h.at_ hj
  obtain ⟨rfl, rfl⟩ : b = b' ∧ off = off' := by injection e with e; injection e with e1 e2; exact ⟨e1, e2⟩
  exact hc

/-! ### Dividing to the nearest -/
theorem i64_and4095 (n : Int) : bits .and .i64 n 4095 = n % 4096 := by
  have h1 : (BitVec.ofInt 64 4095).toNat = 2 ^ 12 - 1 := by decide
  have key : (BitVec.ofInt 64 n &&& BitVec.ofInt 64 4095).toNat = (n % ((2 ^ 64 : Nat) : Int)).toNat % 2 ^ 12 := by
    rw [BitVec.toNat_and, BitVec.toNat_ofInt, h1, Nat.and_two_pow_sub_one_eq_mod]
  show IntKind.i64.wrap ((BitVec.ofInt 64 n &&& BitVec.ofInt 64 4095).toNat : Nat) = n % 4096
  rw [key, IntKind.wrap_i64]
  omega
theorem near_eq {n z : Int} (hn : 0 ≤ n) (hz : 0 < z) : (n + z / 2) / z = if 2 * (n % z) ≥ z then n / z + 1 else n / z := by
  have h := Int.emod_add_mul_ediv n z
  have t0 := Int.emod_nonneg n (b := z) (by omega)
  have t1 := Int.emod_lt_of_pos n hz
  have e : n + z / 2 = (n % z + z / 2) + z * (n / z) := by omega
  rw [e, Int.add_mul_ediv_left _ _ (by omega)]
  split
  · rename_i c
    have : (n % z + z / 2) / z = 1 := by
      rw [show n % z + z / 2 = (n % z + z / 2 - z) + z * 1 by omega, Int.add_mul_ediv_left _ _ (by omega), Int.ediv_eq_zero_of_lt (by omega) (by omega)]
      rfl
    omega
  · have : (n % z + z / 2) / z = 0 := Int.ediv_eq_zero_of_lt (by omega) (by omega)
    omega
theorem nearest_any (n z v : Int) (w : World) (hn : 0 ≤ n) (hn' : n ≤ 562949953421312) (hz : 0 < z) (hz' : z ≤ 16777216) (hv : v = if 2 * (n % z) ≥ z then n / z + 1 else n / z) :
    Calls Try.prog 55 #[.int .i64 n, .int .i64 z] w fun e w' => e = .returned (.int .i64 v) ∧ w = w' := by
  have E : RowKit.Hid ((n + z / 2) / z = v) := by show _ = _; rw [hv]; exact near_eq hn hz
  clear hv
  go_enter Try.func55, Try.ntmps55
  go_wp2
  go_ret
  exact ⟨ret_int E.out, rfl⟩

/-! ### Making the table -/
set_option maxHeartbeats 300000 in
set_option maxRecDepth 100000 in
theorem circHalve_any (B g k H : Nat) (w : World) (hB : B ≤ g) (hk9 : k < 10) (hH : H = 2 ^ (k + 1)) (hg : IFun w g 75 .i32 1025 (lev (k + 1))) :
    Calls Try.prog 44 #[.pointer (some ⟨g, 0, none⟩), .int .i64 H] w fun e w' => e = .returned (.tuple #[]) ∧ IFun w' g 75 .i32 1025 (lev k) ∧ Below B w w' := by
  have HI := Lib.hid hg
  have HH := Lib.hid hH
  obtain ⟨m, hm⟩ : ∃ m, m = 2 ^ k := ⟨_, rfl⟩
  have hHm : H = 2 * m := by rw [hH, hm, Nat.pow_succ]; omega
  have hp : 1 ≤ 2 ^ k := Nat.two_pow_pos k
  have hp2 : 2 ^ k ≤ 512 := Nat.pow_le_pow_right (n := 2) (by decide) (show k ≤ 9 by omega)
  have hm1 : 1 ≤ m := by omega
  have hm2 : 2 * m ≤ H := by omega
  have hm3 : H ≤ 2 * m := by omega
  have hH2 : H ≤ 1024 := by omega
  clear hp hp2 hH
  have hq1 : (H : Int) / 2 = (m : Int) := by omega
  have hq2 : (H : Int).tdiv 2 = (m : Int) := by rw [Int.tdiv_eq_ediv_of_nonneg (by omega)]; exact hq1
  clear hHm
  have hcH := HI.out.cell (j := H) (by omega)
  have hcm := HI.out.cell (j := m) (by omega)
  have hfm := HI.out.frozen m
  have e1 : lev (k + 1) H = cosN H := by unfold lev; rw [if_pos (by rw [HH.out]; exact Nat.mod_self _)]
  rw [e1] at hcH
  clear e1
  obtain ⟨b0, b1⟩ := cosN_bd (i := H) (by omega)
  have HR : RowKit.Hid (rootP ((16777216 + cosN H) * 8388608) = cosN m) := by
    have := cos_root hk9
    rw [← HH.out, ← hm] at this
    exact (rootP_eq this).symm
  obtain ⟨d0, d1⟩ := cosN_bd (i := m) (by omega)
  have HS : RowKit.Hid (IFun (w.setCell ⟨g, m, none⟩ (.int .i32 (cosN m))) g 75 .i32 1025 (levA k H)) := by
    refine IFun.ext (HI.out.set (j := m) (by omega) (cosN m)) fun j _ => ?_
    rw [HH.out, ← levA_start, ← hm]
  have HB := Lib.hid ((Below.refl B w).setCell (p := ⟨g, m, none⟩) hB (.int .i32 (cosN m)))
  have HM := Lib.hid hm
  have c1 : 1 ≤ cosN m := by have := cosN_falls (i := m) (by omega); have := cosN_bd (i := m + 1) (by omega); omega
  clear hm HI hg d0
  generalize lev (k + 1) m = old at hcm
  go_enter Try.func44, Try.ntmps44
  go_wp2_with (go_at_call 54; refine (root_any _ _ (by omega) (by omega)).mono ?_; rintro e w' ⟨rfl, rfl⟩; rw [HR.out])
  clear hcH hcm hfm HR
  go_loopw [6, 7] (fun a _ wr => ∃ A : Nat, a = .int .i64 A ∧ H ≤ A ∧ A ≤ 1024 ∧ RowKit.Hid (A % 2 ^ (k + 1) = 0) ∧ RowKit.Hid (IFun wr g 75 .i32 1025 (levA k A) ∧ Below B w wr))
    (fun a _ _ => (1024 - intOf a).toNat)
  case atStart => exact ⟨H, rfl, by omega, by omega, by show H % 2 ^ (k + 1) = 0; rw [HH.out]; exact Nat.mod_self _, HS.out, HB.out⟩
  case round =>
    obtain ⟨A, rfl, hA0, hA1, HA, HI⟩ := hrel
    clear HS HB
    by_cases hlt : A < 1024
    · have hAH : A + H ≤ 1024 := by
        rcases Nat.lt_or_ge 1024 (A + H) with c | c
        · have := step_last hk9 HA.out hA1 (by rw [← HH.out]; exact c)
          omega
        · exact c
      have i1 := HI.out.1.cell (j := A) (by omega)
      have i2 := HI.out.1.cell (j := A + H) (by omega)
      have i4 := HI.out.1.cell (j := A + m) (by omega)
      have f4 := HI.out.1.frozen (A + m)
      have e1 : levA k A A = cosN A := levA_old HA.out
      have e2 : levA k A (A + H) = cosN (A + H) := levA_old (by rw [HH.out]; exact (step_next HA.out).1)
      rw [e1] at i1
      rw [e2] at i2
      clear e1 e2
      obtain ⟨x0, x1⟩ := cosN_bd (i := A) (by omega)
      obtain ⟨y0, y1⟩ := cosN_bd (i := A + H) (by omega)
      have HC := Lib.hid (cos_mid (k := k) (a := A) hk9 (by omega) HA.out (by omega))
      obtain ⟨v0, v1⟩ := cosN_bd (i := A + m) (by omega)
      have HV : RowKit.Hid (∀ i : Nat, IFun ((wr.drewN i).setCell ⟨g, A + m, none⟩ (.int .i32 (cosN (A + m)))) g 75 .i32 1025 (levA k (A + H)) ∧ Below B w ((wr.drewN i).setCell ⟨g, A + m, none⟩ (.int .i32 (cosN (A + m))))) := by
        intro i
        refine ⟨IFun.ext ((HI.out.1.drewN i).set (j := A + m) (by omega) (cosN (A + m))) fun j _ => ?_, (Below.drewN' HI.out.2 i).setCell hB _⟩
        rw [HH.out, ← levA_next HA.out, ← HM.out]
      rw [← HM.out, ← HH.out] at HC
      generalize cosN A = x at i1 x0 x1 HC
      generalize cosN (A + H) = y at i2 y0 y1 HC
      generalize cosN (A + m) = v at HC HV v0 v1
      generalize cosN m = z at c1 d1 HC ⊢
      generalize levA k A (A + m) = old at i4
      go_wp2
      have g1 : IntKind.i64.wrap ((A : Int) + (H : Int)) = (A : Int) + (H : Int) := IntWalk.i64_in _ (by omega)
      have g2 : IntKind.i64.wrap (x + y) = x + y := IntWalk.i64_in _ (by omega)
      have g4 : ((A : Int) + (H : Int)).toNat = A + H := by omega
      have g5 : (A : Int) < 1025 := by omega
      have g6 : (A : Int) + (H : Int) < 1025 := by omega
      have g7 : 0 ≤ (A : Int) + (H : Int) := by omega
      go_quiet (first | (go_at_call 41; exact Calls.quiet_of_same ((wide32_any x _ (by omega) (by omega)).mono fun _ _ h => ⟨h.1, h.2.symm⟩)) | (go_at_call 41; exact Calls.quiet_of_same ((wide32_any y _ (by omega) (by omega)).mono fun _ _ h => ⟨h.1, h.2.symm⟩)))
      clear g1 g2 g4 g5 g6 g7
      obtain ⟨n, hn⟩ : ∃ n, n = (x + y) * 8388608 := ⟨_, rfl⟩
      have n0 : 0 ≤ n := by omega
      have n1 : n ≤ 281474976710656 := by omega
      have HW : RowKit.Hid (IFun ((wr.drewN nq).drew.setCell ⟨g, A + m, none⟩ (.int .i32 v)) g 75 .i32 1025 (levA k (A + H)) ∧ Below B w ((wr.drewN nq).drew.setCell ⟨g, A + m, none⟩ (.int .i32 v))) := by
        have := HV.out (nq + 1)
        rw [← World.drewN_drewN] at this
        exact this
      have j4 : (wr.drewN nq).cell? ⟨g, A + m, none⟩ = some (.int .i32 old) := i4
      have k4 : (wr.drewN nq).frozen? ⟨g, A + m, none⟩ = false := f4
      generalize wr.drewN nq = wq at HW j4 k4 ⊢
      clear HV i1 i2 i4 f4
      rw [← hn] at HC
      have g2 : IntKind.i64.wrap (x + y) = x + y := IntWalk.i64_in _ (by omega)
      have g1 : IntKind.i64.wrap ((x + y) * 8388608) = n := by rw [hn]; exact IntWalk.i64_in _ (by omega)
      have g3 : IntKind.i64.wrap ((A : Int) + (m : Int)) = (A : Int) + (m : Int) := IntWalk.i64_in _ (by omega)
      have g4 : ((A : Int) + (m : Int)).toNat = A + m := by omega
      have g6 : (A : Int) + (m : Int) < 1025 := by omega
      have g7 : 0 ≤ (A : Int) + (m : Int) := by omega
      have g8 : IntKind.i64.wrap z = z := IntWalk.i64_in _ (by omega)
      have g9 : IntKind.i32.wrap v = v := IntWalk.i32_in _ (by omega)
      clear hn
      go_wp2
      go_still_tail 13, (by kernel_rfl)
      still_call ((nearest_any n z v _ n0 (by omega) (by omega) d1 HC.out).mono fun _ _ h => ⟨h.1, h.2.symm⟩)
      repeat still_step
      refine wpStill_nil ?_
      change wpList _ _ _ _ _ wq.drew
      clear g1 g2 g3 g4 g6 g7 g8 g9
      have j5 : wq.drew.cell? ⟨g, A + m, none⟩ = some (.int .i32 old) := j4
      have k5 : wq.drew.frozen? ⟨g, A + m, none⟩ = false := k4
      generalize wq.drew = wp at HW j5 k5 ⊢
      clear j4 k4
      go_wp2
      go_roundw
      case rel => exact ⟨A + H, by go_num, by omega, by omega, by show _ % _ = _; rw [HH.out]; exact (step_next HA.out).1, HW.out⟩
      case measure => simp [intOf] <;> omega
    · obtain rfl : A = 1024 := by omega
      have Z : RowKit.Hid (IFun wr g 75 .i32 1025 (lev k)) := IFun.ext HI.out.1 fun j hj => levA_end hk9 j hj
      have HB := Lib.hid HI.out.2
      clear HI
      go_wp2
      go_end0
      exact ⟨rfl, Z.out, HB.out⟩

theorem made_rep (k : IntKind) (n : Nat) : madeCells #[.int k 0] n = Array.replicate n (.int k 0) := by
  apply Array.ext_getElem?
  intro i
  by_cases h : i < n
  · simp [madeCells, Nat.mod_one, h]
  · simp [madeCells, h]
theorem info_circ : (Try.prog.info? 75).map (fun i => i.zero) = some (some (.agg (Array.replicate 1025 (.int .i32 0)))) := by kernel_rfl
theorem zero_circ (w : World) : (zeroValue 75).run Try.prog w = .ok (.agg (madeCells #[.int .i32 0] 1025)) w := by
  obtain ⟨i, h1, h2⟩ := Option.map_eq_some_iff.1 info_circ
  simp [zeroValue, typeInfo, h1, h2, made_rep]
set_option maxRecDepth 100000 in
theorem circNew_any (w : World) : Calls Try.prog 29 #[] w fun e w' => ∃ g, e = .returned (.pointer (some ⟨g, 0, none⟩)) ∧ CircAt w' g ∧ Below w.heap.size w w' := by
  have HI := Lib.hid (IFun.zeros w 75 .i32 1025)
  have hmk := zero_circ
  have hcell0 := HI.out.cell (j := 0) (by decide)
  have hfz0 := HI.out.frozen 0
  have H0 : RowKit.Hid (IFun ((w.alloc (.cells (madeCells #[.int .i32 0] 1025) 75)).setCell ⟨w.heap.size, 0, none⟩ (.int .i32 16777216)) w.heap.size 75 .i32 1025 (lev 10)) := by
    refine IFun.ext (HI.out.set (j := 0) (by decide) 16777216) fun j hj => ?_
    unfold lev
    by_cases h0 : j = 0
    · subst h0; rw [if_pos rfl, if_pos (by decide), cosN_first]
    · rw [if_neg h0]
      by_cases h1 : j = 1024
      · subst h1; rw [if_pos (by decide), cosN_last]
      · rw [if_neg]
        show ¬ j % 1024 = 0
        omega
  have HB := Lib.hid ((Below.alloc_new w (.cells (madeCells #[.int .i32 0] 1025) 75)).setCell (p := ⟨w.heap.size, 0, none⟩) (Nat.le_refl _) (.int .i32 16777216))
  go_enter Try.func29, Try.ntmps29
  go_wp2
  clear hmk hcell0 hfz0 HI
  go_loopw [2] (fun h wr => ∃ k H : Nat, k ≤ 10 ∧ h = .int .i64 H ∧ 1 ≤ H ∧ H ≤ 1024 ∧ RowKit.Hid (H = 2 ^ k) ∧ RowKit.Hid (IFun wr w.heap.size 75 .i32 1025 (lev k) ∧ Below w.heap.size w wr))
    (fun h _ => (intOf h).toNat)
  case atStart => exact ⟨10, 1024, by omega, rfl, by omega, by omega, rfl, by have := H0.out; rw [World.setCell_alloc_at _ _ _ _ _ rfl] at this; exact this, by have := HB.out; rw [World.setCell_alloc_at _ _ _ _ _ rfl] at this; exact this⟩
  case round =>
    obtain ⟨k, H, hk, rfl, hH1, hH2, HH, HI⟩ := hrel
    clear H0 HB
    cases k with
    | zero =>
      obtain rfl : H = 1 := HH.out
      have Z : RowKit.Hid (IFun wr w.heap.size 75 .i32 1025 cosN) := by
        refine IFun.ext HI.out.1 fun j _ => ?_
        unfold lev
        rw [if_pos (by simp [Nat.mod_one])]
      have HB := Lib.hid HI.out.2
      clear HI
      go_wp2
      go_ret
      exact ⟨_, rfl, Z.out, HB.out⟩
    | succ k =>
      have hk9 : k < 10 := by omega
      obtain ⟨m, hm⟩ : ∃ m, m = 2 ^ k := ⟨_, rfl⟩
      have hHm : H = 2 * m := by rw [HH.out, hm, Nat.pow_succ]; omega
      have hm1 : 1 ≤ m := by have := Nat.two_pow_pos k; omega
      have hq1 : (H : Int) / 2 = (m : Int) := by omega
      have hq2 : (H : Int).tdiv 2 = (m : Int) := by rw [Int.tdiv_eq_ediv_of_nonneg (by omega)]; exact hq1
      have hm2 : m < H := by omega
      have HM := Lib.hid hm
      clear hHm hm
      have hH3 : (1 : Int) < (H : Int) := by omega
      go_wp2_with (go_at_call 44; go_loud (refine (circHalve_any w.heap.size w.heap.size k H _ (Nat.le_refl _) hk9 HH.out HI.out.1).mono ?_); rintro e w5 ⟨rfl, hf, hb⟩; have HF := Lib.hid hf; have HB := Lib.hid (HI.out.2.trans hb); clear hf hb)
      go_roundw
      case rel => exact ⟨k, m, by omega, by go_num, by omega, by omega, HM.out, HF.out, HB.out⟩
      case measure => simp [intOf] <;> omega

theorem circCos_any (g : Nat) (i : Int) (w : World) (hg : CircAt w g) (hi : -9223372036854775808 ≤ i) (hi' : i ≤ 9223372036854775807) :
    Calls Try.prog 56 #[.pointer (some ⟨g, 0, none⟩), .int .i64 i] w fun e w' => e = .returned (.int .i32 (cosP i)) ∧ Below w.heap.size w w' := by
  have HG := Lib.hid hg; clear hg
  rw [cosP_q]
  obtain ⟨P, n, h, hP, hn, hc⟩ := circle_in i
  have hcell := HG.out.cell (j := n) (by omega)
  obtain ⟨x0, x1⟩ := cosN_bd (i := n) (by omega)
  have hand : bits .and .i64 i 4095 = (P : Int) := by rw [i64_and4095]; exact h
  clear h
  rcases hc with ⟨a1, a2, e⟩ | ⟨a1, a2, a3, e⟩ | ⟨a1, a2, a3, e⟩ | ⟨a1, a2, e⟩
  all_goals
    rw [e]
    clear e
    generalize cosN n = x at hcell x0 x1 ⊢
    try subst a2
    go_enter Try.func56, Try.ntmps56
    go_wp2
    all_goals (go_ret; exact ⟨rfl, Below.refl _ _⟩)
theorem circCos_nil (i : Int) (w : World) (hi : -9223372036854775808 ≤ i) (hi' : i ≤ 9223372036854775807) :
    Calls Try.prog 56 #[.pointer none, .int .i64 i] w fun e w' => e = .returned (.int .i32 0) ∧ Below w.heap.size w w' := by
  go_enter Try.func56, Try.ntmps56
  go_wp2
  go_ret
  exact ⟨rfl, Below.refl _ _⟩
theorem circRise_any (g : Nat) (i : Int) (w : World) (hg : CircAt w g) (hi : -9223372036854775808 ≤ i) (hi' : i ≤ 9223372036854775807) :
    Calls Try.prog 45 #[.pointer (some ⟨g, 0, none⟩), .int .i64 i] w fun e w' => e = .returned (.int .i32 (riseP i)) ∧ Below w.heap.size w w' := by
  have HG := Lib.hid hg; clear hg
  by_cases h0 : i < 0
  · rw [riseP_neg h0]
    go_enter Try.func45, Try.ntmps45
    go_wp2
    go_ret
    exact ⟨rfl, Below.refl _ _⟩
  · by_cases h1 : 128 ≤ i
    · rw [riseP_big h1]
      go_enter Try.func45, Try.ntmps45
      go_wp2
      go_ret
      exact ⟨rfl, Below.refl _ _⟩
    · rw [riseP_in (by omega) (by omega)]
      go_enter Try.func45, Try.ntmps45
      go_wp2_with (go_at_call 56; refine (circCos_any g _ _ HG.out (by omega) (by omega)).mono ?_; rintro e w' ⟨rfl, hb⟩)
      go_ret
      exact ⟨rfl, hb⟩
theorem circRise_nil (i : Int) (w : World) (hi : -9223372036854775808 ≤ i) (hi' : i ≤ 9223372036854775807) :
    Calls Try.prog 45 #[.pointer none, .int .i64 i] w fun e w' => e = .returned (.int .i32 0) ∧ Below w.heap.size w w' := by
  go_enter Try.func45, Try.ntmps45
  go_wp2
  go_ret
  exact ⟨rfl, Below.refl _ _⟩

/-! ### Bands -/
theorem edge_all : (List.range 22).all (fun k => (List.range (k + 1)).all fun j => decide (edgeN j ≤ edgeN k)) = true := by decide +kernel
theorem edge_mono {j k : Nat} (h : j ≤ k) (hk : k < 22) : edgeN j ≤ edgeN k := by
  have := List.all_eq_true.1 (List.all_eq_true.1 edge_all k (List.mem_range.2 hk)) j (List.mem_range.2 (by omega))
  simpa using this
end Go.Proofs.Ytgebnaeebdeoeaa
