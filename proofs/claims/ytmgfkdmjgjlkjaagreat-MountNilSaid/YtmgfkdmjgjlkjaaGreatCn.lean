/- Plain facts, and what functions give, for the proofs of this seat: several texts in one, each with its own first remark. -/
import Derived.Test.YtmgfkdmjgjlkjaaGreatCm

namespace Go.Proofs.YtmgfkdmjgjlkjaaGreat
open Go.RowKit
set_option linter.unusedVariables false
def CircAt (w : World) (g : Nat) : Prop := IFun w g 232 .i32 1025 cosN
theorem CircAt.keep {w w' : World} {g : Nat} (h : CircAt w g) (hk : w'.heap[g]? = w.heap[g]?) : CircAt w' g := hk.trans h
theorem CircAt.lt {w : World} {g : Nat} (h : CircAt w g) : g < w.heap.size := IFun.lt h
theorem ints_some {w : World} {B len : Nat} {k : IntKind} {a : Option Addr} {zs : List Int} (h : IntsAt w B k a len zs) (h0 : 0 < len) : ∃ b off, a = some ⟨b, off, none⟩ := by
  obtain ⟨b, off, e, _⟩ := h.2.resolve_left (by omega)
  exact ⟨b, off, e⟩
theorem ints_cell {w : World} {B len b off : Nat} {k : IntKind} {zs : List Int} (h : IntsAt w B k (some ⟨b, off, none⟩) len zs) {j : Nat} (hj : j < len) : w.cell? ⟨b, off + j, none⟩ = some (.int k (zs.getD j 0)) := by
  obtain ⟨b', off', e, _, _, hc⟩ := h.at_ hj
  obtain ⟨rfl, rfl⟩ : b = b' ∧ off = off' := by injection e with e; injection e with e1 e2; exact ⟨e1, e2⟩
  exact hc
theorem i64_and4095 (n : Int) : bits .and .i64 n 4095 = n % 4096 := by
  have h1 : (BitVec.ofInt 64 4095).toNat = 2 ^ 12 - 1 := by decide
  have key : (BitVec.ofInt 64 n &&& BitVec.ofInt 64 4095).toNat = (n % ((2 ^ 64 : Nat) : Int)).toNat % 2 ^ 12 := by
    rw [BitVec.toNat_and, BitVec.toNat_ofInt, h1, Nat.and_two_pow_sub_one_eq_mod]
  show IntKind.i64.wrap ((BitVec.ofInt 64 n &&& BitVec.ofInt 64 4095).toNat : Nat) = n % 4096
  rw [key, IntKind.wrap_i64]
  omega
theorem near_eq {n z : Int} (hn : 0 ≤ n) (hz : 0 < z) : (n + z / 2) / z = if 2 * (n % z) ≥ z then n / z + 1 else n / z := by
  have h := Int.emod_add_mul_ediv n z
  have t0 := Int.emod_nonneg n (b := z) (by omega)
  have t1 := Int.emod_lt_of_pos n hz
  have e : n + z / 2 = (n % z + z / 2) + z * (n / z) := by omega
  rw [e, Int.add_mul_ediv_left _ _ (by omega)]
  split
  · rename_i c
    have : (n % z + z / 2) / z = 1 := by
      rw [show n % z + z / 2 = (n % z + z / 2 - z) + z * 1 by omega, Int.add_mul_ediv_left _ _ (by omega), Int.ediv_eq_zero_of_lt (by omega) (by omega)]
      rfl
    omega
  · have : (n % z + z / 2) / z = 0 := Int.ediv_eq_zero_of_lt (by omega) (by omega)
    omega
theorem nearest_any (n z v : Int) (w : World) (hn : 0 ≤ n) (hn' : n ≤ 562949953421312) (hz : 0 < z) (hz' : z ≤ 16777216) (hv : v = if 2 * (n % z) ≥ z then n / z + 1 else n / z) :
    Calls Tryz.prog 180 #[.int .i64 n, .int .i64 z] w fun e w' => e = .returned (.int .i64 v) ∧ w = w' := by
  have E : RowKit.Hid ((n + z / 2) / z = v) := by show _ = _; rw [hv]; exact near_eq hn hz
  clear hv
  go_enter Tryz.func180, Tryz.ntmps180
  go_wp2
  go_ret
  exact ⟨ret_int E.out, rfl⟩
set_option maxHeartbeats 300000 in
set_option maxRecDepth 100000 in
theorem circHalve_any (B g k H : Nat) (w : World) (hB : B ≤ g) (hk9 : k < 10) (hH : H = 2 ^ (k + 1)) (hg : IFun w g 232 .i32 1025 (lev (k + 1))) :
    Calls Tryz.prog 152 #[.pointer (some ⟨g, 0, none⟩), .int .i64 H] w fun e w' => e = .returned (.tuple #[]) ∧ IFun w' g 232 .i32 1025 (lev k) ∧ Below B w w' := by
  have HI := Lib.hid hg
  have HH := Lib.hid hH
  obtain ⟨m, hm⟩ : ∃ m, m = 2 ^ k := ⟨_, rfl⟩
  have hHm : H = 2 * m := by rw [hH, hm, Nat.pow_succ]; omega
  have hp : 1 ≤ 2 ^ k := Nat.two_pow_pos k
  have hp2 : 2 ^ k ≤ 512 := Nat.pow_le_pow_right (n := 2) (by decide) (show k ≤ 9 by omega)
  have hm1 : 1 ≤ m := by omega
  have hm2 : 2 * m ≤ H := by omega
  have hm3 : H ≤ 2 * m := by omega
  have hH2 : H ≤ 1024 := by omega
  clear hp hp2 hH
  have hq1 : (H : Int) / 2 = (m : Int) := by omega
  have hq2 : (H : Int).tdiv 2 = (m : Int) := by rw [Int.tdiv_eq_ediv_of_nonneg (by omega)]; exact hq1
  clear hHm
  have hcH := HI.out.cell (j := H) (by omega)
  have hcm := HI.out.cell (j := m) (by omega)
  have hfm := HI.out.frozen m
  have e1 : lev (k + 1) H = cosN H := by unfold lev; rw [if_pos (by rw [HH.out]; exact Nat.mod_self _)]
  rw [e1] at hcH
  clear e1
  obtain ⟨b0, b1⟩ := cosN_bd (i := H) (by omega)
  have HR : RowKit.Hid (rootP ((16777216 + cosN H) * 8388608) = cosN m) := by
    have := cos_root hk9
    rw [← HH.out, ← hm] at this
    exact (rootP_eq this).symm
  obtain ⟨d0, d1⟩ := cosN_bd (i := m) (by omega)
  have HS : RowKit.Hid (IFun (w.setCell ⟨g, m, none⟩ (.int .i32 (cosN m))) g 232 .i32 1025 (levA k H)) := by
    refine IFun.ext (HI.out.set (j := m) (by omega) (cosN m)) fun j _ => ?_
    rw [HH.out, ← levA_start, ← hm]
  have HB := Lib.hid ((Below.refl B w).setCell (p := ⟨g, m, none⟩) hB (.int .i32 (cosN m)))
  have HM := Lib.hid hm
  have c1 : 1 ≤ cosN m := by have := cosN_falls (i := m) (by omega); have := cosN_bd (i := m + 1) (by omega); omega
  clear hm HI hg d0
  generalize lev (k + 1) m = old at hcm
  go_enter Tryz.func152, Tryz.ntmps152
  go_wp2_with (go_at_call 179; refine (root_any _ _ (by omega) (by omega)).mono ?_; rintro e w' ⟨rfl, rfl⟩; rw [HR.out])
  clear hcH hcm hfm HR
  go_loopw [6, 7] (fun a _ wr => ∃ A : Nat, a = .int .i64 A ∧ H ≤ A ∧ A ≤ 1024 ∧ RowKit.Hid (A % 2 ^ (k + 1) = 0) ∧ RowKit.Hid (IFun wr g 232 .i32 1025 (levA k A) ∧ Below B w wr))
    (fun a _ _ => (1024 - intOf a).toNat)
  case atStart => exact ⟨H, rfl, by omega, by omega, by show H % 2 ^ (k + 1) = 0; rw [HH.out]; exact Nat.mod_self _, HS.out, HB.out⟩
  case round =>
    obtain ⟨A, rfl, hA0, hA1, HA, HI⟩ := hrel
    clear HS HB
    by_cases hlt : A < 1024
    · have hAH : A + H ≤ 1024 := by
        rcases Nat.lt_or_ge 1024 (A + H) with c | c
        · have := step_last hk9 HA.out hA1 (by rw [← HH.out]; exact c)
          omega
        · exact c
      have i1 := HI.out.1.cell (j := A) (by omega)
      have i2 := HI.out.1.cell (j := A + H) (by omega)
      have i4 := HI.out.1.cell (j := A + m) (by omega)
      have f4 := HI.out.1.frozen (A + m)
      have e1 : levA k A A = cosN A := levA_old HA.out
      have e2 : levA k A (A + H) = cosN (A + H) := levA_old (by rw [HH.out]; exact (step_next HA.out).1)
      rw [e1] at i1
      rw [e2] at i2
      clear e1 e2
      obtain ⟨x0, x1⟩ := cosN_bd (i := A) (by omega)
      obtain ⟨y0, y1⟩ := cosN_bd (i := A + H) (by omega)
      have HC := Lib.hid (cos_mid (k := k) (a := A) hk9 (by omega) HA.out (by omega))
      obtain ⟨v0, v1⟩ := cosN_bd (i := A + m) (by omega)
      have HV : RowKit.Hid (∀ i : Nat, IFun ((wr.drewN i).setCell ⟨g, A + m, none⟩ (.int .i32 (cosN (A + m)))) g 232 .i32 1025 (levA k (A + H)) ∧ Below B w ((wr.drewN i).setCell ⟨g, A + m, none⟩ (.int .i32 (cosN (A + m))))) := by
        intro i
        refine ⟨IFun.ext ((HI.out.1.drewN i).set (j := A + m) (by omega) (cosN (A + m))) fun j _ => ?_, (Below.drewN' HI.out.2 i).setCell hB _⟩
        rw [HH.out, ← levA_next HA.out, ← HM.out]
      rw [← HM.out, ← HH.out] at HC
      generalize cosN A = x at i1 x0 x1 HC
      generalize cosN (A + H) = y at i2 y0 y1 HC
      generalize cosN (A + m) = v at HC HV v0 v1
      generalize cosN m = z at c1 d1 HC ⊢
      generalize levA k A (A + m) = old at i4
      go_wp2
      have g1 : IntKind.i64.wrap ((A : Int) + (H : Int)) = (A : Int) + (H : Int) := IntWalk.i64_in _ (by omega)
      have g2 : IntKind.i64.wrap (x + y) = x + y := IntWalk.i64_in _ (by omega)
      have g4 : ((A : Int) + (H : Int)).toNat = A + H := by omega
      have g5 : (A : Int) < 1025 := by omega
      have g6 : (A : Int) + (H : Int) < 1025 := by omega
      have g7 : 0 ≤ (A : Int) + (H : Int) := by omega
      go_quiet (first | (go_at_call 172; exact Calls.quiet_of_same ((wide32_any x _ (by omega) (by omega)).mono fun _ _ h => ⟨h.1, h.2.symm⟩)) | (go_at_call 172; exact Calls.quiet_of_same ((wide32_any y _ (by omega) (by omega)).mono fun _ _ h => ⟨h.1, h.2.symm⟩)))
      clear g1 g2 g4 g5 g6 g7
      obtain ⟨n, hn⟩ : ∃ n, n = (x + y) * 8388608 := ⟨_, rfl⟩
      have n0 : 0 ≤ n := by omega
      have n1 : n ≤ 281474976710656 := by omega
      have HW : RowKit.Hid (IFun ((wr.drewN nq).drew.setCell ⟨g, A + m, none⟩ (.int .i32 v)) g 232 .i32 1025 (levA k (A + H)) ∧ Below B w ((wr.drewN nq).drew.setCell ⟨g, A + m, none⟩ (.int .i32 v))) := by
        have := HV.out (nq + 1)
        rw [← World.drewN_drewN] at this
        exact this
      have j4 : (wr.drewN nq).cell? ⟨g, A + m, none⟩ = some (.int .i32 old) := i4
      have k4 : (wr.drewN nq).frozen? ⟨g, A + m, none⟩ = false := f4
      generalize wr.drewN nq = wq at HW j4 k4 ⊢
      clear HV i1 i2 i4 f4
      rw [← hn] at HC
      have g2 : IntKind.i64.wrap (x + y) = x + y := IntWalk.i64_in _ (by omega)
      have g1 : IntKind.i64.wrap ((x + y) * 8388608) = n := by rw [hn]; exact IntWalk.i64_in _ (by omega)
      have g3 : IntKind.i64.wrap ((A : Int) + (m : Int)) = (A : Int) + (m : Int) := IntWalk.i64_in _ (by omega)
      have g4 : ((A : Int) + (m : Int)).toNat = A + m := by omega
      have g6 : (A : Int) + (m : Int) < 1025 := by omega
      have g7 : 0 ≤ (A : Int) + (m : Int) := by omega
      have g8 : IntKind.i64.wrap z = z := IntWalk.i64_in _ (by omega)
      have g9 : IntKind.i32.wrap v = v := IntWalk.i32_in _ (by omega)
      clear hn
      go_wp2
      go_still_tail 13, (by kernel_rfl)
      still_call ((nearest_any n z v _ n0 (by omega) (by omega) d1 HC.out).mono fun _ _ h => ⟨h.1, h.2.symm⟩)
      repeat still_step
      refine wpStill_nil ?_
      change wpList _ _ _ _ _ wq.drew
      clear g1 g2 g3 g4 g6 g7 g8 g9
      have j5 : wq.drew.cell? ⟨g, A + m, none⟩ = some (.int .i32 old) := j4
      have k5 : wq.drew.frozen? ⟨g, A + m, none⟩ = false := k4
      generalize wq.drew = wp at HW j5 k5 ⊢
      clear j4 k4
      go_wp2
      go_roundw
      case rel => exact ⟨A + H, by go_num, by omega, by omega, by show _ % _ = _; rw [HH.out]; exact (step_next HA.out).1, HW.out⟩
      case measure => simp [intOf] <;> omega
    · obtain rfl : A = 1024 := by omega
      have Z : RowKit.Hid (IFun wr g 232 .i32 1025 (lev k)) := IFun.ext HI.out.1 fun j hj => levA_end hk9 j hj
      have HB := Lib.hid HI.out.2
      clear HI
      go_wp2
      go_end0
      exact ⟨rfl, Z.out, HB.out⟩
theorem made_rep (k : IntKind) (n : Nat) : madeCells #[.int k 0] n = Array.replicate n (.int k 0) := by
  apply Array.ext_getElem?
  intro i
  by_cases h : i < n
  · simp [madeCells, Nat.mod_one, h]
  · simp [madeCells, h]
theorem info_circ : (Tryz.prog.info? 232).map (fun i => i.zero) = some (some (.agg (Array.replicate 1025 (.int .i32 0)))) := by kernel_rfl
theorem zero_circ (w : World) : (zeroValue 232).run Tryz.prog w = .ok (.agg (madeCells #[.int .i32 0] 1025)) w := by
  obtain ⟨i, h1, h2⟩ := Option.map_eq_some_iff.1 info_circ
  simp [zeroValue, typeInfo, h1, h2, made_rep]
set_option maxRecDepth 100000 in
theorem circNew_any (w : World) : Calls Tryz.prog 122 #[] w fun e w' => ∃ g, e = .returned (.pointer (some ⟨g, 0, none⟩)) ∧ CircAt w' g ∧ Below w.heap.size w w' := by
  have HI := Lib.hid (IFun.zeros w 232 .i32 1025)
  have hmk := zero_circ
  have hcell0 := HI.out.cell (j := 0) (by decide)
  have hfz0 := HI.out.frozen 0
  have H0 : RowKit.Hid (IFun ((w.alloc (.cells (madeCells #[.int .i32 0] 1025) 232)).setCell ⟨w.heap.size, 0, none⟩ (.int .i32 16777216)) w.heap.size 232 .i32 1025 (lev 10)) := by
    refine IFun.ext (HI.out.set (j := 0) (by decide) 16777216) fun j hj => ?_
    unfold lev
    by_cases h0 : j = 0
    · subst h0; rw [if_pos rfl, if_pos (by decide), cosN_first]
    · rw [if_neg h0]
      by_cases h1 : j = 1024
      · subst h1; rw [if_pos (by decide), cosN_last]
      · rw [if_neg]
        show ¬ j % 1024 = 0
        omega
  have HB := Lib.hid ((Below.alloc_new w (.cells (madeCells #[.int .i32 0] 1025) 232)).setCell (p := ⟨w.heap.size, 0, none⟩) (Nat.le_refl _) (.int .i32 16777216))
  go_enter Tryz.func122, Tryz.ntmps122
  go_wp2
  clear hmk hcell0 hfz0 HI
  go_loopw [2] (fun h wr => ∃ k H : Nat, k ≤ 10 ∧ h = .int .i64 H ∧ 1 ≤ H ∧ H ≤ 1024 ∧ RowKit.Hid (H = 2 ^ k) ∧ RowKit.Hid (IFun wr w.heap.size 232 .i32 1025 (lev k) ∧ Below w.heap.size w wr))
    (fun h _ => (intOf h).toNat)
  case atStart => exact ⟨10, 1024, by omega, rfl, by omega, by omega, rfl, by have := H0.out; rw [World.setCell_alloc_at _ _ _ _ _ rfl] at this; exact this, by have := HB.out; rw [World.setCell_alloc_at _ _ _ _ _ rfl] at this; exact this⟩
  case round =>
    obtain ⟨k, H, hk, rfl, hH1, hH2, HH, HI⟩ := hrel
    clear H0 HB
    cases k with
    | zero =>
      obtain rfl : H = 1 := HH.out
      have Z : RowKit.Hid (IFun wr w.heap.size 232 .i32 1025 cosN) := by
        refine IFun.ext HI.out.1 fun j _ => ?_
        unfold lev
        rw [if_pos (by simp [Nat.mod_one])]
      have HB := Lib.hid HI.out.2
      clear HI
      go_wp2
      go_ret
      exact ⟨_, rfl, Z.out, HB.out⟩
    | succ k =>
      have hk9 : k < 10 := by omega
      obtain ⟨m, hm⟩ : ∃ m, m = 2 ^ k := ⟨_, rfl⟩
      have hHm : H = 2 * m := by rw [HH.out, hm, Nat.pow_succ]; omega
      have hm1 : 1 ≤ m := by have := Nat.two_pow_pos k; omega
      have hq1 : (H : Int) / 2 = (m : Int) := by omega
      have hq2 : (H : Int).tdiv 2 = (m : Int) := by rw [Int.tdiv_eq_ediv_of_nonneg (by omega)]; exact hq1
      have hm2 : m < H := by omega
      have HM := Lib.hid hm
      clear hHm hm
      have hH3 : (1 : Int) < (H : Int) := by omega
      go_wp2_with (go_at_call 152; go_loud (refine (circHalve_any w.heap.size w.heap.size k H _ (Nat.le_refl _) hk9 HH.out HI.out.1).mono ?_); rintro e w5 ⟨rfl, hf, hb⟩; have HF := Lib.hid hf; have HB := Lib.hid (HI.out.2.trans hb); clear hf hb)
      go_roundw
      case rel => exact ⟨k, m, by omega, by go_num, by omega, by omega, HM.out, HF.out, HB.out⟩
      case measure => simp [intOf] <;> omega
theorem bandsEdges_any (w : World) : Calls Tryz.prog 126 #[] w fun e w' => ∃ a c, e = .returned (.slice a 22 c) ∧ IntsAt w' w'.heap.size .i64 a 22 edgesL ∧ Below w.heap.size w w' := by
  go_enter Tryz.func126, Tryz.ntmps126
  go_wp2
  go_ret
  exact ⟨_, _, rfl, lit_ints w 3 .i64 edgesL _ (0, 0) rfl (by decide), Below.alloc_new w _⟩
end Go.Proofs.YtmgfkdmjgjlkjaaGreat

namespace Go.Proofs.YtmgfkdmjgjlkjaaGreat
open Go
set_option linter.unusedVariables false
def sumF (f : Nat → Int) : Nat → Int
  | 0 => 0
  | n + 1 => sumF f n + f n
theorem sumF_succ (f : Nat → Int) (n : Nat) : sumF f (n + 1) = sumF f n + f n := rfl
theorem sumF_abs {f : Nat → Int} {B : Nat} : ∀ {n : Nat}, (∀ j, j < n → (f j).natAbs ≤ B) → (sumF f n).natAbs ≤ n * B
  | 0, _ => by simp [sumF]
  | n + 1, h => by
    have h1 := sumF_abs (n := n) fun j hj => h j (by omega)
    have h2 := h n (by omega)
    rw [sumF_succ, Nat.add_mul, Nat.one_mul]
    omega
theorem mul_abs {a b : Int} {A B : Nat} (ha : a.natAbs ≤ A) (hb : b.natAbs ≤ B) : (a * b).natAbs ≤ A * B := by
  rw [Int.natAbs_mul]; exact Nat.mul_le_mul ha hb
theorem cosP_abs (a : Int) : (cosP a).natAbs ≤ 16777216 := by have := cosP_bd a; omega
section
variable {a b c : Int}
end
end Go.Proofs.YtmgfkdmjgjlkjaaGreat

namespace Go.Proofs.YtmgfkdmjgjlkjaaGreat
open Go
set_option linter.unusedVariables false
noncomputable def cosA (n j k : Nat) : Int := cosP (((2 * j + 1) * (2 * k + 1) * (512 / n) : Nat) : Int)
theorem cosA_abs (n j k : Nat) : (cosA n j k).natAbs ≤ 16777216 := cosP_abs _
noncomputable def dotF (n : Nat) (u : Nat → Int) (k : Nat) : Int := sumF (fun j => u j * cosA n j k) n
def lossN (n : Nat) : Nat := if n = 128 then 27 else 28
noncomputable def turnF (n : Nat) (u : Nat → Int) (k : Nat) : Int := rndP (dotF n u k) (lossN n)
def foldF (n : Nat) (x : Nat → Int) (i : Nat) : Int := if i < n / 2 then -(x (3 * (n / 2) - 1 - i)) - x (3 * (n / 2) + i) else x (i - n / 2) - x (n - 1 - (i - n / 2))
def unfoldF (n : Nat) (u : Nat → Int) (i : Nat) : Int := if i < n / 2 then u (n / 2 + i) else if i < n then -(u (n / 2 + (n - 1 - i))) else if i < 3 * (n / 2) then -(u (3 * (n / 2) - 1 - i)) else -(u (i - 3 * (n / 2)))
theorem odd_odd (j k : Nat) : ∃ q, (2 * j + 1) * (2 * k + 1) = 2 * q + 1 := ⟨j * (2 * k + 1) + k, by rw [Nat.add_mul, Nat.mul_assoc]; omega⟩
theorem rnd27 (x : Int) : (134217728 * rndP x 27 - x).natAbs ≤ 67108864 := by
  rw [rndP_in (by decide) (by decide), show P2 (27 : Int).toNat = 134217728 by decide]; omega
theorem rnd28 (x : Int) : (268435456 * rndP x 28 - x).natAbs ≤ 134217728 := by
  rw [rndP_in (by decide) (by decide), show P2 (28 : Int).toNat = 268435456 by decide]; omega
theorem turnF_128 (u : Nat → Int) (k : Nat) : turnF 128 u k = rndP (dotF 128 u k) 27 := rfl
theorem turnF_512 (u : Nat → Int) (k : Nat) : turnF 512 u k = rndP (dotF 512 u k) 28 := rfl
theorem dotF_abs {n B : Nat} {u : Nat → Int} (hb : ∀ j, j < n → (u j).natAbs ≤ B) (k : Nat) : (dotF n u k).natAbs ≤ n * (B * 16777216) :=
  sumF_abs fun j hj => mul_abs (hb j hj) (cosA_abs n j k)
theorem foldF_abs {n B : Nat} {x : Nat → Int} (h2 : n % 2 = 0) (hb : ∀ j, j < 2 * n → (x j).natAbs ≤ B) {i : Nat} (hi : i < n) : (foldF n x i).natAbs ≤ 2 * B := by
  unfold foldF
  split
  · have a := hb (3 * (n / 2) - 1 - i) (by omega)
    have b := hb (3 * (n / 2) + i) (by omega)
    omega
  · have a := hb (i - n / 2) (by omega)
    have b := hb (n - 1 - (i - n / 2)) (by omega)
    omega
theorem satP_26_bd (x : Int) : -33554432 ≤ satP x 26 ∧ satP x 26 ≤ 33554431 := by
  rw [satP_in (by decide) (by decide), show P2 ((26 : Int).toNat - 1) = 33554432 by decide]
  split
  · omega
  · split <;> omega
end Go.Proofs.YtmgfkdmjgjlkjaaGreat

namespace Go.Proofs.YtmgfkdmjgjlkjaaGreat
open Go.RowKit
set_option linter.unusedVariables false
def FnAt (w : World) (B : Nat) (k : IntKind) (a : Option Addr) (n : Nat) (f : Nat → Int) : Prop :=
  ∃ b off, a = some ⟨b, off, none⟩ ∧ b < B ∧ ∀ j, j < n → w.cell? ⟨b, off + j, none⟩ = some (.int k (f j))
theorem FnAt.below {w w' : World} {B B' n : Nat} {k : IntKind} {a : Option Addr} {f : Nat → Int} (h : FnAt w B k a n f) (hb : Below B' w w') (hB : B ≤ B') : FnAt w' B k a n f := by
  obtain ⟨b, off, e, h3, h5⟩ := h
  exact ⟨b, off, e, h3, fun j hj => (hb.cell (p := ⟨b, off + j, none⟩) (by show b < _; omega)).trans (h5 j hj)⟩
theorem FnAt.grow {w : World} {B B' n : Nat} {k : IntKind} {a : Option Addr} {f : Nat → Int} (h : FnAt w B k a n f) (hB : B ≤ B') : FnAt w B' k a n f := by
  obtain ⟨b, off, e, h3, h5⟩ := h
  exact ⟨b, off, e, by omega, h5⟩
theorem FnAt.now {w w' : World} {n : Nat} {k : IntKind} {a : Option Addr} {f : Nat → Int} (h : FnAt w w.heap.size k a n f) (hb : Below w.heap.size w w') : FnAt w' w'.heap.size k a n f :=
  (h.below hb (Nat.le_refl _)).grow hb.size
theorem FnAt.of_ifun {w : World} {g n : Nat} {t : TypeId} {k : IntKind} {f : Nat → Int} (h : IFun w g t k n f) : FnAt w w.heap.size k (some ⟨g, 0, none⟩) n f :=
  ⟨g, 0, rfl, h.lt, fun j hj => by rw [Nat.zero_add]; exact h.cell hj⟩
theorem FnAt.ext {w : World} {B n : Nat} {k : IntKind} {a : Option Addr} {f f' : Nat → Int} (h : FnAt w B k a n f) (he : ∀ j, j < n → f j = f' j) : FnAt w B k a n f' := by
  obtain ⟨b, off, e, h3, h5⟩ := h
  exact ⟨b, off, e, h3, fun j hj => by rw [h5 j hj, he j hj]⟩
theorem FnAt.of_ints {w : World} {B n : Nat} {k : IntKind} {a : Option Addr} {zs : List Int} (h : IntsAt w B k a n zs) (h0 : 0 < n) : FnAt w B k a n (fun j => zs.getD j 0) := by
  obtain ⟨b, off, e, h1, h2, h3⟩ := h.2.resolve_left (by omega)
  exact ⟨b, off, e, h1, h3⟩
theorem info_i32 : (Tryz.prog.info? 21).map (fun i => (i.zero, i.size, i.bytes)) = some (some (.int .i32 0), 1, 4) := by kernel_rfl
theorem circCos_same (g : Nat) (i : Int) (w : World) (hg : CircAt w g) (hi : -9223372036854775808 ≤ i) (hi' : i ≤ 9223372036854775807) :
    Calls Tryz.prog 195 #[.pointer (some ⟨g, 0, none⟩), .int .i64 i] w fun e w' => e = .returned (.int .i32 (cosP i)) ∧ w = w' := by
  have HG := Lib.hid hg; clear hg
  rw [cosP_q]
  obtain ⟨P, n, h, hP, hn, hc⟩ := circle_in i
  have hcell := HG.out.cell (j := n) (by omega)
  obtain ⟨x0, x1⟩ := cosN_bd (i := n) (by omega)
  have hand : bits .and .i64 i 4095 = (P : Int) := by rw [i64_and4095]; exact h
  clear h
  rcases hc with ⟨a1, a2, e⟩ | ⟨a1, a2, a3, e⟩ | ⟨a1, a2, a3, e⟩ | ⟨a1, a2, e⟩
  all_goals
    rw [e]
    clear e
    generalize cosN n = x at hcell x0 x1 ⊢
    try subst a2
    go_enter Tryz.func195, Tryz.ntmps195
    go_wp2
    all_goals (go_ret; exact ⟨rfl, rfl⟩)
def TrAt (w : World) (g c n : Nat) : Prop := Cel w g 234 #[.pointer (some ⟨c, 0, none⟩), .int .i64 n] ∧ CircAt w c
theorem TrAt.below {w w' : World} {g c n B : Nat} (h : TrAt w g c n) (hb : Below B w w') (hB : w.heap.size ≤ B) : TrAt w' g c n :=
  ⟨h.1.keep (hb.block g (by have := h.1.lt; omega)), h.2.keep (hb.block c (by have := h.2.lt; omega))⟩
theorem TrAt.cells {w : World} {g c n : Nat} (h : TrAt w g c n) : w.cell? ⟨g, 0, none⟩ = some (.pointer (some ⟨c, 0, none⟩)) ∧ w.cell? ⟨g, 1, none⟩ = some (.int .i64 n) :=
  ⟨by rw [h.1.cell 0]; rfl, by rw [h.1.cell 1]; rfl⟩
def LapNewPost (n c : Nat) (w : World) (x : Ending) (w' : World) : Prop :=
  ∃ g, x = .returned (.tuple #[.pointer (some ⟨g, 0, none⟩), .int .i64 0]) ∧ TrAt w' g c n ∧ Below w.heap.size w w'
theorem lapNew_any (n c : Nat) (w : World) (hn : n = 128 ∨ n = 512) (hc : CircAt w c) :
    Calls Tryz.prog 123 #[.int .i64 n, .pointer (some ⟨c, 0, none⟩)] w (LapNewPost n c w) := by
  have HT : RowKit.Hid (TrAt (w.alloc (.cells #[.pointer (some ⟨c, 0, none⟩), .int .i64 n] 234)) w.heap.size c n ∧ Below w.heap.size w (w.alloc (.cells #[.pointer (some ⟨c, 0, none⟩), .int .i64 n] 234))) :=
    ⟨⟨Cel.new w _ _, hc.keep (Below.heap_alloc w _ c hc.lt)⟩, Below.alloc_new w _⟩
  rcases hn with rfl | rfl
  all_goals
    go_enter Tryz.func123, Tryz.ntmps123
    go_wp2
    go_ret2
    exact ⟨_, rfl, HT.out.1, HT.out.2⟩
theorem lapMade_any (g c n : Nat) (w : World) (hT : TrAt w g c n) (hn : n = 128 ∨ n = 512) :
    Calls Tryz.prog 183 #[.pointer (some ⟨g, 0, none⟩)] w fun e w' => e = .returned (.bool true) ∧ w = w' := by
  have c1 := hT.cells.2
  clear hT
  rcases hn with rfl | rfl
  all_goals
    go_enter Tryz.func183, Tryz.ntmps183
    go_wp2
    go_ret
    exact ⟨rfl, rfl⟩
theorem lapLoss_any (g c n : Nat) (w : World) (hT : TrAt w g c n) (hn : n = 128 ∨ n = 512) :
    Calls Tryz.prog 197 #[.pointer (some ⟨g, 0, none⟩)] w fun e w' => e = .returned (.int .i64 (lossN n)) ∧ w = w' := by
  have c1 := hT.cells.2
  clear hT
  rcases hn with rfl | rfl
  all_goals
    go_enter Tryz.func197, Tryz.ntmps197
    go_wp2
    go_ret
    exact ⟨rfl, rfl⟩
set_option maxRecDepth 100000 in
theorem lapFit_yes (a : Option Addr) (n cap : Nat) (wide : Int) (f : Nat → Int) (w : World) (hf : FnAt w w.heap.size .i32 a n f) (hl : n ≤ 1000000) (hb : ∀ j, j < n → -2147483648 ≤ f j ∧ f j ≤ 2147483647) (hy : ∀ j, j < n → satP (f j) wide = f j) :
    Calls Tryz.prog 184 #[.slice a n cap, .int .i64 n, .int .i64 wide] w fun e w' => e = .returned (.bool true) ∧ w = w' := by
  obtain ⟨b, off, rfl, _, hc⟩ := hf
  have HC := Lib.hid hc
  have HB := Lib.hid hb
  have HY := Lib.hid hy
  clear hc hb hy
  go_enter Tryz.func184, Tryz.ntmps184
  go_wp2
  go_loop [15] (fun i => ∃ k : Nat, k ≤ n ∧ i = .int .i64 (k : Int)) (fun i => n - (intOf i).toNat)
  case atStart => exact ⟨0, by omega, rfl⟩
  case round =>
    obtain ⟨k, hk, rfl⟩ := hrel
    by_cases hlt : k < n
    · have hcell := HC.out k hlt
      obtain ⟨b0, b1⟩ := HB.out k hlt
      have E := Lib.hid (HY.out k hlt)
      generalize f k = x at hcell b0 b1 E
      go_wp2_with (first | (go_at_call 172; refine (wide32_any x _ b0 b1).mono ?_; rintro e w' ⟨rfl, rfl⟩) | (go_at_call 175; refine (sat_any x wide _ (by omega) (by omega)).mono ?_; rintro e w' ⟨rfl, rfl⟩; rw [E.out]))
      go_round
      case rel => exact ⟨k + 1, by omega, by go_num⟩
      case measure => simp [intOf]; omega
    · go_wp2
      go_ret
      exact ⟨rfl, rfl⟩
set_option maxRecDepth 100000 in
theorem lapWeigh_any (g c n cap k : Nat) (a : Option Addr) (u : Nat → Int) (U : Int) (w : World) (hT : TrAt w g c n) (hn : n = 128 ∨ n = 512) (hk : k < n) (hu : FnAt w w.heap.size .i32 a n u) (hb : ∀ j, j < n → -33554432 ≤ u j ∧ u j ≤ 33554432) (hU : U = ((2 * k + 1) * (512 / n) : Nat)) :
    Calls Tryz.prog 196 #[.pointer (some ⟨g, 0, none⟩), .slice a n cap, .int .i64 U] w fun e w' => e = .returned (.int .i64 (dotF n u k)) ∧ w = w' := by
  obtain ⟨b, off, rfl, _, hc⟩ := hu
  have HC := Lib.hid hc
  have HB := Lib.hid hb
  have HG := Lib.hid hT.2
  have c0 := hT.cells.1
  clear hc hb hT
  obtain ⟨V, hV⟩ : ∃ V, V = (2 * k + 1) * (512 / n) := ⟨_, rfl⟩
  rw [← hV] at hU
  have hV1 : V ≤ 1023 := by rcases hn with rfl | rfl <;> omega
  have hn2 : n ≤ 512 := by omega
  have HA : RowKit.Hid (∀ q, cosA n q k = cosP (((2 * q + 1) * V : Nat) : Int)) := by intro q; unfold cosA; rw [hV, Nat.mul_assoc]
  have HD : RowKit.Hid (dotF n u k = sumF (fun j => u j * cosA n j k) n) := rfl
  subst hU
  clear hV hn hk
  go_enter Tryz.func196, Tryz.ntmps196
  go_wp2
  go_loop [7, 8, 14] (fun s t i => ∃ q A : Nat, q ≤ n ∧ A ≤ 1023 + 2046 * q ∧ i = .int .i64 (q : Int) ∧ t = .int .i64 (A : Int) ∧ RowKit.Hid (A = (2 * q + 1) * V) ∧ s = .int .i64 (sumF (fun j => u j * cosA n j k) q)) (fun _ _ i => n - (intOf i).toNat)
  case atStart => exact ⟨0, V, by omega, by omega, rfl, rfl, by show V = _; omega, rfl⟩
  case round =>
    obtain ⟨q, A, hq, hA, rfl, rfl, HQ, rfl⟩ := hrel
    by_cases hlt : q < n
    · have hcell := HC.out q hlt
      obtain ⟨b0, b1⟩ := HB.out q hlt
      have hs := sumF_abs (f := fun j => u j * cosA n j k) (n := q) (B := 33554432 * 16777216) fun j hj => mul_abs (by have := HB.out j (by omega); omega) (cosA_abs n j k)
      have E : RowKit.Hid (sumF (fun j => u j * cosA n j k) (q + 1) = sumF (fun j => u j * cosA n j k) q + u q * cosP (A : Int)) := by
        show _ = _
        rw [sumF_succ, HA.out, HQ.out]
      have HN : RowKit.Hid (A + 2 * V = (2 * (q + 1) + 1) * V) := by
        show _ = _
        rw [HQ.out, ← Nat.add_mul]; congr 1
      have hx := cosP_bd (A : Int)
      have hp : (u q * cosP (A : Int)).natAbs ≤ 33554432 * 16777216 := mul_abs (by omega) (cosP_abs _)
      have HX : RowKit.Hid (Calls Tryz.prog 195 #[.pointer (some ⟨c, 0, none⟩), .int .i64 (A : Int)] w fun e w' => e = .returned (.int .i32 (cosP (A : Int))) ∧ w = w') := circCos_same c (A : Int) w HG.out (by omega) (by omega)
      generalize sumF (fun j => u j * cosA n j k) q = s at hs E
      generalize u q = y at hcell b0 b1 E hp
      generalize cosP (A : Int) = x at hx E hp HX
      obtain ⟨x0, x1⟩ := hx
      have p0 : -562949953421312 ≤ y * x := by omega
      have p1 : y * x ≤ 562949953421312 := by omega
      have s0 : -288230376151711744 ≤ s := by omega
      have s1 : s ≤ 288230376151711744 := by omega
      clear hp hs
      go_wp2_with (go_at_call 195; refine (HX.out).mono ?_; rintro e w' ⟨rfl, rfl⟩)
      go_round
      case rel => exact ⟨q + 1, A + 2 * V, by omega, by omega, by go_num, by go_num, HN.out, by rw [E.out]⟩
      case measure => simp [intOf]; omega
    · obtain rfl : q = n := by omega
      go_wp2
      go_ret
      exact ⟨ret_int HD.out.symm, rfl⟩
end Go.Proofs.YtmgfkdmjgjlkjaaGreat
