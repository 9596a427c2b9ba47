/- What Told and Reach of package mask give. -/
import Derived.Test.YtgjmpjfcnibgmaaMskD
namespace Go.Proofs.Ytgjmpjfcnibgmaa
open Go.RowKit
set_option linter.unusedVariables false

theorem mskTold_any (n s : Int) (w : World) :
    Calls Try.prog 14 #[.int .i64 n, .int .i64 s] w fun e w' => e = .returned (.bool (decide (s < n))) ∧ w = w' := by
  go_enter Try.func14, Try.ntmps14
  go_wp2
  go_ret
  exact ⟨rfl, rfl⟩
theorem mskOne_any (n s : Nat) (w : World) (hn : n ≤ 26) (hs : s ≤ 26) :
    Calls Try.prog 19 #[.int .i64 (n : Int), .int .i64 (s : Int)] w fun e w' => e = .returned (.int .i64 (oneF n s)) ∧ w = w' := by
  by_cases h : s < n
  · have HE : RowKit.Hid (oneF n s = 2 ^ s) := by show _ = _; rw [oneF_told (by omega)]; rfl
    have HT : RowKit.Hid (decide ((s : Int) < (n : Int)) = true) := by show _ = _; simp; omega
    obtain ⟨p0, p1⟩ := pow_bd27 (k := s) (by omega)
    have g1 : IntKind.i64.wrap (2 ^ s) = 2 ^ s := IntWalk.i64_in _ (by omega)
    clear h
    go_enter Try.func19, Try.ntmps19
    go_wp2_with (go_at_call 14; refine (mskTold_any _ _ _).mono ?_; rintro e w' ⟨rfl, rfl⟩; rw [HT.out])
    go_ret
    exact ⟨ret_int (by rw [HE.out]), rfl⟩
  · have HE : RowKit.Hid (oneF n s = 2 ^ (n + 1)) := by show _ = _; rw [oneF_not (by omega)]; rfl
    have HT : RowKit.Hid (decide ((s : Int) < (n : Int)) = false) := by show _ = _; simp; omega
    obtain ⟨m, hm⟩ : ∃ m, m = n + 1 := ⟨_, rfl⟩
    obtain ⟨p0, p1⟩ := pow_bd27 (k := m) (by omega)
    have g1 : IntKind.i64.wrap (2 ^ m) = 2 ^ m := IntWalk.i64_in _ (by omega)
    have g2 : (n : Int) + 1 = (m : Int) := by omega
    rw [← hm] at HE
    have hm27 : m ≤ 27 := by omega
    clear h hm
    go_enter Try.func19, Try.ntmps19
    go_wp2_with (go_at_call 14; refine (mskTold_any _ _ _).mono ?_; rintro e w' ⟨rfl, rfl⟩; rw [HT.out])
    go_ret
    exact ⟨ret_int (by rw [HE.out]), rfl⟩

set_option maxRecDepth 100000 in
theorem mskReach_no (a a2 : Option Addr) (len cap len2 cap2 : Nat) (zs ss : List Int) (w : World) (h : IntsAt w w.heap.size .i64 a len zs) (h2 : IntsAt w w.heap.size .i64 a2 len2 ss) (hm : len ≤ 9223372036854775807) (hm2 : len2 ≤ 9223372036854775807) (hno : (rightB zs && rightB ss) = false) :
    Calls Try.prog 10 #[.slice a len cap, .slice a2 len2 cap2] w fun e w' => e = .returned (.tuple #[.int .i64 0, .int .i64 1]) ∧ w = w' := by
  have H0 := Lib.hid h
  have H2 := Lib.hid h2
  cases hr : rightB zs with
  | false =>
    have HR := Lib.hid hr
    clear h h2 hno hr
    go_enter Try.func10, Try.ntmps10
    go_wp2_with (go_at_call 16; refine (engRight_any _ _ _ _ _ H0.out hm).mono ?_; rintro e w' ⟨rfl, rfl⟩; rw [HR.out])
    go_ret2
    exact ⟨rfl, rfl⟩
  | true =>
    rw [hr, Bool.true_and] at hno
    have HR := Lib.hid hr
    have HS := Lib.hid hno
    have HF1 := Lib.hid (engRight_any a len cap zs w H0.out hm)
    have HF2 := Lib.hid (engRight_any a2 len2 cap2 ss w H2.out hm2)
    rw [HR.out] at HF1
    rw [HS.out] at HF2
    clear h h2 hno hr
    have HO := Lib.hid (rfl : (0 : Int) = 0)
    go_enter Try.func10, Try.ntmps10
    go_wp2_with (first
      | (go_at_call 16; have hq := HO.out; clear hq HO; refine HF1.out.mono ?_; rintro e w' ⟨rfl, rfl⟩)
      | (go_at_call 16; refine HF2.out.mono ?_; rintro e w' ⟨rfl, rfl⟩))
    go_ret2
    exact ⟨rfl, rfl⟩

theorem mskOne_int (n s : Int) (w : World) (n0 : 0 ≤ n) (n1 : n ≤ 26) (s0 : 0 ≤ s) (s1 : s ≤ 26) :
    Calls Try.prog 19 #[.int .i64 n, .int .i64 s] w fun e w' => e = .returned (.int .i64 (oneF n s)) ∧ w' = w := by
  obtain ⟨m, rfl⟩ := Int.eq_ofNat_of_zero_le n0
  obtain ⟨j, rfl⟩ := Int.eq_ofNat_of_zero_le s0
  exact (mskOne_any m j w (by omega) (by omega)).mono fun _ _ h => ⟨h.1, h.2.symm⟩
/-- The reach of right ceilings and steps. -/
theorem mskReach_any (a a2 : Option Addr) (cap cap2 : Nat) (zs ss : List Int) (w : World) (h : IntsAt w w.heap.size .i64 a 21 zs) (h2 : IntsAt w w.heap.size .i64 a2 21 ss) (hr : rightB zs = true) (hs : rightB ss = true) :
    Calls Try.prog 10 #[.slice a 21 cap, .slice a2 21 cap2] w fun e w' => e = .returned (.tuple #[.int .i64 (reachTo (fun j => zs.getD j 0) (fun j => ss.getD j 0) 21), .int .i64 0]) ∧ Below w.heap.size w w' := by
  have H0 := Lib.hid h
  have H2 := Lib.hid h2
  have HZb := Lib.hid (rightB_true hr).2
  have HSb := Lib.hid (rightB_true hs).2
  obtain ⟨T, hT⟩ : ∃ T, T = reachTo (fun j => zs.getD j 0) (fun j => ss.getD j 0) := ⟨_, rfl⟩
  have HB : RowKit.Hid (∀ n, n ≤ 21 → 0 ≤ T n ∧ T n ≤ 68719476736 * n) := fun n hn => by rw [hT]; exact reachTo_bd n hn fun j hj => ⟨(HZb.out j (by omega)).2, (HSb.out j (by omega)).2⟩
  have HS : RowKit.Hid (∀ n, T (n + 1) = T n + ((edgeK (n + 1) : Int) - edgeK n) * oneF (zs.getD n 0) (ss.getD n 0)) := fun n => by rw [hT]; rfl
  have HZ : RowKit.Hid (T 0 = 0) := by show _ = _; rw [hT]; rfl
  have HF1 := Lib.hid (engRight_any a 21 cap zs w H0.out (by decide))
  have HF2 := Lib.hid (engRight_any a2 21 cap2 ss w H2.out (by decide))
  rw [hr] at HF1
  rw [hs] at HF2
  rw [← hT]
  clear h h2 hr hs hT
  have HO := Lib.hid (rfl : (0 : Int) = 0)
  go_enter Try.func10, Try.ntmps10
  go_wp2_with (first
    | (go_at_call 16; have hq := HO.out; clear hq HO; refine HF1.out.mono ?_; rintro e w' ⟨rfl, rfl⟩)
    | (go_at_call 16; refine HF2.out.mono ?_; rintro e w' ⟨rfl, rfl⟩)
    | (go_at_call 18; go_loud (refine (bandsEdges_any _).mono ?_); rintro e w1 ⟨ea, ec, rfl, hi, hbl⟩; obtain ⟨eb, eo, rfl⟩ := ints_some hi (by decide); have HE1 := Lib.hid hi; have HB1 := Lib.hid hbl; clear hi hbl))
  have HL0 : RowKit.Hid (IntsAt w1 w1.heap.size .i64 a 21 zs) := H0.out.now HB1.out (Nat.le_refl _)
  have HL2 : RowKit.Hid (IntsAt w1 w1.heap.size .i64 a2 21 ss) := H2.out.now HB1.out (Nat.le_refl _)
  have HE : RowKit.Hid (∀ k, k < 22 → w1.cell? ⟨eb, eo + k, none⟩ = some (.int .i64 (edgeK k : Int))) := fun k hk => edges_at HE1.out hk
  clear HE1 HF1 HF2
  go_loopw [7, 21] (fun m i wr => ∃ k : Nat, k ≤ 21 ∧ i = .int .i64 (k : Int) ∧ m = .int .i64 (T k) ∧ RowKit.Hid (∃ q, wr = w1.drewN q)) (fun _ i _ => 21 - (intOf i).toNat)
  case atStart => exact ⟨0, by omega, rfl, by rw [HZ.out], 0, rfl⟩
  case round =>
    obtain ⟨k, hk, rfl, rfl, HW⟩ := hrel
    by_cases hlt : k < 21
    · obtain ⟨b, off, rfl, _, _, c1⟩ := HL0.out.at_ hlt
      obtain ⟨b2, off2, rfl, _, _, c2⟩ := HL2.out.at_ hlt
      have k1 : wr.cell? ⟨b, off + k, none⟩ = some (.int .i64 (zs.getD k 0)) := by obtain ⟨q, e⟩ := HW.out; rw [e]; exact c1
      have k2 : wr.cell? ⟨b2, off2 + k, none⟩ = some (.int .i64 (ss.getD k 0)) := by obtain ⟨q, e⟩ := HW.out; rw [e]; exact c2
      have k3 : wr.cell? ⟨eb, eo + k, none⟩ = some (.int .i64 (edgeK k : Int)) := by obtain ⟨q, e⟩ := HW.out; rw [e]; exact HE.out k (by omega)
      have k4 : wr.cell? ⟨eb, eo + (k + 1), none⟩ = some (.int .i64 (edgeK (k + 1) : Int)) := by obtain ⟨q, e⟩ := HW.out; rw [e]; exact HE.out (k + 1) (by omega)
      have HN : RowKit.Hid (∀ nq, ∃ q, wr.drewN nq = w1.drewN q) := fun nq => by obtain ⟨q, e⟩ := HW.out; exact ⟨q + nq, by rw [e, drewE_add]⟩
      clear c1 c2
      obtain ⟨e1, e2⟩ := edgeK_lt k hlt
      obtain ⟨n0, n1⟩ := HZb.out k hlt
      obtain ⟨s0, s1⟩ := HSb.out k hlt
      obtain ⟨t0, t1⟩ := HB.out k (by omega)
      have HV := Lib.hid (HS.out k)
      have HQ := Lib.hid fun i => mskOne_int (zs.getD k 0) (ss.getD k 0) (wr.drewN i) n0 n1 s0 s1
      obtain ⟨y0, y1⟩ := oneF_bd (n := zs.getD k 0) (s := ss.getD k 0) n1 s1
      generalize oneF (zs.getD k 0) (ss.getD k 0) = y at HV HQ y0 y1
      generalize zs.getD k 0 = n at k1 n0 n1 HQ
      generalize ss.getD k 0 = s at k2 s0 s1 HQ
      generalize edgeK (k + 1) = E1 at k4 e1 e2 HV
      generalize edgeK k = E0 at k3 e1 HV
      obtain ⟨D, hD⟩ : ∃ D, D = (E1 : Int) - E0 := ⟨_, rfl⟩
      rw [← hD] at HV
      have d1 : (E1 : Int) - E0 = D := hD.symm
      have p0 : 0 ≤ D * y := Int.mul_nonneg (by omega) (by omega)
      have p1 : D * y ≤ 512 * 134217728 := Int.mul_le_mul (by omega) y1 (by omega) (by decide)
      obtain ⟨P, hP⟩ : ∃ P, P = D * y := ⟨_, rfl⟩
      rw [← hP] at HV p0 p1
      have d2 : D * y = P := hP.symm
      have HP1 : P ≤ 68719476736 := by omega
      have ht1 : T k ≤ 1443109011456 := by omega
      have D0 : 0 ≤ D := by omega
      have D1 : D ≤ 512 := by omega
      have E1b : E1 ≤ 512 := e2
      clear hD hP p1 t1 e1 e2
      generalize T k = t at t0 ht1 HV
      have l1 : (k : Int) < 21 := by omega
      go_wp2
      go_quiet ((go_at_call 19; exact Calls.quiet_of_same (HQ.out _)))
      go_wp2
      go_roundw
      case rel => exact ⟨k + 1, by omega, by go_num, by rw [HV.out], HN.out _⟩
      case measure => simp [intOf] <;> omega
    · obtain rfl : k = 21 := by omega
      have HK : RowKit.Hid (Below w.heap.size w wr) := by obtain ⟨q, e⟩ := HW.out; show Below _ _ _; rw [e]; exact Below.drewN' HB1.out q
      go_wp2
      go_ret2
      exact ⟨rfl, HK.out⟩
end Go.Proofs.Ytgjmpjfcnibgmaa
