/- What the document's Reach gives. -/
import Derived.Test.YtgjmpjfcnibgmaaMskR
namespace Go.Proofs.Ytgjmpjfcnibgmaa
open Go.RowKit
set_option linter.unusedVariables false

theorem oneF_nat {n s : Nat} : oneF (n : Int) (s : Int) = if s < n then 2 ^ s else 2 ^ (n + 1) := by
  unfold oneF
  by_cases h : s < n
  · rw [if_pos (by omega), if_pos h]; rfl
  · rw [if_neg (by omega), if_neg h]; rfl
set_option maxHeartbeats 1000000 in
set_option maxRecDepth 100000 in
theorem ref10Reach_any (a a2 : Option Addr) (cap cap2 : Nat) (zs ss : List Int) (w : World) (h : IntsAt w w.heap.size .i64 a 21 zs) (h2 : IntsAt w w.heap.size .i64 a2 21 ss) (hr : rightB zs = true) (hs : rightB ss = true) :
    Calls Try.prog 13 #[.slice a 21 cap, .slice a2 21 cap2] w fun e w' => e = .returned (.int .i64 (reachTo (fun j => zs.getD j 0) (fun j => ss.getD j 0) 21)) ∧ Below w.heap.size w w' := by
  have H0 := Lib.hid h
  have H2 := Lib.hid h2
  have HZb := Lib.hid (rightB_true hr).2
  have HSb := Lib.hid (rightB_true hs).2
  obtain ⟨T, hT⟩ : ∃ T, T = reachTo (fun j => zs.getD j 0) (fun j => ss.getD j 0) := ⟨_, rfl⟩
  have HB : RowKit.Hid (∀ n, n ≤ 21 → 0 ≤ T n ∧ T n ≤ 68719476736 * n) := fun n hn => by rw [hT]; exact reachTo_bd n hn fun j hj => ⟨(HZb.out j (by omega)).2, (HSb.out j (by omega)).2⟩
  have HS : RowKit.Hid (∀ n, T (n + 1) = T n + ((edgeK (n + 1) : Int) - edgeK n) * oneF (zs.getD n 0) (ss.getD n 0)) := fun n => by rw [hT]; rfl
  have HZ : RowKit.Hid (T 0 = 0) := by show _ = _; rw [hT]; rfl
  rw [← hT]
  clear h h2 hr hs hT
  go_enter Try.func13, Try.ntmps13
  go_wp2_with (go_at_call 20; go_loud (refine (ref04Edges_any _).mono ?_); rintro e w1 ⟨ea, ec, rfl, hi, hbl⟩; obtain ⟨eb, eo, rfl⟩ := ints_some hi (by decide); have HE1 := Lib.hid hi; have HB1 := Lib.hid hbl; clear hi hbl)
  have HL0 : RowKit.Hid (IntsAt w1 w1.heap.size .i64 a 21 zs) := H0.out.now HB1.out (Nat.le_refl _)
  have HL2 : RowKit.Hid (IntsAt w1 w1.heap.size .i64 a2 21 ss) := H2.out.now HB1.out (Nat.le_refl _)
  have HE : RowKit.Hid (∀ k, k < 22 → w1.cell? ⟨eb, eo + k, none⟩ = some (.int .i64 (edgeK k : Int))) := fun k hk => edges_at HE1.out hk
  clear HE1
  go_loopw [6, 7] (fun m i wr => ∃ k : Nat, k ≤ 21 ∧ i = .int .i64 (k : Int) ∧ m = .int .i64 (T k) ∧ RowKit.Hid (∃ q, wr = w1.drewN q)) (fun _ i _ => 21 - (intOf i).toNat)
  case atStart => exact ⟨0, by omega, rfl, by rw [HZ.out], 0, rfl⟩
  case round =>
    obtain ⟨k, hk, rfl, rfl, HW⟩ := hrel
    by_cases hlt : k < 21
    · obtain ⟨b, off, rfl, _, _, c1⟩ := HL0.out.at_ hlt
      obtain ⟨b2, off2, rfl, _, _, c2⟩ := HL2.out.at_ hlt
      have HV := Lib.hid (HS.out k)
      obtain ⟨n0, n1⟩ := HZb.out k hlt
      obtain ⟨s0, s1⟩ := HSb.out k hlt
      obtain ⟨y0, y1⟩ := oneF_bd (n := zs.getD k 0) (s := ss.getD k 0) n1 s1
      generalize zs.getD k 0 = nz at c1 HV n0 n1 y0 y1
      generalize ss.getD k 0 = sz at c2 HV s0 s1 y0 y1
      obtain ⟨n, rfl⟩ := Int.eq_ofNat_of_zero_le n0
      obtain ⟨s, rfl⟩ := Int.eq_ofNat_of_zero_le s0
      have HK : RowKit.Hid (∀ v : World, (∃ q, v = w1.drewN q) → v.cell? ⟨b, off + k, none⟩ = some (.int .i64 (n : Int)) ∧ v.cell? ⟨b2, off2 + k, none⟩ = some (.int .i64 (s : Int)) ∧ v.cell? ⟨eb, eo + k, none⟩ = some (.int .i64 (edgeK k : Int)) ∧ v.cell? ⟨eb, eo + (k + 1), none⟩ = some (.int .i64 (edgeK (k + 1) : Int))) := fun v hv => by
        obtain ⟨q, rfl⟩ := hv
        exact ⟨c1, c2, HE.out k (by omega), HE.out (k + 1) (by omega)⟩
      have HD : RowKit.Hid (∀ (v : World) (m : Nat), (∃ q, v = w1.drewN q) → ∃ q, v.drewN m = w1.drewN q) := fun v m hv => by obtain ⟨q, rfl⟩ := hv; exact ⟨q + m, drewE_add _ _ _⟩
      clear c1 c2
      obtain ⟨e1, e2⟩ := edgeK_lt k hlt
      obtain ⟨t0, t1⟩ := HB.out k (by omega)
      have ht1 : T k ≤ 1443109011456 := by omega
      generalize edgeK (k + 1) = E1 at HK e1 e2 HV
      generalize edgeK k = E0 at HK e1 HV
      obtain ⟨pn0, pn1⟩ := pow_bd27 (k := n) (by omega)
      obtain ⟨pn2, pn3⟩ := pow_bd27 (k := n + 1) (by omega)
      have gn : IntKind.i64.wrap (2 * 2 ^ n) = 2 * 2 ^ n := IntWalk.i64_in _ (by omega)
      have HPn : RowKit.Hid ((2 : Int) * 2 ^ n = 2 ^ (n + 1)) := by show _ = _; rw [Int.pow_succ]; omega
      obtain ⟨ps0, ps1⟩ := pow_bd27 (k := s) (by omega)
      have gs : IntKind.i64.wrap (2 ^ s) = 2 ^ s := IntWalk.i64_in _ (by omega)
      rw [oneF_nat] at HV y0 y1
      obtain ⟨D, hD⟩ : ∃ D, D = (E1 : Int) - E0 := ⟨_, rfl⟩
      rw [← hD] at HV
      have d1 : (E1 : Int) - E0 = D := hD.symm
      have E1b : E1 ≤ 512 := e2
      have D0 : 0 ≤ D := by omega
      have D1 : D ≤ 512 := by omega
      have l1 : (k : Int) < 21 := by omega
      clear hD t1 e1 e2
      generalize T k = t at t0 ht1 HV
      by_cases hc : s < n
      · rw [if_pos hc] at HV y0 y1
        have l2 : (s : Int) < (n : Int) := by omega
        obtain ⟨P, hP⟩ : ∃ P, P = D * 2 ^ s := ⟨_, rfl⟩
        have p0 : 0 ≤ D * 2 ^ s := Int.mul_nonneg (by omega) (by omega)
        have p1 : D * 2 ^ s ≤ 512 * 134217728 := Int.mul_le_mul (by omega) y1 (by omega) (by decide)
        rw [← hP] at HV p0 p1
        have d2 : D * 2 ^ s = P := hP.symm
        have HP1 : P ≤ 68719476736 := by omega
        clear hP p1 hc
        obtain ⟨i1, i2, i3, i4⟩ := HK.out wr HW.out
        go_wp2
        go_quiet (fail)
        obtain ⟨wq, hw⟩ : ∃ wq, wq = wr.drewN nq := ⟨_, rfl⟩
        rw [← hw]
        have HW1 : RowKit.Hid (∃ q, wq = w1.drewN q) := by show ∃ q, _; rw [hw]; exact HD.out _ _ HW.out
        clear hw i1 i2 i3 i4 nq
        obtain ⟨i1, i2, i3, i4⟩ := HK.out wq HW1.out
        go_wp2
        go_quiet (fail)
        obtain ⟨wp, hw⟩ : ∃ wp, wp = wq.drewN nq := ⟨_, rfl⟩
        rw [← hw]
        have HW2 : RowKit.Hid (∃ q, wp = w1.drewN q) := by show ∃ q, _; rw [hw]; exact HD.out _ _ HW1.out
        clear hw i1 i2 i3 i4 nq
        go_wp2
        go_roundw
        case rel => exact ⟨k + 1, by omega, by go_num, by rw [HV.out], HW2.out⟩
        case measure => simp [intOf] <;> omega
      · rw [if_neg hc] at HV y0 y1
        have l2 : ¬ (s : Int) < (n : Int) := by omega
        obtain ⟨P, hP⟩ : ∃ P, P = D * 2 ^ (n + 1) := ⟨_, rfl⟩
        have p0 : 0 ≤ D * 2 ^ (n + 1) := Int.mul_nonneg (by omega) (by omega)
        have p1 : D * 2 ^ (n + 1) ≤ 512 * 134217728 := Int.mul_le_mul (by omega) y1 (by omega) (by decide)
        rw [← hP] at HV p0 p1
        have d2 : D * 2 ^ (n + 1) = P := hP.symm
        have HP1 : P ≤ 68719476736 := by omega
        clear hP p1 hc
        rw [← HPn.out] at d2
        obtain ⟨i1, i2, i3, i4⟩ := HK.out wr HW.out
        go_wp2
        go_quiet (fail)
        obtain ⟨wq, hw⟩ : ∃ wq, wq = wr.drewN nq := ⟨_, rfl⟩
        rw [← hw]
        have HW1 : RowKit.Hid (∃ q, wq = w1.drewN q) := by show ∃ q, _; rw [hw]; exact HD.out _ _ HW.out
        clear hw i1 i2 i3 i4 nq
        obtain ⟨i1, i2, i3, i4⟩ := HK.out wq HW1.out
        go_wp2
        go_quiet (fail)
        obtain ⟨wp, hw⟩ : ∃ wp, wp = wq.drewN nq := ⟨_, rfl⟩
        rw [← hw]
        have HW2 : RowKit.Hid (∃ q, wp = w1.drewN q) := by show ∃ q, _; rw [hw]; exact HD.out _ _ HW1.out
        clear hw i1 i2 i3 i4 nq
        go_wp2
        go_roundw
        case rel => exact ⟨k + 1, by omega, by go_num, by rw [HV.out], HW2.out⟩
        case measure => simp [intOf] <;> omega
    · obtain rfl : k = 21 := by omega
      have HK : RowKit.Hid (Below w.heap.size w wr) := by obtain ⟨q, e⟩ := HW.out; show Below _ _ _; rw [e]; exact Below.drewN' HB1.out q
      go_wp2
      go_ret
      exact ⟨rfl, HK.out⟩
end Go.Proofs.Ytgjmpjfcnibgmaa
