/- Plain facts, and what functions give, for the proofs of this seat: several texts in one, each with its own first remark. -/
import Derived.Test.YtmgfkdmjgjlkjaaGreatCp

namespace Go.Proofs.YtmgfkdmjgjlkjaaGreat
open Go.RowKit
set_option linter.unusedVariables false
theorem mskTold_any (n s : Int) (w : World) :
    Calls Tryz.prog 176 #[.int .i64 n, .int .i64 s] w fun e w' => e = .returned (.bool (decide (s < n))) ∧ w = w' := by
  go_enter Tryz.func176, Tryz.ntmps176
  go_wp2
  go_ret
  exact ⟨rfl, rfl⟩
theorem mskOne_any (n s : Nat) (w : World) (hn : n ≤ 26) (hs : s ≤ 26) :
    Calls Tryz.prog 142 #[.int .i64 (n : Int), .int .i64 (s : Int)] w fun e w' => e = .returned (.int .i64 (oneF n s)) ∧ w = w' := by
  by_cases h : s < n
  · have HE : RowKit.Hid (oneF n s = 2 ^ s) := by show _ = _; rw [oneF_told (by omega)]; rfl
    have HT : RowKit.Hid (decide ((s : Int) < (n : Int)) = true) := by show _ = _; simp; omega
    obtain ⟨p0, p1⟩ := pow_bd27 (k := s) (by omega)
    have g1 : IntKind.i64.wrap (2 ^ s) = 2 ^ s := IntWalk.i64_in _ (by omega)
    clear h
    go_enter Tryz.func142, Tryz.ntmps142
    go_wp2_with (go_at_call 176; refine (mskTold_any _ _ _).mono ?_; rintro e w' ⟨rfl, rfl⟩; rw [HT.out])
    go_ret
    exact ⟨ret_int (by rw [HE.out]), rfl⟩
  · have HE : RowKit.Hid (oneF n s = 2 ^ (n + 1)) := by show _ = _; rw [oneF_not (by omega)]; rfl
    have HT : RowKit.Hid (decide ((s : Int) < (n : Int)) = false) := by show _ = _; simp; omega
    obtain ⟨m, hm⟩ : ∃ m, m = n + 1 := ⟨_, rfl⟩
    obtain ⟨p0, p1⟩ := pow_bd27 (k := m) (by omega)
    have g1 : IntKind.i64.wrap (2 ^ m) = 2 ^ m := IntWalk.i64_in _ (by omega)
    have g2 : (n : Int) + 1 = (m : Int) := by omega
    rw [← hm] at HE
    have hm27 : m ≤ 27 := by omega
    clear h hm
    go_enter Tryz.func142, Tryz.ntmps142
    go_wp2_with (go_at_call 176; refine (mskTold_any _ _ _).mono ?_; rintro e w' ⟨rfl, rfl⟩; rw [HT.out])
    go_ret
    exact ⟨ret_int (by rw [HE.out]), rfl⟩
theorem mskOne_int (n s : Int) (w : World) (n0 : 0 ≤ n) (n1 : n ≤ 26) (s0 : 0 ≤ s) (s1 : s ≤ 26) :
    Calls Tryz.prog 142 #[.int .i64 n, .int .i64 s] w fun e w' => e = .returned (.int .i64 (oneF n s)) ∧ w' = w := by
  obtain ⟨m, rfl⟩ := Int.eq_ofNat_of_zero_le n0
  obtain ⟨j, rfl⟩ := Int.eq_ofNat_of_zero_le s0
  exact (mskOne_any m j w (by omega) (by omega)).mono fun _ _ h => ⟨h.1, h.2.symm⟩
theorem mskReach_any (a a2 : Option Addr) (cap cap2 : Nat) (zs ss : List Int) (w : World) (h : IntsAt w w.heap.size .i64 a 21 zs) (h2 : IntsAt w w.heap.size .i64 a2 21 ss) (hr : rightB zs = true) (hs : rightB ss = true) :
    Calls Tryz.prog 102 #[.slice a 21 cap, .slice a2 21 cap2] w fun e w' => e = .returned (.tuple #[.int .i64 (reachTo (fun j => zs.getD j 0) (fun j => ss.getD j 0) 21), .int .i64 0]) ∧ Below w.heap.size w w' := by
  have H0 := Lib.hid h
  have H2 := Lib.hid h2
  have HZb := Lib.hid (rightB_true hr).2
  have HSb := Lib.hid (rightB_true hs).2
  obtain ⟨T, hT⟩ : ∃ T, T = reachTo (fun j => zs.getD j 0) (fun j => ss.getD j 0) := ⟨_, rfl⟩
  have HB : RowKit.Hid (∀ n, n ≤ 21 → 0 ≤ T n ∧ T n ≤ 68719476736 * n) := fun n hn => by rw [hT]; exact reachTo_bd n hn fun j hj => ⟨(HZb.out j (by omega)).2, (HSb.out j (by omega)).2⟩
  have HS : RowKit.Hid (∀ n, T (n + 1) = T n + ((edgeK (n + 1) : Int) - edgeK n) * oneF (zs.getD n 0) (ss.getD n 0)) := fun n => by rw [hT]; rfl
  have HZ : RowKit.Hid (T 0 = 0) := by show _ = _; rw [hT]; rfl
  have HF1 := Lib.hid (engRight_any a 21 cap zs w H0.out (by decide))
  have HF2 := Lib.hid (engRight_any a2 21 cap2 ss w H2.out (by decide))
  rw [hr] at HF1
  rw [hs] at HF2
  rw [← hT]
  clear h h2 hr hs hT
  have HO := Lib.hid (rfl : (0 : Int) = 0)
  go_enter Tryz.func102, Tryz.ntmps102
  go_wp2_with (first
    | (go_at_call 128; have hq := HO.out; clear hq HO; refine HF1.out.mono ?_; rintro e w' ⟨rfl, rfl⟩)
    | (go_at_call 128; refine HF2.out.mono ?_; rintro e w' ⟨rfl, rfl⟩)
    | (go_at_call 126; go_loud (refine (bandsEdges_any _).mono ?_); rintro e w1 ⟨ea, ec, rfl, hi, hbl⟩; obtain ⟨eb, eo, rfl⟩ := ints_some hi (by decide); have HE1 := Lib.hid hi; have HB1 := Lib.hid hbl; clear hi hbl))
  have HL0 : RowKit.Hid (IntsAt w1 w1.heap.size .i64 a 21 zs) := H0.out.now HB1.out (Nat.le_refl _)
  have HL2 : RowKit.Hid (IntsAt w1 w1.heap.size .i64 a2 21 ss) := H2.out.now HB1.out (Nat.le_refl _)
  have HE : RowKit.Hid (∀ k, k < 22 → w1.cell? ⟨eb, eo + k, none⟩ = some (.int .i64 (edgeK k : Int))) := fun k hk => edges_at HE1.out hk
  clear HE1 HF1 HF2
  go_loopw [7, 21] (fun m i wr => ∃ k : Nat, k ≤ 21 ∧ i = .int .i64 (k : Int) ∧ m = .int .i64 (T k) ∧ RowKit.Hid (∃ q, wr = w1.drewN q)) (fun _ i _ => 21 - (intOf i).toNat)
  case atStart => exact ⟨0, by omega, rfl, by rw [HZ.out], 0, rfl⟩
  case round =>
    obtain ⟨k, hk, rfl, rfl, HW⟩ := hrel
    by_cases hlt : k < 21
    · obtain ⟨b, off, rfl, _, _, c1⟩ := HL0.out.at_ hlt
      obtain ⟨b2, off2, rfl, _, _, c2⟩ := HL2.out.at_ hlt
      have k1 : wr.cell? ⟨b, off + k, none⟩ = some (.int .i64 (zs.getD k 0)) := by obtain ⟨q, e⟩ := HW.out; rw [e]; exact c1
      have k2 : wr.cell? ⟨b2, off2 + k, none⟩ = some (.int .i64 (ss.getD k 0)) := by obtain ⟨q, e⟩ := HW.out; rw [e]; exact c2
      have k3 : wr.cell? ⟨eb, eo + k, none⟩ = some (.int .i64 (edgeK k : Int)) := by obtain ⟨q, e⟩ := HW.out; rw [e]; exact HE.out k (by omega)
      have k4 : wr.cell? ⟨eb, eo + (k + 1), none⟩ = some (.int .i64 (edgeK (k + 1) : Int)) := by obtain ⟨q, e⟩ := HW.out; rw [e]; exact HE.out (k + 1) (by omega)
      have HN : RowKit.Hid (∀ nq, ∃ q, wr.drewN nq = w1.drewN q) := fun nq => by obtain ⟨q, e⟩ := HW.out; exact ⟨q + nq, by rw [e, drewE_add]⟩
      clear c1 c2
      obtain ⟨e1, e2⟩ := edgeK_lt k hlt
      obtain ⟨n0, n1⟩ := HZb.out k hlt
      obtain ⟨s0, s1⟩ := HSb.out k hlt
      obtain ⟨t0, t1⟩ := HB.out k (by omega)
      have HV := Lib.hid (HS.out k)
      have HQ := Lib.hid fun i => mskOne_int (zs.getD k 0) (ss.getD k 0) (wr.drewN i) n0 n1 s0 s1
      obtain ⟨y0, y1⟩ := oneF_bd (n := zs.getD k 0) (s := ss.getD k 0) n1 s1
      generalize oneF (zs.getD k 0) (ss.getD k 0) = y at HV HQ y0 y1
      generalize zs.getD k 0 = n at k1 n0 n1 HQ
      generalize ss.getD k 0 = s at k2 s0 s1 HQ
      generalize edgeK (k + 1) = E1 at k4 e1 e2 HV
      generalize edgeK k = E0 at k3 e1 HV
      obtain ⟨D, hD⟩ : ∃ D, D = (E1 : Int) - E0 := ⟨_, rfl⟩
      rw [← hD] at HV
      have d1 : (E1 : Int) - E0 = D := hD.symm
      have p0 : 0 ≤ D * y := Int.mul_nonneg (by omega) (by omega)
      have p1 : D * y ≤ 512 * 134217728 := Int.mul_le_mul (by omega) y1 (by omega) (by decide)
      obtain ⟨P, hP⟩ : ∃ P, P = D * y := ⟨_, rfl⟩
      rw [← hP] at HV p0 p1
      have d2 : D * y = P := hP.symm
      have HP1 : P ≤ 68719476736 := by omega
      have ht1 : T k ≤ 1443109011456 := by omega
      have D0 : 0 ≤ D := by omega
      have D1 : D ≤ 512 := by omega
      have E1b : E1 ≤ 512 := e2
      clear hD hP p1 t1 e1 e2
      generalize T k = t at t0 ht1 HV
      have l1 : (k : Int) < 21 := by omega
      go_wp2
      go_quiet ((go_at_call 142; exact Calls.quiet_of_same (HQ.out _)))
      go_wp2
      go_roundw
      case rel => exact ⟨k + 1, by omega, by go_num, by rw [HV.out], HN.out _⟩
      case measure => simp [intOf] <;> omega
    · obtain rfl : k = 21 := by omega
      have HK : RowKit.Hid (Below w.heap.size w wr) := by obtain ⟨q, e⟩ := HW.out; show Below _ _ _; rw [e]; exact Below.drewN' HB1.out q
      go_wp2
      go_ret2
      exact ⟨rfl, HK.out⟩
end Go.Proofs.YtmgfkdmjgjlkjaaGreat

namespace Go.Proofs.YtmgfkdmjgjlkjaaGreat
open Go.RowKit
set_option linter.unusedVariables false
theorem part_new (w : World) (a b n s : Int) : Below w.heap.size w (w.alloc (.cells #[.int .i64 a, .int .i64 b, .int .i64 n, .int .i64 s] 221)) := Below.alloc_new w _
theorem qTold_any (a b n s : Int) (w : World) :
    Calls Tryz.prog 165 #[.agg #[.int .i64 a, .int .i64 b, .int .i64 n, .int .i64 s]] w fun e w' => e = .returned (.bool (decide (s < n))) ∧ Below w.heap.size w w' := by
  have HB := Lib.hid (part_new w a b n s)
  go_enter Tryz.func165, Tryz.ntmps165
  go_wp2_with (go_at_call 176; refine (mskTold_any _ _ _).mono ?_; rintro e1 w5 ⟨rfl, rfl⟩)
  go_ret
  exact ⟨rfl, HB.out⟩
theorem qWide_any (a b n s : Int) (k : Nat) (w : World) (hk : n - s = k) (h : k ≤ 1000) :
    Calls Tryz.prog 170 #[.agg #[.int .i64 a, .int .i64 b, .int .i64 n, .int .i64 s]] w fun e w' => e = .returned (.int .i64 (k : Int)) ∧ Below w.heap.size w w' := by
  have HB := Lib.hid (part_new w a b n s)
  have u1 : IntKind.i64.wrap (n - s) = (k : Int) := by rw [hk]; exact IntWalk.i64_in _ (by omega)
  clear hk
  go_enter Tryz.func170, Tryz.ntmps170
  go_wp2
  go_ret
  exact ⟨rfl, HB.out⟩
theorem qLine_any (a b n q y : Int) (s : Nat) (w : World) (hs : s ≤ 26) (hy : q * P2 s = y) (y0 : -2147483648 ≤ y) (y1 : y ≤ 2147483647) :
    Calls Tryz.prog 169 #[.agg #[.int .i64 a, .int .i64 b, .int .i64 n, .int .i64 (s : Int)], .int .i32 q] w fun e w' => e = .returned (.int .i32 y) ∧ Below w.heap.size w w' := by
  have HB := Lib.hid (part_new w a b n s)
  have u1 : IntKind.i32.wrap (q * 2 ^ s) = y := by rw [pow_P2, hy]; exact IntWalk.i32_in _ (by omega)
  clear hy
  go_enter Tryz.func169, Tryz.ntmps169
  go_wp2
  go_ret
  exact ⟨rfl, HB.out⟩
set_option maxRecDepth 100000 in
theorem qNumber_any (a b n s x : Int) (w : World) (s0 : 0 ≤ s) (s1 : s ≤ 62) (h : s < n) (h2 : n - s ≤ 12) (x0 : -2147483648 ≤ x) (x1 : x ≤ 2147483647) :
    Calls Tryz.prog 138 #[.agg #[.int .i64 a, .int .i64 b, .int .i64 n, .int .i64 s], .int .i32 x] w fun e w' => e = .returned (.int .i32 (numQ x s n)) ∧ Below w.heap.size w w' := by
  obtain ⟨k, hk⟩ : ∃ k : Nat, n - s = k := ⟨(n - s).toNat, by omega⟩
  have hk12 : k ≤ 12 := by omega
  have p0 := P2_pos k
  have p1 := P2_12 (k := k) (by omega)
  have hkn : (n - s).toNat = k := by omega
  obtain ⟨z, hz⟩ : ∃ z, z = rndP x s := ⟨_, rfl⟩
  have HE : RowKit.Hid (numQ x s n = max (-(P2 k - 1)) (min z (P2 k - 1))) := by show _ = _; unfold numQ; rw [hkn, hz]
  have HR := Lib.hid hz
  have hz64 := rndP_bd (n := x) (b := s) (by omega) (by omega)
  rw [← hz] at hz64
  have HB := Lib.hid (part_new w a b n s)
  have HK := Lib.hid hk
  have HW : RowKit.Hid (∀ wx, Calls Tryz.prog 172 #[.int .i32 x] wx fun e w' => e = .returned (.int .i64 x) ∧ w' = wx) := fun wx => (wide32_any x wx x0 x1).mono fun _ _ h => ⟨h.1, h.2.symm⟩
  have HRd : RowKit.Hid (∀ wx, Calls Tryz.prog 171 #[.int .i64 x, .int .i64 s] wx fun e w' => e = .returned (.int .i64 z) ∧ w' = wx) := fun wx => (round_any x s wx (by omega) (by omega)).mono fun _ _ h => ⟨by rw [HR.out]; exact h.1, h.2.symm⟩
  have hp : (2 : Int) ^ k = P2 k := rfl
  generalize P2 k = m at HE p0 p1 hp
  have u1 : IntKind.i64.wrap (2 ^ k) = m := by rw [hp]; exact IntWalk.i64_in _ (by omega)
  have u3 : IntKind.i64.wrap (-(m - 1)) = -(m - 1) := IntWalk.i64_in _ (by omega)
  have u2 : IntKind.i64.wrap (m - 1) = m - 1 := IntWalk.i64_in _ (by omega)
  obtain ⟨v, hv⟩ : ∃ v, v = max (-(m - 1)) (min z (m - 1)) := ⟨_, rfl⟩
  rw [← hv] at HE
  have u4 : IntKind.i32.wrap v = v := IntWalk.i32_in _ (by omega)
  rw [HE.out]
  clear hz hkn hk HR hp
  go_enter Tryz.func138, Tryz.ntmps138
  go_wp2_with (go_at_call 170; go_loud (refine (qWide_any a b n s k _ HK.out (by omega)).mono ?_); rintro e1 w5 ⟨rfl, hb⟩; have hbb := HB.out.trans (hb.mono HB.out.size); have HB5 := Lib.hid hbb; have c3 := (Cel.new w 221 #[.int .i64 a, .int .i64 b, .int .i64 n, .int .i64 s]).below hb; have hs3 := c3.cell 3; simp only [List.getElem?_toArray, List.getElem?_cons_zero, List.getElem?_cons_succ] at hs3; clear hb hbb c3)
  go_quiet (first | (go_at_call 172; exact Calls.quiet_of_same (HW.out _)) | (go_at_call 171; exact Calls.quiet_of_same (HRd.out _)))
  go_wp2
  all_goals
    go_ret
    exact ⟨ret_int (by omega), Below.drewN' HB5.out _⟩
def mayQ (zs ss : List Int) : Bool := rightB zs && rightB ss && (List.range 21).all fun j => decide (zs.getD j 0 - ss.getD j 0 ≤ 12)
theorem mayQ_true {zs ss : List Int} (h : mayQ zs ss = true) : rightB zs = true ∧ rightB ss = true ∧ ∀ j, j < 21 → zs.getD j 0 - ss.getD j 0 ≤ 12 := by
  unfold mayQ at h
  rw [Bool.and_eq_true, Bool.and_eq_true, List.all_eq_true] at h
  exact ⟨h.1.1, h.1.2, fun j hj => by simpa using h.2 j (List.mem_range.2 hj)⟩
theorem mayQ_of {zs ss : List Int} (h1 : rightB zs = true) (h2 : rightB ss = true) (h3 : ∀ j, j < 21 → zs.getD j 0 - ss.getD j 0 ≤ 12) : mayQ zs ss = true := by
  unfold mayQ
  rw [Bool.and_eq_true, Bool.and_eq_true, List.all_eq_true]
  exact ⟨⟨h1, h2⟩, fun j hj => by simpa using h3 j (List.mem_range.1 hj)⟩
theorem mayQ_no1 {zs ss : List Int} (h : rightB zs = false) : mayQ zs ss = false := by unfold mayQ; simp [h]
theorem mayQ_no2 {zs ss : List Int} (h : rightB ss = false) : mayQ zs ss = false := by unfold mayQ; simp [h]
theorem mayQ_at {zs ss : List Int} {j : Nat} (hj : j < 21) (h : 12 < zs.getD j 0 - ss.getD j 0) : mayQ zs ss = false := by
  cases hm : mayQ zs ss with
  | false => rfl
  | true => have := (mayQ_true hm).2.2 j hj; omega
set_option maxRecDepth 100000 in
theorem qMay_any (a a2 : Option Addr) (len cap len2 cap2 : Nat) (zs ss : List Int) (w : World) (h : IntsAt w w.heap.size .i64 a len zs) (hm : len ≤ 9223372036854775807) (h2 : IntsAt w w.heap.size .i64 a2 len2 ss) (hm2 : len2 ≤ 9223372036854775807) :
    Calls Tryz.prog 135 #[.slice a len cap, .slice a2 len2 cap2] w fun e w' => e = .returned (.bool (mayQ zs ss)) ∧ w = w' := by
  have H1 := Lib.hid h
  have H2 := Lib.hid h2
  have hl1 := h.1
  have hl2 := h2.1
  clear h h2
  cases hr1 : rightB zs with
  | false =>
    have HE := Lib.hid (mayQ_no1 (ss := ss) hr1)
    have HR1 := Lib.hid hr1
    rw [HE.out]
    clear hr1 HE
    go_enter Tryz.func135, Tryz.ntmps135
    go_wp2_with (go_at_call 128; go_loud (refine (engRight_any _ _ _ _ w (by first | (with_reducible exact H1.out) | (with_reducible exact H2.out)) (by omega)).mono ?_); rintro e1 w5 ⟨rfl, rfl⟩; first | rw [HR1.out] | rw [HR2.out])
    go_ret
    exact ⟨rfl, rfl⟩
  | true =>
    cases hr2 : rightB ss with
    | false =>
      have HE := Lib.hid (mayQ_no2 (zs := zs) hr2)
      have HR1 := Lib.hid hr1
      have HR2 := Lib.hid hr2
      rw [HE.out]
      clear hr1 hr2 HE
      go_enter Tryz.func135, Tryz.ntmps135
      go_wp2_with (go_at_call 128; go_loud (refine (engRight_any _ _ _ _ w (by first | (with_reducible exact H1.out) | (with_reducible exact H2.out)) (by omega)).mono ?_); rintro e1 w5 ⟨rfl, rfl⟩; first | rw [HR1.out] | rw [HR2.out])
      go_ret
      exact ⟨rfl, rfl⟩
    | true =>
      have HB1 := Lib.hid (rightB_true hr1).2
      have HB2 := Lib.hid (rightB_true hr2).2
      have e1 := (rightB_true hr1).1
      have e2 := (rightB_true hr2).1
      obtain rfl : len = 21 := by omega
      obtain rfl : len2 = 21 := by omega
      obtain ⟨R, hR⟩ : ∃ R, R = mayQ zs ss := ⟨_, rfl⟩
      have HNo : RowKit.Hid (∀ j, j < 21 → 12 < zs.getD j 0 - ss.getD j 0 → R = false) := fun j hj hx => by rw [hR]; exact mayQ_at hj hx
      have HYes : RowKit.Hid ((∀ j, j < 21 → zs.getD j 0 - ss.getD j 0 ≤ 12) → R = true) := fun hx => by rw [hR]; exact mayQ_of hr1 hr2 hx
      rw [← hR]
      have HR1 := Lib.hid hr1
      have HR2 := Lib.hid hr2
      clear hr1 hr2 hR hl1 hl2 e1 e2
      go_enter Tryz.func135, Tryz.ntmps135
      go_wp2_with (go_at_call 128; go_loud (refine (engRight_any _ _ _ _ w (by first | (with_reducible exact H1.out) | (with_reducible exact H2.out)) (by omega)).mono ?_); rintro e1 w5 ⟨rfl, rfl⟩; first | rw [HR1.out] | rw [HR2.out])
      go_loop [5, 6, 17] (fun _ _ i => ∃ k : Nat, k ≤ 21 ∧ i = .int .i64 (k : Int) ∧ RowKit.Hid (∀ j, j < k → zs.getD j 0 - ss.getD j 0 ≤ 12)) (fun _ _ i => 21 - (intOf i).toNat)
      case atStart => exact ⟨0, by omega, rfl, fun j hj => by omega⟩
      case round =>
        obtain ⟨k, hk, rfl, HP⟩ := hrel
        by_cases hlt : k < 21
        · obtain ⟨b, off, rfl, _, _, hcell⟩ := H1.out.at_ hlt
          obtain ⟨b2, off2, rfl, _, _, hcell2⟩ := H2.out.at_ hlt
          obtain ⟨x0, x1⟩ := HB1.out k hlt
          obtain ⟨y0, y1⟩ := HB2.out k hlt
          have HN := Lib.hid (HNo.out k hlt)
          have HY : RowKit.Hid (zs.getD k 0 - ss.getD k 0 ≤ 12 → ∀ j, j < k + 1 → zs.getD j 0 - ss.getD j 0 ≤ 12) := fun c j hj => by
            by_cases e : j = k
            · rw [e]; exact c
            · exact HP.out j (by omega)
          generalize zs.getD k 0 = x at hcell x0 x1 HN HY
          generalize ss.getD k 0 = y at hcell2 y0 y1 HN HY
          have u1 : IntKind.i64.wrap (x - y) = x - y := IntWalk.i64_in _ (by omega)
          by_cases c : 12 < x - y
          · have HF := Lib.hid (HN.out c)
            go_wp2
            go_ret
            exact ⟨ret_bool HF.out.symm, rfl⟩
          · have HT := Lib.hid (HY.out (by omega))
            go_wp2
            go_round
            case rel => exact ⟨k + 1, by omega, by go_num, HT.out⟩
            case measure => simp [intOf] <;> omega
        · obtain rfl : k = 21 := by omega
          have HF := Lib.hid (HYes.out HP.out)
          go_wp2
          go_ret
          exact ⟨ret_bool HF.out.symm, rfl⟩
theorem qSizes_any (w : World) :
    Calls Tryz.prog 163 #[] w fun e w' => ∃ g, e = .returned (.pointer (some ⟨g, 0, none⟩)) ∧ w.heap.size ≤ g ∧ ModAt w' g (List.replicate 13 1) false ∧ Below w.heap.size w w' := by
  obtain ⟨L, hL⟩ : ∃ L : List Int, L = List.replicate 13 1 := ⟨_, rfl⟩
  have HC : RowKit.Hid (Calls Tryz.prog 191 #[.int .i64 13] w fun e w' => ∃ g, e = .returned (.tuple #[.pointer (some ⟨g, 0, none⟩), .int .i64 0]) ∧ w.heap.size ≤ g ∧ ModAt w' g L false ∧ Below w.heap.size w w') := by rw [hL]; exact modNew_any 13 w (by decide) (by decide)
  rw [← hL]
  clear hL
  go_enter Tryz.func163, Tryz.ntmps163
  go_wp2_with (go_at_call 191; refine HC.out.mono ?_; rintro e1 w1 ⟨g, rfl, hg, hm, hb⟩; have HM := Lib.hid hm; have HB := Lib.hid hb; have HG := Lib.hid hg; clear hm hb hg)
  go_ret
  exact ⟨g, rfl, HG.out, HM.out, HB.out⟩
set_option maxRecDepth 100000 in
theorem qNoise_any (seed line n : Int) (w : World) (s0 : 0 ≤ seed) (s1 : seed ≤ 4294967295) (n0 : -9223372036854775808 ≤ n) (n1 : n ≤ 9223372036854775807) :
    Calls Tryz.prog 168 #[.int .u32 seed, .int .i64 line, .int .i64 n] w fun e w' => e = .returned (.int .i32 (noiseP seed line n)) ∧ w = w' := by
  by_cases h1 : n < 3
  · have HE : RowKit.Hid (noiseP seed line n = 0) := by show _ = _; rw [noiseP_in _ _ (by omega)]; exact noiseR_none _ _ h1
    rw [HE.out]
    go_enter Tryz.func168, Tryz.ntmps168
    go_wp2
    go_ret
    exact ⟨rfl, rfl⟩
  · by_cases h2 : 26 < n
    · have HE : RowKit.Hid (noiseP seed line n = 0) := if_pos h2
      rw [HE.out]
      go_enter Tryz.func168, Tryz.ntmps168
      go_wp2
      go_ret
      exact ⟨rfl, rfl⟩
    · obtain ⟨k, hk⟩ : ∃ k : Nat, n - 2 = k := ⟨(n - 2).toNat, by omega⟩
      have hk24 : k ≤ 24 := by omega
      have p0 := P2_pos k
      have p1 := P2_mono (a := k) (b := 24) hk24
      rw [show P2 24 = 16777216 by decide] at p1
      obtain ⟨m0, m1⟩ := mixW_bd seed line
      have HE : RowKit.Hid (noiseP seed line n = if mixW seed line / 2147483648 = 1 then -(P2 k) else P2 k) := by show _ = _; rw [noiseP_in _ _ (by omega), noiseR_some _ _ (by omega)]; rw [show (n - 2).toNat = k by omega]
      have hmix : (seed * 2654435761 + line % 4294967296 * 40503 + 12345) % 4294967296 * 1664525 % 4294967296 = mixW seed line := rfl
      have hp : (2 : Int) ^ k = P2 k := rfl
      generalize mixW seed line = M at HE m0 m1 hmix
      generalize P2 k = p at HE p0 p1 hp
      have u1 : IntKind.i64.wrap (n - 2) = (k : Int) := by rw [hk]; exact IntWalk.i64_in _ (by omega)
      have u2 : IntKind.i32.wrap (2 ^ k) = p := by rw [hp]; exact IntWalk.i32_in _ (by omega)
      have u3 : IntKind.i32.wrap (-p) = -p := IntWalk.i32_in _ (by omega)
      generalize noiseP seed line n = y at HE ⊢
      clear hk hp
      go_enter Tryz.func168, Tryz.ntmps168
      go_wp2
      all_goals
        rename_i hc
        go_ret
        refine ⟨ret_int ?_, rfl⟩
        rw [HE.out]
        simp at hc
        first | rw [if_pos hc] | rw [if_neg hc]
end Go.Proofs.YtmgfkdmjgjlkjaaGreat

namespace Go.Proofs.YtmgfkdmjgjlkjaaGreat
open Go.RowKit
set_option linter.unusedVariables false
def partF (c s : Nat → Int) (k : Nat) : Int := if k % 4 = 0 then (edgeK (k / 4) : Int) else if k % 4 = 1 then (edgeK (k / 4 + 1) : Int) else if k % 4 = 2 then c (k / 4) else s (k / 4)
theorem partF_0 (c s : Nat → Int) (b : Nat) : partF c s (b * 4) = (edgeK b : Int) := by unfold partF; rw [if_pos (by omega), show b * 4 / 4 = b by omega]
theorem partF_1 (c s : Nat → Int) (b : Nat) : partF c s (b * 4 + 1) = (edgeK (b + 1) : Int) := by unfold partF; rw [if_neg (by omega), if_pos (by omega), show (b * 4 + 1) / 4 = b by omega]
theorem partF_2 (c s : Nat → Int) (b : Nat) : partF c s (b * 4 + 2) = c b := by unfold partF; rw [if_neg (by omega), if_neg (by omega), if_pos (by omega), show (b * 4 + 2) / 4 = b by omega]
theorem partF_3 (c s : Nat → Int) (b : Nat) : partF c s (b * 4 + 3) = s b := by unfold partF; rw [if_neg (by omega), if_neg (by omega), if_neg (by omega), show (b * 4 + 3) / 4 = b by omega]
theorem infoQ_part : (Tryz.prog.info? 221).map (fun i => (i.zero, i.size, i.bytes)) = some (some (.agg #[.int .i64 0, .int .i64 0, .int .i64 0, .int .i64 0]), 4, 32) := by kernel_rfl
theorem made_four (z : Value) (n : Nat) : madeCells #[z, z, z, z] n = madeCells #[z] n := by
  apply Array.ext'
  rw [toList_madeCells_one]
  apply List.ext_getElem?
  intro j
  by_cases hj : j < n
  · rcases (show j % 4 = 0 ∨ j % 4 = 1 ∨ j % 4 = 2 ∨ j % 4 = 3 by omega) with h | h | h | h <;> simp [madeCells, hj, h]
  · simp [madeCells, hj]
theorem make_parts (w : World) : (Instr.makeSlice 248 (.int .i64 21) (.int .i64 21)).run Tryz.prog w = .ok (.slice (some ⟨w.heap.size, 0, none⟩) 21 21) (w.alloc (.cells (madeCells #[.int .i64 0] 84) 221)) := by
  obtain ⟨i, h1, h2, h3, h4⟩ := info_parts infoQ_part
  have hr := run_make (P := Tryz.prog) w 248 221 i _ Tryz.underlying248 h1 h2 .i64 .i64 21 21 (by omega) (Int.le_refl _) (by rw [h4]; decide) (by decide)
  rw [hr, h3]
  simp [Value.cells, made_four]
theorem parts_next {w : World} {g k : Nat} {F : Nat → Int} (h : IFun w g 221 .i64 84 (preF F (k * 4))) (hk : k < 21) :
    IFun ((((w.setCell ⟨g, k * 4, none⟩ (.int .i64 (F (k * 4)))).setCell ⟨g, k * 4 + 1, none⟩ (.int .i64 (F (k * 4 + 1)))).setCell ⟨g, k * 4 + 2, none⟩ (.int .i64 (F (k * 4 + 2)))).setCell ⟨g, k * 4 + 3, none⟩ (.int .i64 (F (k * 4 + 3)))) g 221 .i64 84 (preF F ((k + 1) * 4)) := by
  refine IFun.ext ((((h.set (j := k * 4) (by omega) _).set (j := k * 4 + 1) (by omega) _).set (j := k * 4 + 2) (by omega) _).set (j := k * 4 + 3) (by omega) _) fun i _ => ?_
  rw [show (k + 1) * 4 = k * 4 + 1 + 1 + 1 + 1 by omega, ← preF_next, ← preF_next, ← preF_next, ← preF_next]
set_option maxHeartbeats 400000 in
set_option maxRecDepth 100000 in
theorem qParts_any (a a2 : Option Addr) (cap cap2 : Nat) (zs ss : List Int) (w : World) (h : IntsAt w w.heap.size .i64 a 21 zs) (h2 : IntsAt w w.heap.size .i64 a2 21 ss) :
    Calls Tryz.prog 164 #[.slice a 21 cap, .slice a2 21 cap2] w fun e w' =>
      ∃ g, e = .returned (.slice (some ⟨g, 0, none⟩) 21 21) ∧ IFun w' g 221 .i64 84 (partF (fun j => zs.getD j 0) (fun j => ss.getD j 0)) ∧ w.heap.size ≤ g ∧ Below w.heap.size w w' := by
  have HI := Lib.hid h
  have HI2 := Lib.hid h2
  have hmk := make_parts
  obtain ⟨F, hF⟩ : ∃ F, F = partF (fun j => zs.getD j 0) (fun j => ss.getD j 0) := ⟨_, rfl⟩
  have HF : RowKit.Hid (∀ b, F (b * 4) = (edgeK b : Int) ∧ F (b * 4 + 1) = (edgeK (b + 1) : Int) ∧ F (b * 4 + 2) = zs.getD b 0 ∧ F (b * 4 + 3) = ss.getD b 0) := fun b => by rw [hF]; exact ⟨partF_0 _ _ _, partF_1 _ _ _, partF_2 _ _ _, partF_3 _ _ _⟩
  rw [← hF]
  have HZ : RowKit.Hid (∀ wx : World, IFun (wx.alloc (.cells (madeCells #[.int .i64 0] 84) 221)) wx.heap.size 221 .i64 84 (preF F (0 * 4))) := fun wx => IFun.ext (IFun.zeros wx 221 .i64 84) fun j _ => (preF_zero F j).symm
  generalize madeCells #[.int .i64 0] 84 = mc at HZ hmk
  clear h h2 hF
  go_enter Tryz.func164, Tryz.ntmps164
  go_wp2_with (go_at_call 126; go_loud (refine (bandsEdges_any w).mono ?_); rintro e w1 ⟨ea, ec, rfl, he, hb⟩; have HE := Lib.hid he; have HB := Lib.hid hb; clear he hb)
  clear hmk
  have H0 : RowKit.Hid (IFun (w1.alloc (.cells mc 221)) w1.heap.size 221 .i64 84 (preF F (0 * 4)) ∧ Below w.heap.size w (w1.alloc (.cells mc 221)) ∧ Below w1.heap.size w1 (w1.alloc (.cells mc 221))) := ⟨HZ.out w1, HB.out.alloc HB.out.size _, Below.alloc_new w1 _⟩
  generalize (w1.alloc (.cells mc 221)) = w2 at H0 ⊢
  have HS1 := Lib.hid HB.out.size
  clear HZ HB
  obtain ⟨g, hg⟩ : ∃ g, g = w1.heap.size := ⟨_, rfl⟩
  rw [← hg] at H0 HE HS1 ⊢
  clear hg
  go_loopw [7, 8, 13] (fun _ _ i wr => ∃ k : Nat, k ≤ 21 ∧ i = .int .i64 (k : Int) ∧ RowKit.Hid (IFun wr g 221 .i64 84 (preF F (k * 4)) ∧ Below w.heap.size w wr ∧ Below g w1 wr)) (fun _ _ i _ => 21 - (intOf i).toNat)
  case atStart => exact ⟨0, by omega, rfl, H0.out⟩
  case round =>
    obtain ⟨k, hk, rfl, H⟩ := hrel
    clear H0
    by_cases hlt : k < 21
    · obtain ⟨b, off, rfl, hbl, _, hcell⟩ := HI.out.at_ hlt
      obtain ⟨b2, off2, rfl, hbl2, _, hcell2⟩ := HI2.out.at_ hlt
      have k1 := (H.out.2.1.cell (p := ⟨b, off + k, none⟩) hbl).trans hcell
      have k2 := (H.out.2.1.cell (p := ⟨b2, off2 + k, none⟩) hbl2).trans hcell2
      have HEr := Lib.hid (HE.out.below H.out.2.2)
      obtain ⟨eb, eo, rfl, hebl, _, _⟩ := HEr.out.at_ (j := 0) (by decide)
      have e1 := edges_at HEr.out (k := k) (by omega)
      have e2 := edges_at HEr.out (k := k + 1) (by omega)
      obtain ⟨f0, f1, f2, f3⟩ := HF.out k
      have HS := Lib.hid (parts_next H.out.1 hlt)
      rw [f0, f1, f2, f3] at HS
      have o0 := H.out.1.cell (j := k * 4) (by omega)
      have o1 := H.out.1.cell (j := k * 4 + 1) (by omega)
      have o2 := H.out.1.cell (j := k * 4 + 2) (by omega)
      have o3 := H.out.1.cell (j := k * 4 + 3) (by omega)
      have z0 := H.out.1.frozen (k * 4)
      have z1 := H.out.1.frozen (k * 4 + 1)
      have z2 := H.out.1.frozen (k * 4 + 2)
      have z3 := H.out.1.frozen (k * 4 + 3)
      generalize preF F (k * 4) (k * 4) = y0 at o0
      generalize preF F (k * 4) (k * 4 + 1) = y1 at o1
      generalize preF F (k * 4) (k * 4 + 2) = y2 at o2
      generalize preF F (k * 4) (k * 4 + 3) = y3 at o3
      clear f0 f1 f2 f3 hcell hcell2
      generalize zs.getD k 0 = x at k1 HS
      generalize ss.getD k 0 = y at k2 HS
      obtain ⟨q1, q2⟩ := edgeK_lt k hlt
      generalize edgeK k = p at e1 HS q1
      generalize edgeK (k + 1) = q at e2 HS q1 q2
      have l1 : (k : Int) < 21 := by omega
      go_wp2
      go_region
      clear o0 o1 o2 o3 z0 z1 z2 z3 e1 e2 k1 k2
      have HT : RowKit.Hid (IFun ((((wr.setCell ⟨g, k * 4, none⟩ (.int .i64 (p : Int))).setCell ⟨g, k * 4 + 1, none⟩ (.int .i64 (q : Int))).setCell ⟨g, k * 4 + 2, none⟩ (.int .i64 x)).setCell ⟨g, k * 4 + 3, none⟩ (.int .i64 y)).drew g 221 .i64 84 (preF F ((k + 1) * 4)) ∧ Below w.heap.size w ((((wr.setCell ⟨g, k * 4, none⟩ (.int .i64 (p : Int))).setCell ⟨g, k * 4 + 1, none⟩ (.int .i64 (q : Int))).setCell ⟨g, k * 4 + 2, none⟩ (.int .i64 x)).setCell ⟨g, k * 4 + 3, none⟩ (.int .i64 y)).drew ∧ Below g w1 ((((wr.setCell ⟨g, k * 4, none⟩ (.int .i64 (p : Int))).setCell ⟨g, k * 4 + 1, none⟩ (.int .i64 (q : Int))).setCell ⟨g, k * 4 + 2, none⟩ (.int .i64 x)).setCell ⟨g, k * 4 + 3, none⟩ (.int .i64 y)).drew) :=
        ⟨HS.out.drewN 1, Below.drewN' ((((H.out.2.1.setCell (p := ⟨g, k * 4, none⟩) HS1.out _).setCell (p := ⟨g, k * 4 + 1, none⟩) HS1.out _).setCell (p := ⟨g, k * 4 + 2, none⟩) HS1.out _).setCell (p := ⟨g, k * 4 + 3, none⟩) HS1.out _) 1, Below.drewN' ((((H.out.2.2.setCell (p := ⟨g, k * 4, none⟩) (Nat.le_refl _) _).setCell (p := ⟨g, k * 4 + 1, none⟩) (Nat.le_refl _) _).setCell (p := ⟨g, k * 4 + 2, none⟩) (Nat.le_refl _) _).setCell (p := ⟨g, k * 4 + 3, none⟩) (Nat.le_refl _) _) 1⟩
      clear HS H
      go_wp2
      go_roundw
      case rel => exact ⟨k + 1, by omega, by go_num, HT.out⟩
      case measure => simp [intOf] <;> omega
    · obtain rfl : k = 21 := by omega
      go_wp2
      go_ret
      exact ⟨g, rfl, IFun.ext H.out.1 fun i hi => preF_end _ (by omega), HS1.out, H.out.2.1⟩
end Go.Proofs.YtmgfkdmjgjlkjaaGreat

namespace Go.Proofs.YtmgfkdmjgjlkjaaGreat
open Go.RowKit
set_option linter.unusedVariables false
theorem modFixed_ok (a : Option Addr) (len cap : Nat) (zs : List Int) (w : World) (h : IntsAt w w.heap.size .u32 a len zs) (hb : ∀ j, j < len → 0 ≤ zs.getD j 0 ∧ zs.getD j 0 ≤ 4294967295) (h0 : 1 ≤ len) (h1 : len ≤ 64) (hf : FixOk zs len) :
    Calls Tryz.prog 201 #[.slice a len cap] w fun e w' => ∃ g, e = .returned (.tuple #[.pointer (some ⟨g, 0, none⟩), .int .i64 0]) ∧ w.heap.size ≤ g ∧ ModAt w' g zs true ∧ Below w.heap.size w w' :=
  (modFixed_any a len cap zs w h hb h0 h1).mono fun e w' k => by
    obtain ⟨k1, ⟨k2, _⟩ | ⟨_, g, k3, k4, k5⟩⟩ := k
    · exact absurd hf k2
    · exact ⟨g, k3, k4, k5, k1⟩
theorem refFixed_ok (a : Option Addr) (len cap : Nat) (zs : List Int) (w : World) (h : IntsAt w w.heap.size .u32 a len zs) (hb : ∀ j, j < len → 0 ≤ zs.getD j 0 ∧ zs.getD j 0 ≤ 4294967295) (h0 : 1 ≤ len) (h1 : len ≤ 64) (hf : FixOk zs len) :
    Calls Tryz.prog 108 #[.slice a len cap] w fun e w' => ∃ g r, e = .returned (.tuple #[.pointer (some ⟨g, 0, none⟩), .bool true]) ∧ RefMod w' w.heap.size g r zs true ∧ Below w.heap.size w w' :=
  (refFixed_any a len cap zs w h hb h0 h1).mono fun e w' k => by
    obtain ⟨k1, ⟨⟨j, hj, hz⟩, _⟩ | ⟨_, g, r, k3, k4⟩⟩ := k
    · have := hf.1 j hj; omega
    · refine ⟨g, r, ?_, k4, k1⟩
      rw [k3]
      simp [hf.2]
end Go.Proofs.YtmgfkdmjgjlkjaaGreat
