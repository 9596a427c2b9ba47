/- The walks of the statements of layer 2, by the contracts of the functions that they call. -/
import Derived.Test.YtngeafkkocnjlaaLogC
import Derived.OpenShut
namespace Go.Proofs.Ytngeafkkocnjlaa
open Go.RowKit
set_option linter.unusedVariables false

theorem logP_3 : logP 3 = 511 := (logP_eq (.inr ⟨by decide, by decide, by decide, by rw [expP_q]; decide, .inr (by rw [expP_q]; decide)⟩)).symm

set_option maxRecDepth 100000 in
theorem lives02_any (w : World) : Calls Try.prog 6 #[] w fun e w' => e = .returned (.bool true) ∧ Below w.heap.size w w' := by
  have e1 := Lib.hid (show expP 256 = 2 by rw [expP_q]; decide)
  have e2 := Lib.hid (show expP 1024 = 16 by rw [expP_q]; decide)
  have e3 := Lib.hid logP_3
  have hB := Lib.hid (Below.refl w.heap.size w)
  go_enter Try.func6, Try.ntmps6
  go_wp2_with (first | (go_at_call 7; refine (logsExp_any _ _ (by omega) (by omega)).mono ?_; rintro e w1 ⟨rfl, hb⟩; replace hB := Lib.hid (chain hB.out hb); clear hb) | (go_at_call 9; refine (logsLog_any _ _ (by omega) (by omega)).mono ?_; rintro e w1 ⟨rfl, hb⟩; replace hB := Lib.hid (chain hB.out hb); clear hb) | (go_at_call 11; refine (refPowers_any _).mono ?_; rintro e w1 ⟨rfl, hrow, hb⟩; replace hB := Lib.hid (chain hB.out hb); have hr1 := Lib.hid hrow; clear hb hrow) | (go_at_call 10; refine (refLog_any _ _ _ (by omega) (by omega) hr1.out).mono ?_; rintro e w1 ⟨rfl, rfl⟩))
  go_ret
  exact ⟨ret_bool (by rw [e3.out]; decide), hB.out⟩

set_option maxRecDepth 100000 in
theorem logsPowers_law (s n : Int) (w0 : (Lit.int .i64 s).wf = true) (w1 : (Lit.int .u32 n).wf = true) (w : World) :
    Calls Try.prog 3 #[.int .i64 s, .int .u32 n] w fun e w' => e = .returned (.bool true) ∧ Below w.heap.size w w' := by
  obtain ⟨s0, s1⟩ := bounds_i64 w0
  obtain ⟨n0, n1⟩ := bounds_u32 w1
  clear w0 w1
  have hB := Lib.hid (Below.refl w.heap.size w)
  obtain ⟨t0, t1⟩ := tmod_bd (n := s) (d := 8300) (by decide)
  go_enter Try.func3, Try.ntmps3
  go_wp2_with (first | (go_at_call 6; refine (lives02_any _).mono ?_; rintro e w1 ⟨rfl, hb⟩; replace hB := Lib.hid (chain hB.out hb); clear hb) | (go_at_call 7; refine (logsExp_any _ _ (by omega) (by omega)).mono ?_; rintro e w1 ⟨rfl, hb⟩; replace hB := Lib.hid (chain hB.out hb); clear hb) | (go_at_call 8; refine (refExp_any _ _ (by omega) (by omega)).mono ?_; rintro e w1 ⟨rfl, hb⟩; replace hB := Lib.hid (chain hB.out hb); clear hb) | (go_at_call 9; refine (logsLog_any _ _ (by omega) (by omega)).mono ?_; rintro e w1 ⟨rfl, hb⟩; replace hB := Lib.hid (chain hB.out hb); clear hb) | (go_at_call 11; refine (refPowers_any _).mono ?_; rintro e w1 ⟨rfl, hrow, hb⟩; replace hB := Lib.hid (chain hB.out hb); have hr1 := Lib.hid hrow; clear hb hrow) | (go_at_call 10; refine (refLog_any _ _ _ (by omega) (by omega) hr1.out).mono ?_; rintro e w1 ⟨rfl, rfl⟩))
  go_ret
  exact ⟨ret_bool (by simp), hB.out⟩

theorem len_shift {n : Int} {x b : Nat} (hn : 0 ≤ n) (hx : (x : Int) = n / 2 ^ b) (h : x ≠ 0) : bitLen n.toNat = b + bitLen x := by
  have e : n.toNat / 2 ^ b = x := by
    have : ((n.toNat / 2 ^ b : Nat) : Int) = x := by rw [Int.natCast_ediv, Int.toNat_of_nonneg hn, hx]; simp
    omega
  have := bitLen_shift n.toNat b (by omega)
  rw [e] at this; exact this

set_option maxRecDepth 100000 in
theorem len32_any (n : Int) (w : World) (hn : 0 ≤ n) (hn' : n ≤ 4294967295) :
    Calls Try.prog 13 #[.int .u32 n] w fun e w' => e = .returned (.int .i64 (bitLen n.toNat)) ∧ w = w' := by
  go_enter Try.func13, Try.ntmps13
  go_wp2
  · go_ret
    refine ⟨ret_int ?_, rfl⟩
    rw [len8tab_get]
    have := bitLen_le8 (n / 65536 / 256).toNat (by omega)
    rw [len_shift (x := (n / 65536 / 256).toNat) (b := 24) hn (by rw [Int.toNat_of_nonneg (by omega), Int.ediv_ediv_of_nonneg (by decide)]; rfl) (by omega)]
    simp only [wrap64]; omega
  · go_ret
    refine ⟨ret_int ?_, rfl⟩
    rw [len8tab_get]
    have := bitLen_le8 (n / 65536).toNat (by omega)
    rw [len_shift (x := (n / 65536).toNat) (b := 16) hn (by rw [Int.toNat_of_nonneg (by omega)]; rfl) (by omega)]
    simp only [wrap64]; omega
  · go_ret
    refine ⟨ret_int ?_, rfl⟩
    rw [len8tab_get]
    have := bitLen_le8 (n / 256).toNat (by omega)
    rw [len_shift (x := (n / 256).toNat) (b := 8) hn (by rw [Int.toNat_of_nonneg (by omega)]; rfl) (by omega)]
    simp only [wrap64]; omega
  · go_ret
    refine ⟨ret_int ?_, rfl⟩
    rw [len8tab_get]
    have := bitLen_le8 n.toNat (by omega)
    simp only [wrap64]; omega

set_option maxRecDepth 100000 in
theorem logsRise_law (s n : Int) (w0 : (Lit.int .u16 s).wf = true) (w1 : (Lit.int .u32 n).wf = true) (w : World) :
    Calls Try.prog 5 #[.int .u16 s, .int .u32 n] w fun e w' => e = .returned (.bool true) ∧ Below w.heap.size w w' := by
  obtain ⟨s0, s1⟩ := bounds_u16 w0
  obtain ⟨n0, n1⟩ := bounds_u32 w1
  clear w0 w1
  have hB := Lib.hid (Below.refl w.heap.size w)
  have hm := expP_mono (a := s % 8191) (b := s % 8191 + 1) (by omega)
  by_cases hz : n = 0
  · subst hz
    have E := Lib.hid (show logP 0 = -1 from (logP_eq (.inl ⟨by decide, rfl⟩)).symm)
    go_enter Try.func5, Try.ntmps5
    go_wp2_with (first | (go_at_call 6; refine (lives02_any _).mono ?_; rintro e w1 ⟨rfl, hb⟩; replace hB := Lib.hid (chain hB.out hb); clear hb) | (go_at_call 7; refine (logsExp_any _ _ (by omega) (by omega)).mono ?_; rintro e w1 ⟨rfl, hb⟩; replace hB := Lib.hid (chain hB.out hb); clear hb) | (go_at_call 9; refine (logsLog_any _ _ (by omega) (by omega)).mono ?_; rintro e w1 ⟨rfl, hb⟩; replace hB := Lib.hid (chain hB.out hb); clear hb))
    go_ret
    exact ⟨ret_bool (by rw [E.out]; decide), hB.out⟩
  · obtain ⟨k, hk⟩ : ∃ k : Nat, bitLen n.toNat = k + 1 := ⟨bitLen n.toNat - 1, by have := (bitLen_spec n.toNat).1; cases hb : bitLen n.toNat with
                                                                                  | zero => rw [hb] at this; simp at this; omega
                                                                                  | succ m => omega⟩
    obtain ⟨k1, k2⟩ := bitLen_spec n.toNat
    rw [hk] at k1 k2
    have k2' := k2 (by omega)
    have hlo : P2 k ≤ n := by
      have : ((2 ^ k : Nat) : Int) = P2 k := by simp [P2]
      simp at k2'; omega
    have hhi : n < P2 (k + 1) := by
      have : ((2 ^ (k + 1) : Nat) : Int) = P2 (k + 1) := by simp [P2]
      omega
    have hk31 : k ≤ 31 := by
      rcases Nat.lt_or_ge 31 k with h | h
      · have := P2_mono (a := 32) (b := k) (by omega); rw [P2_32] at this; omega
      · exact h
    have hp := P2_pos k
    have l0 : 256 * (k : Int) ≤ logP n := logP_ge (by omega) (by omega) (by omega) (by rw [expP_in (by omega) (by omega), show (256 * (k : Int)).toNat = 256 * k by omega, powS_whole]; exact hlo)
    have l1 : logP n < 256 * ((k : Int) + 1) := by
      by_cases h31 : k = 31
      · subst h31; have := (logP_bd n).2; omega
      · exact logP_lt (by omega) (by omega) (by rw [expP_in (by omega) (by omega), show (256 * ((k : Int) + 1)).toNat = 256 * (k + 1) by omega, powS_whole]; exact hhi)
    have l2 : expP (logP n) ≤ n := by
      rcases logP_is n with ⟨a, _⟩ | ⟨_, _, _, d, _⟩
      · omega
      · exact d
    have l3 : 256 * (k : Int) ≤ logP (P2 k) := logP_ge (by omega) (by omega) (by omega) (by rw [expP_in (by omega) (by omega), show (256 * (k : Int)).toNat = 256 * k by omega, powS_whole]; exact Int.le_refl _)
    have hpk := P2_le31 hk31
    have HK := Lib.hid hk
    clear hk k1 k2 k2' hlo hhi
    have hs : RowKit.Hid ((2 : Int) ^ k % 4294967296 = P2 k) := by
      have e : (2 : Int) ^ k = P2 k := rfl
      show _ = _
      rw [e]; omega
    go_enter Try.func5, Try.ntmps5
    go_wp2_with (first | (go_at_call 13; refine (len32_any _ _ (by omega) (by omega)).mono ?_; rintro e w1 ⟨rfl, rfl⟩; rw [HK.out]) | (go_at_call 6; refine (lives02_any _).mono ?_; rintro e w1 ⟨rfl, hb⟩; replace hB := Lib.hid (chain hB.out hb); clear hb) | (go_at_call 7; refine (logsExp_any _ _ (by omega) (by omega)).mono ?_; rintro e w1 ⟨rfl, hb⟩; replace hB := Lib.hid (chain hB.out hb); clear hb) | (go_at_call 9; refine (logsLog_any _ _ (by omega) (by omega)).mono ?_; rintro e w1 ⟨rfl, hb⟩; replace hB := Lib.hid (chain hB.out hb); clear hb))
    go_ret
    exact ⟨ret_bool (by rw [hs.out]; simpa using l3), hB.out⟩
theorem info_int : (Try.prog.info? 3).map (fun i => (i.zero, i.size, i.bytes)) = some (some (.int .i64 0), 1, 8) := by kernel_rfl

/-- The first k numbers, each by its rest of 8300. -/
def restK (zs : List Int) (k : Nat) : List Int := (zs.take k).map fun x => x.tmod 8300

theorem restK_succ (zs : List Int) (k : Nat) (h : k < zs.length) : restK zs (k + 1) = restK zs k ++ [(zs.getD k 0).tmod 8300] := by
  unfold restK; rw [take_snocI zs k h]; simp

theorem restK_len (zs : List Int) (k : Nat) (h : k ≤ zs.length) : (restK zs k).length = k := by unfold restK; simp; omega

theorem sumPow_snoc (l : List Int) (x : Int) : sumPow (l ++ [x]) = sumPow l + expP x := by unfold sumPow; simp

theorem sumPow_bd (l : List Int) : 0 ≤ sumPow l ∧ sumPow l ≤ 4294967295 * l.length := by
  induction l with
  | nil => unfold sumPow; simp
  | cons a l ih =>
    have := expP_bd a
    unfold sumPow at *
    simp only [List.map_cons, List.sum_cons, List.length_cons]
    omega

set_option maxRecDepth 100000 in
theorem logsSums_law (a : Option Addr) (len cap : Nat) (zs : List Int) (w : World) (h : IntsAt w w.heap.size .i64 a len zs) (hw : ∀ n ∈ zs, (Lit.int .i64 n).wf = true) (hl : len ≤ 60) :
    Calls Try.prog 4 #[.slice a len cap] w fun e w' => e = .returned (.bool true) ∧ Below w.heap.size w w' := by
  have H0 := Lib.hid h; clear h
  have hz := H0.out.1
  have HW := Lib.hid hw; clear hw
  have hB := Lib.hid (Below.refl w.heap.size w)
  obtain ⟨i0, hi, hz0, hz1, hz2⟩ := info_parts info_int
  go_enter Try.func4, Try.ntmps4
  go_wp2_with (go_at_call 6; refine (lives02_any _).mono ?_; rintro e w1 ⟨rfl, hb⟩; replace hB := Lib.hid (chain hB.out hb); clear hb)
  go_loopw [3, 4, 17] (fun s v i wr => ∃ k : Nat, k ≤ len ∧ i = .int .i64 k ∧ s = .int .u64 (sumPow (restK zs k)) ∧ RowKit.Hid (wr.ownsRow w.heap.size 3 1 v k ((restK zs k).map (Value.int .i64)) ∧ Below w.heap.size w wr))
    (fun _ _ i _ => len - (intOf i).toNat)
  case atStart => exact ⟨0, by omega, rfl, rfl, World.ownsRow_nil _ _ _ _, hB.out⟩
  case round =>
    obtain ⟨k, hk, rfl, rfl, H⟩ := hrel
    clear hB
    by_cases hlt : k < len
    · obtain ⟨b, off, rfl, hbB, hm, hc0⟩ := H0.out.at_ hlt
      have hcell := H.out.2.cell (p := ⟨b, off + k, none⟩) hbB
      rw [hc0] at hcell
      clear hc0
      obtain ⟨x0, x1⟩ : -9223372036854775808 ≤ zs.getD k 0 ∧ zs.getD k 0 ≤ 9223372036854775807 := by simpa [List.getD] using range_i64 HW.out k
      have E := Lib.hid (restK_succ zs k (by omega))
      generalize zs.getD k 0 = x at hcell x0 x1 E
      obtain ⟨t0, t1⟩ := tmod_bd (n := x) (d := 8300) (by decide)
      obtain ⟨q0, q1⟩ := sumPow_bd (restK zs k)
      rw [restK_len _ _ (by omega)] at q1
      obtain ⟨p0, p1⟩ := expP_bd (x.tmod 8300)
      have hsz := H.out.2.size
      go_wp2_with (first | (at_builtin; refine wpList_append_own _ rfl _ _ 30 rfl w.heap.size 3 i0 (.int .i64 0) 1 8 Try.underlying30 hi hz0 hz1 hz2 rfl (by decide) _ _ _ rfl (H.out.1.alloc _) ⟨wr.heap.size, 0, none⟩ 1 1 [.int .i64 (x.tmod 8300)] rfl rfl ?c1 ?c2 ?c3 ?c4 ?c5 ?_) | (go_at_call 8; refine (refExp_any _ _ (by omega) (by omega)).mono ?_; rintro e w1 ⟨rfl, hb⟩))
      case c1 =>
        intro j u hj
        match j, hj with
        | 0, hj => simp at hj; subst hj; simp [Addr.add]
      case c2 => intro u hu; simp at hu; subst hu; rfl
      case c3 => unfold maxLen; omega
      case c4 => omega
      case c5 => simp; omega
      intro v' w2 hown hgrow _
      have H2 : RowKit.Hid (w2.ownsRow w.heap.size 3 1 v' (k + 1) ((restK zs (k + 1)).map (Value.int .i64)) ∧ Below w.heap.size w w2) := by
        refine ⟨?_, (H.out.2.alloc hsz _).grown hgrow (by simp; omega) (own_base H.out.1)⟩
        rw [E.out]; simpa using hown
      clear hown hgrow H
      go_wp2_with (go_at_call 8; refine (refExp_any _ _ (by omega) (by omega)).mono ?_; rintro e w3 ⟨rfl, hb⟩)
      have H3 : RowKit.Hid (w3.ownsRow w.heap.size 3 1 v' (k + 1) ((restK zs (k + 1)).map (Value.int .i64)) ∧ Below w.heap.size w w3) :=
        ⟨own_below H2.out.1 hb, chain H2.out.2 hb⟩
      clear hb H2
      go_roundw
      case rel => exact ⟨k + 1, by omega, by go_num, by rw [E.out, sumPow_snoc], H3.out⟩
      case measure => simp [intOf] <;> omega
    · obtain rfl : k = len := by omega
      obtain ⟨a, c, rfl, hat⟩ := own_ints H.out.1
      have HA := Lib.hid hat
      have hB := Lib.hid H.out.2
      have hrk : RowKit.Hid (∀ j, j < k → -9223372036854775808 ≤ (restK zs k).getD j 0 ∧ (restK zs k).getD j 0 ≤ 9223372036854775807) := by
        intro j hj
        have e : (restK zs k).getD j 0 = (zs.getD j 0).tmod 8300 := by
          unfold restK; simp [List.getD, hj, show j < zs.length by omega]
        rw [e]
        have := tmod_bd (n := zs.getD j 0) (d := 8300) (by decide)
        omega
      obtain ⟨q0, q1⟩ := sumPow_bd (restK zs k)
      rw [restK_len _ _ (by omega)] at q1
      clear hat H
      go_wp2_with (first | (go_at_call 12; refine (logsSum_any _ _ _ _ _ HA.out hrk.out (by omega)).mono ?_; rintro e w1 ⟨rfl, hb⟩; replace hB := Lib.hid (chain hB.out hb); clear hb) | (go_at_call 11; refine (refPowers_any _).mono ?_; rintro e w1 ⟨rfl, hrow, hb⟩; replace hB := Lib.hid (chain hB.out hb); have hr1 := Lib.hid hrow; clear hb hrow) | (go_at_call 10; refine (refLog_any _ _ _ (by omega) (by omega) hr1.out).mono ?_; rintro e w1 ⟨rfl, rfl⟩))
      · have : min (sumPow (restK zs k)) 4294967295 = 4294967295 := by omega
        go_ret
        exact ⟨ret_bool (by rw [this]; simp), hB.out⟩
      · have : min (sumPow (restK zs k)) 4294967295 = sumPow (restK zs k) := by omega
        go_ret
        exact ⟨ret_bool (by rw [this]; simp), hB.out⟩

set_option maxRecDepth 100000 in
theorem logsSums_many (a : Option Addr) (len cap : Nat) (w : World) (hm : len ≤ 9223372036854775807) (hl : 60 < len) :
    Calls Try.prog 4 #[.slice a len cap] w fun e w' => e = .returned (.bool true) ∧ Below w.heap.size w w' := by
  have hB := Lib.hid (Below.refl w.heap.size w)
  go_enter Try.func4, Try.ntmps4
  go_wp2_with (go_at_call 6; refine (lives02_any _).mono ?_; rintro e w1 ⟨rfl, hb⟩; replace hB := Lib.hid (chain hB.out hb); clear hb)
  go_ret
  exact ⟨rfl, hB.out⟩
end Go.Proofs.Ytngeafkkocnjlaa
