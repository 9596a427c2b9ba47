/- What the smaller functions of package energy give, and the document's: the bits of a number, which ceilings are right, numbers that are the same. -/
import Derived.Test.YtgnmnmjicjcffaaEngP
import Derived.Test.YtgnmnmjicjcffaaBandC
import Derived.Test.YtgnmnmjicjcffaaMemA
import Derived.StillTailTactics
import Derived.BigRegion
namespace Go.Proofs.Ytgnmnmjicjcffaa
open Go.RowKit
set_option linter.unusedVariables false

/-! ### Bits -/
theorem lenE_shift {n : Int} {x b : Nat} (hn : 0 ≤ n) (hx : (x : Int) = n / 2 ^ b) (h : x ≠ 0) : bitLen n.toNat = b + bitLen x := by
  have e : n.toNat / 2 ^ b = x := by
    have : ((n.toNat / 2 ^ b : Nat) : Int) = x := by rw [Int.natCast_ediv, Int.toNat_of_nonneg hn, hx]; simp
    omega
  have := bitLen_shift n.toNat b (by omega)
  rw [e] at this; exact this
set_option maxRecDepth 100000 in
theorem len32E_any (n : Int) (w : World) (hn : 0 ≤ n) (hn' : n ≤ 4294967295) :
    Calls Try.prog 41 #[.int .u32 n] w fun e w' => e = .returned (.int .i64 (bitLen n.toNat)) ∧ w = w' := by
  go_enter Try.func41, Try.ntmps41
  go_wp2
  · go_ret
    refine ⟨ret_int ?_, rfl⟩
    rw [len8tab_get]
    have := bitLen_le8 (n / 65536 / 256).toNat (by omega)
    rw [lenE_shift (x := (n / 65536 / 256).toNat) (b := 24) hn (by rw [Int.toNat_of_nonneg (by omega), Int.ediv_ediv_of_nonneg (by decide)]; rfl) (by omega)]
    simp only [wrap64]; omega
  · go_ret
    refine ⟨ret_int ?_, rfl⟩
    rw [len8tab_get]
    have := bitLen_le8 (n / 65536).toNat (by omega)
    rw [lenE_shift (x := (n / 65536).toNat) (b := 16) hn (by rw [Int.toNat_of_nonneg (by omega)]; rfl) (by omega)]
    simp only [wrap64]; omega
  · go_ret
    refine ⟨ret_int ?_, rfl⟩
    rw [len8tab_get]
    have := bitLen_le8 (n / 256).toNat (by omega)
    rw [lenE_shift (x := (n / 256).toNat) (b := 8) hn (by rw [Int.toNat_of_nonneg (by omega)]; rfl) (by omega)]
    simp only [wrap64]; omega
  · go_ret
    refine ⟨ret_int ?_, rfl⟩
    rw [len8tab_get]
    have := bitLen_le8 n.toNat (by omega)
    simp only [wrap64]; omega
theorem engBits_any (n : Int) (w : World) (h0 : -2147483648 ≤ n) (h1 : n ≤ 2147483647) :
    Calls Try.prog 25 #[.int .i32 n] w fun e w' => e = .returned (.int .i64 (bitsI n)) ∧ w = w' := by
  obtain ⟨m, hm, m0, m1⟩ : ∃ m : Int, (n < 0 → m = -n) ∧ 0 ≤ m ∧ m ≤ 2147483648 := ⟨if n < 0 then -n else 0, fun h => if_pos h, by split <;> omega, by split <;> omega⟩
  by_cases hn : n < 0
  · have e1 : -n = m := (hm hn).symm
    have HB : RowKit.Hid (bitLen m.toNat = bitsI n) := by show _ = bitLen n.natAbs; congr 1; omega
    have d1 : decide (n < 0) = true := by simp; omega
    by_cases hq : n = -2147483648
    · have g1 : IntKind.i32.wrap (-n) = -2147483648 := by rw [hq]; decide
      have g2 : IntKind.u32.wrap (-2147483648) = m := by have : m = 2147483648 := by omega
                                                         rw [this]; decide
      clear hm hq hn e1
      go_enter Try.func25, Try.ntmps25
      go_wp2_with (go_at_call 41; refine (len32E_any m _ m0 (by omega)).mono ?_; rintro e w' ⟨rfl, rfl⟩; rw [HB.out])
      go_ret
      exact ⟨rfl, rfl⟩
    · have g1 : IntKind.i32.wrap (-n) = m := by rw [e1]; exact IntWalk.i32_in _ (by omega)
      have g2 : IntKind.u32.wrap m = m := IntWalk.u32_in _ (by omega)
      clear hm hq hn e1
      go_enter Try.func25, Try.ntmps25
      go_wp2_with (go_at_call 41; refine (len32E_any m _ m0 (by omega)).mono ?_; rintro e w' ⟨rfl, rfl⟩; rw [HB.out])
      go_ret
      exact ⟨rfl, rfl⟩
  · have HB : RowKit.Hid (bitLen n.toNat = bitsI n) := by show _ = bitLen n.natAbs; congr 1; omega
    have d1 : decide (n < 0) = false := by simp; omega
    have g2 : IntKind.u32.wrap n = n := IntWalk.u32_in _ (by omega)
    clear hm
    go_enter Try.func25, Try.ntmps25
    go_wp2_with (go_at_call 41; refine (len32E_any n _ (by omega) (by omega)).mono ?_; rintro e w' ⟨rfl, rfl⟩; rw [HB.out])
    go_ret
    exact ⟨rfl, rfl⟩
/-- The document's count of the bits of a number that isn't below nought. -/
theorem refBits_pos (n : Nat) (z : Int) (B : Nat) (w : World) (hz : z = n) (hn : n ≤ 4294967296) (hB : B = bitLen n) :
    Calls Try.prog 27 #[.int .i64 z] w fun e w' => e = .returned (.int .i64 B) ∧ w = w' := by
  subst hz
  have h32 : bitLen n ≤ 33 := bitLen_le (by omega)
  have HB := Lib.hid hB
  have d1 : decide ((n : Int) < 0) = false := by simp
  go_enter Try.func27, Try.ntmps27
  go_wp2
  go_loop [0, 3] (fun z k => ∃ m j : Nat, z = .int .i64 (m : Int) ∧ k = .int .i64 (j : Int) ∧ m ≤ 4294967296 ∧ j + bitLen m = B) (fun z _ => (intOf z).toNat)
  case atStart => exact ⟨n, 0, rfl, rfl, hn, by rw [HB.out]; omega⟩
  case round =>
    obtain ⟨m, j, rfl, rfl, hm, hj⟩ := hrel
    rw [HB.out] at hj
    by_cases h0 : m = 0
    · have hjB : j = B := by rw [HB.out]; rw [h0, bitLen_zero] at hj; omega
      subst h0
      clear hj
      go_wp2
      go_ret
      exact ⟨ret_int (by omega), rfl⟩
    · have hh := bitLen_half h0
      have t1 : decide ((m : Int) > 0) = true := by simp; omega
      have t2 : ((m : Int)).tdiv 2 = ((m / 2 : Nat) : Int) := by rw [Int.tdiv_eq_ediv_of_nonneg (by omega)]; omega
      obtain ⟨q, hq⟩ : ∃ q, q = m / 2 := ⟨_, rfl⟩
      rw [← hq] at hh t2
      have hq1 : q < m := by omega
      have hjB : j + 1 + bitLen q = B := by rw [HB.out]; omega
      have hjj : j ≤ 40 := by omega
      clear hh hj
      go_wp2
      go_round
      case rel => exact ⟨q, j + 1, by go_num, by go_num, by omega, hjB⟩
      case measure => simp [intOf] <;> omega
theorem refBits_any (x : Int) (w : World) (h0 : -2147483648 ≤ x) (h1 : x ≤ 2147483647) :
    Calls Try.prog 27 #[.int .i64 x] w fun e w' => e = .returned (.int .i64 (bitsI x)) ∧ w = w' := by
  by_cases hx : 0 ≤ x
  · exact refBits_pos x.toNat x (bitsI x) w (by omega) (by omega) (by unfold bitsI; congr 1; omega)
  · obtain ⟨n, hn⟩ : ∃ n : Nat, -x = n := ⟨(-x).toNat, by omega⟩
    obtain ⟨B, hB⟩ : ∃ B, B = bitsI x := ⟨_, rfl⟩
    have hB2 : B = bitLen n := by rw [hB]; unfold bitsI; congr 1; omega
    rw [← hB]
    clear hB
    have h32 : bitLen n ≤ 33 := bitLen_le (by omega)
    have HB := Lib.hid hB2
    have d1 : decide (x < 0) = true := by simp; omega
    have hn2 : n ≤ 4294967296 := by omega
    clear hB2
    go_enter Try.func27, Try.ntmps27
    go_wp2
    go_loop [0, 3] (fun z k => ∃ m j : Nat, z = .int .i64 (m : Int) ∧ k = .int .i64 (j : Int) ∧ m ≤ 4294967296 ∧ j + bitLen m = B) (fun z _ => (intOf z).toNat)
    case atStart => exact ⟨n, 0, rfl, rfl, hn2, by rw [HB.out]; omega⟩
    case round =>
      obtain ⟨m, j, rfl, rfl, hm, hj⟩ := hrel
      rw [HB.out] at hj
      by_cases h0 : m = 0
      · have hjB : j = B := by rw [HB.out]; rw [h0, bitLen_zero] at hj; omega
        subst h0
        clear hj
        go_wp2
        go_ret
        exact ⟨ret_int (by omega), rfl⟩
      · have hh := bitLen_half h0
        have t1 : decide ((m : Int) > 0) = true := by simp; omega
        have t2 : ((m : Int)).tdiv 2 = ((m / 2 : Nat) : Int) := by rw [Int.tdiv_eq_ediv_of_nonneg (by omega)]; omega
        obtain ⟨q, hq⟩ : ∃ q, q = m / 2 := ⟨_, rfl⟩
        rw [← hq] at hh t2
        have hq1 : q < m := by omega
        have hjB : j + 1 + bitLen q = B := by rw [HB.out]; omega
        have hjj : j ≤ 40 := by omega
        clear hh hj
        go_wp2
        go_round
        case rel => exact ⟨q, j + 1, by go_num, by go_num, by omega, hjB⟩
        case measure => simp [intOf] <;> omega

/-! ### Which are right -/
theorem engRight_any (a : Option Addr) (len cap : Nat) (zs : List Int) (w : World) (h : IntsAt w w.heap.size .i64 a len zs) (hm : len ≤ 9223372036854775807) :
    Calls Try.prog 11 #[.slice a len cap] w fun e w' => e = .returned (.bool (rightB zs)) ∧ w = w' := by
  obtain ⟨R, hR⟩ : ∃ R, R = rightB zs := ⟨_, rfl⟩
  rw [← hR]
  by_cases hl : len = 21
  · subst hl
    have H0 := Lib.hid h
    have HL := Lib.hid h.1
    have HR := Lib.hid hR
    clear h hR
    go_enter Try.func11, Try.ntmps11
    go_wp2
    go_loop [10] (fun i => ∃ k : Nat, k ≤ 21 ∧ i = .int .i64 (k : Int) ∧ RowKit.Hid (∀ j, j < k → 0 ≤ zs.getD j 0 ∧ zs.getD j 0 ≤ 26)) (fun i => 21 - (intOf i).toNat)
    case atStart => exact ⟨0, by omega, rfl, fun j hj => by omega⟩
    case round =>
      obtain ⟨k, hk, rfl, HP⟩ := hrel
      by_cases hlt : k < 21
      · obtain ⟨b, off, rfl, _, _, hcell⟩ := H0.out.at_ hlt
        have HN : RowKit.Hid (zs.getD k 0 < 0 ∨ 26 < zs.getD k 0 → R = false) := fun c => by rw [HR.out]; exact rightB_at (by rw [HL.out]; exact hlt) c
        have HY : RowKit.Hid (0 ≤ zs.getD k 0 ∧ zs.getD k 0 ≤ 26 → ∀ j, j < k + 1 → 0 ≤ zs.getD j 0 ∧ zs.getD j 0 ≤ 26) := fun c j hj => by
          by_cases e : j = k
          · rw [e]; exact c
          · exact HP.out j (by omega)
        generalize zs.getD k 0 = x at hcell HN HY
        by_cases x0 : x < 0
        · have HF := Lib.hid (HN.out (.inl x0))
          go_wp2
          go_ret
          exact ⟨ret_bool HF.out.symm, rfl⟩
        · by_cases x1 : 26 < x
          · have HF := Lib.hid (HN.out (.inr x1))
            go_wp2
            go_ret
            exact ⟨ret_bool HF.out.symm, rfl⟩
          · have HT := Lib.hid (HY.out ⟨by omega, by omega⟩)
            go_wp2
            go_round
            case rel => exact ⟨k + 1, by omega, by go_num, HT.out⟩
            case measure => simp [intOf] <;> omega
      · obtain rfl : k = 21 := by omega
        have HF : RowKit.Hid (R = true) := by show _ = _; rw [HR.out]; exact rightB_of HL.out HP.out
        go_wp2
        go_ret
        exact ⟨ret_bool HF.out.symm, rfl⟩
  · have HF : RowKit.Hid (R = false) := by show _ = _; rw [hR]; exact rightB_len (by rw [h.1]; exact hl)
    have q1 : ((len : Int) == 21) = false := by simp; omega
    clear h hR hl
    go_enter Try.func11, Try.ntmps11
    go_wp2
    go_ret
    exact ⟨ret_bool HF.out.symm, rfl⟩
theorem ref10Right_any (a : Option Addr) (len cap : Nat) (zs : List Int) (w : World) (h : IntsAt w w.heap.size .i64 a len zs) (hm : len ≤ 9223372036854775807) :
    Calls Try.prog 12 #[.slice a len cap] w fun e w' => e = .returned (.bool (rightB zs)) ∧ w = w' := by
  obtain ⟨R, hR⟩ : ∃ R, R = rightB zs := ⟨_, rfl⟩
  rw [← hR]
  have H0 := Lib.hid h
  have HL := Lib.hid h.1
  have HR := Lib.hid hR
  clear h hR
  go_enter Try.func12, Try.ntmps12
  go_wp2
  go_loop [3] (fun i => ∃ k : Nat, k ≤ len ∧ i = .int .i64 (k : Int) ∧ RowKit.Hid (∀ j, j < k → 0 ≤ zs.getD j 0 ∧ zs.getD j 0 ≤ 26)) (fun i => len - (intOf i).toNat)
  case atStart => exact ⟨0, by omega, rfl, fun j hj => by omega⟩
  case round =>
    obtain ⟨k, hk, rfl, HP⟩ := hrel
    by_cases hlt : k < len
    · obtain ⟨b, off, rfl, _, _, hcell⟩ := H0.out.at_ hlt
      have HN : RowKit.Hid (zs.getD k 0 < 0 ∨ 26 < zs.getD k 0 → R = false) := fun c => by rw [HR.out]; exact rightB_at (by rw [HL.out]; exact hlt) c
      have HY : RowKit.Hid (0 ≤ zs.getD k 0 ∧ zs.getD k 0 ≤ 26 → ∀ j, j < k + 1 → 0 ≤ zs.getD j 0 ∧ zs.getD j 0 ≤ 26) := fun c j hj => by
        by_cases e : j = k
        · rw [e]; exact c
        · exact HP.out j (by omega)
      generalize zs.getD k 0 = x at hcell HN HY
      have l1 : (k : Int) < (len : Int) := by omega
      by_cases x0 : x < 0
      · have HF := Lib.hid (HN.out (.inl x0))
        go_wp2
        go_ret
        exact ⟨ret_bool HF.out.symm, rfl⟩
      · by_cases x1 : 26 < x
        · have HF := Lib.hid (HN.out (.inr x1))
          go_wp2
          go_ret
          exact ⟨ret_bool HF.out.symm, rfl⟩
        · have HT := Lib.hid (HY.out ⟨by omega, by omega⟩)
          go_wp2
          go_round
          case rel => exact ⟨k + 1, by omega, by go_num, HT.out⟩
          case measure => simp [intOf] <;> omega
    · obtain rfl : k = len := by omega
      have l1 : ¬ (k : Int) < (k : Int) := by omega
      by_cases hl : k = 21
      · have HF : RowKit.Hid (R = true) := by show _ = _; rw [HR.out]; exact rightB_of (by rw [HL.out, hl]) fun j hj => HP.out j (by omega)
        have q1 : ((k : Int) == 21) = true := by simp; omega
        clear hl
        go_wp2
        go_ret
        exact ⟨ret_bool HF.out.symm, rfl⟩
      · have HF : RowKit.Hid (R = false) := by show _ = _; rw [HR.out]; exact rightB_len (by rw [HL.out]; exact hl)
        have q1 : ((k : Int) == 21) = false := by simp; omega
        clear hl
        go_wp2
        go_ret
        exact ⟨ret_bool HF.out.symm, rfl⟩
theorem engAhead_any (a : Option Addr) (len cap : Nat) (zs : List Int) (w : World) (h : IntsAt w w.heap.size .i64 a len zs) (hm : len ≤ 9223372036854775807) :
    Calls Try.prog 28 #[.slice a len cap] w fun e w' => e = .returned (.bool (decide (len = 0) || rightB zs)) ∧ w = w' := by
  have H0 := Lib.hid h
  by_cases h0 : len = 0
  · subst h0
    clear h
    go_enter Try.func28, Try.ntmps28
    go_wp2
    go_ret
    exact ⟨rfl, rfl⟩
  · have q1 : ((len : Int) == 0) = false := by simp; omega
    have HD : RowKit.Hid ((decide (len = 0) || rightB zs) = rightB zs) := by show _ = _; simp [h0]
    clear h h0
    go_enter Try.func28, Try.ntmps28
    go_wp2_with (go_at_call 11; refine (engRight_any _ _ _ _ _ H0.out hm).mono ?_; rintro e w' ⟨rfl, rfl⟩)
    go_ret
    exact ⟨ret_bool HD.out.symm, rfl⟩
theorem i64_and31 (n : Int) : bits .and .i64 n 31 = n % 32 := by
  have h1 : (BitVec.ofInt 64 31).toNat = 2 ^ 5 - 1 := by decide
  have key : (BitVec.ofInt 64 n &&& BitVec.ofInt 64 31).toNat = (n % ((2 ^ 64 : Nat) : Int)).toNat % 2 ^ 5 := by
    rw [BitVec.toNat_and, BitVec.toNat_ofInt, h1, Nat.and_two_pow_sub_one_eq_mod]
  show IntKind.i64.wrap ((BitVec.ofInt 64 n &&& BitVec.ofInt 64 31).toNat : Nat) = n % 32
  rw [key, IntKind.wrap_i64]
  omega
theorem engWrap_any (n : Int) (w : World) :
    Calls Try.prog 45 #[.int .i64 n] w fun e w' => e = .returned (.int .i64 (n % 32)) ∧ w = w' := by
  have HE := Lib.hid (i64_and31 n)
  go_enter Try.func45, Try.ntmps45
  go_wp2
  go_ret
  exact ⟨ret_int HE.out, rfl⟩
theorem drewE_add (w : World) (a b : Nat) : (w.drewN a).drewN b = w.drewN (a + b) := by unfold World.drewN; simp only [Nat.add_assoc]
/-- Two slices of the same numbers are equal. -/
theorem equal_same (a a' : Option Addr) (n cap cap' : Nat) (zs : List Int) (w : World) (h : IntsAt w w.heap.size .i64 a n zs) (h' : IntsAt w w.heap.size .i64 a' n zs) (hm : n ≤ 9223372036854775807) :
    Calls Try.prog 9 #[.slice a n cap, .slice a' n cap'] w fun e w' => e = .returned (.bool true) ∧ ∃ i, w' = w.drewN i := by
  have H := Lib.hid h
  have H' := Lib.hid h'
  clear h h'
  go_enter Try.func9, Try.ntmps9
  go_wp2
  go_loopw [13] (fun i wr => ∃ k : Nat, k ≤ n ∧ i = .int .i64 (k : Int) ∧ RowKit.Hid (∃ q, wr = w.drewN q)) (fun i _ => n - (intOf i).toNat)
  case atStart => exact ⟨0, by omega, rfl, 0, rfl⟩
  case round =>
    obtain ⟨k, hk, rfl, HW⟩ := hrel
    by_cases hlt : k < n
    · obtain ⟨b, off, rfl, _, _, h1⟩ := H.out.at_ hlt
      obtain ⟨b', off', rfl, _, _, h2⟩ := H'.out.at_ hlt
      have h1' : wr.cell? ⟨b, off + k, none⟩ = some (.int .i64 (zs.getD k 0)) := by obtain ⟨q, e⟩ := HW.out; rw [e]; exact h1
      have h2' : wr.cell? ⟨b', off' + k, none⟩ = some (.int .i64 (zs.getD k 0)) := by obtain ⟨q, e⟩ := HW.out; rw [e]; exact h2
      clear h1 h2
      have HN : RowKit.Hid (∀ nq, ∃ q, wr.drewN nq = w.drewN q) := fun nq => by obtain ⟨q, e⟩ := HW.out; exact ⟨q + nq, by rw [e, drewE_add]⟩
      generalize zs.getD k 0 = x at h1' h2'
      have l1 : (k : Int) < (n : Int) := by omega
      go_wp2
      go_quiet (fail)
      go_wp2
      go_roundw
      case rel => exact ⟨k + 1, by omega, by go_num, HN.out _⟩
      case measure => simp [intOf] <;> omega
    · obtain rfl : k = n := by omega
      go_wp2
      go_ret
      exact ⟨rfl, HW.out⟩
end Go.Proofs.Ytgnmnmjicjcffaa
