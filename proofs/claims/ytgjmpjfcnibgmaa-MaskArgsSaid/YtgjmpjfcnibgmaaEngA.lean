/- What the smaller functions of package energy give, and the document's: the bits of a number, which ceilings are right, numbers that are the same. -/
import Derived.Test.YtgjmpjfcnibgmaaEngP0
import Derived.Test.YtgjmpjfcnibgmaaBandC
import Derived.Test.YtgjmpjfcnibgmaaMemA
import Derived.StillTailTactics
import Derived.BigRegion
namespace Go.Proofs.Ytgjmpjfcnibgmaa
open Go.RowKit
set_option linter.unusedVariables false

/-! ### Bits -/
theorem lenE_shift {n : Int} {x b : Nat} (hn : 0 ≤ n) (hx : (x : Int) = n / 2 ^ b) (h : x ≠ 0) : bitLen n.toNat = b + bitLen x := by
  have e : n.toNat / 2 ^ b = x := by
    have : ((n.toNat / 2 ^ b : Nat) : Int) = x := by rw [Int.natCast_ediv, Int.toNat_of_nonneg hn, hx]; simp
    omega
  have := bitLen_shift n.toNat b (by omega)
  rw [e] at this; exact this
/-! ### Which are right -/
theorem engRight_any (a : Option Addr) (len cap : Nat) (zs : List Int) (w : World) (h : IntsAt w w.heap.size .i64 a len zs) (hm : len ≤ 9223372036854775807) :
    Calls Try.prog 16 #[.slice a len cap] w fun e w' => e = .returned (.bool (rightB zs)) ∧ w = w' := by
  obtain ⟨R, hR⟩ : ∃ R, R = rightB zs := ⟨_, rfl⟩
  rw [← hR]
  by_cases hl : len = 21
  · subst hl
    have H0 := Lib.hid h
    have HL := Lib.hid h.1
    have HR := Lib.hid hR
    clear h hR
    go_enter Try.func16, Try.ntmps16
    go_wp2
    go_loop [10] (fun i => ∃ k : Nat, k ≤ 21 ∧ i = .int .i64 (k : Int) ∧ RowKit.Hid (∀ j, j < k → 0 ≤ zs.getD j 0 ∧ zs.getD j 0 ≤ 26)) (fun i => 21 - (intOf i).toNat)
    case atStart => exact ⟨0, by omega, rfl, fun j hj => by omega⟩
    case round =>
      obtain ⟨k, hk, rfl, HP⟩ := hrel
      by_cases hlt : k < 21
      · obtain ⟨b, off, rfl, _, _, hcell⟩ := H0.out.at_ hlt
        have HN : RowKit.Hid (zs.getD k 0 < 0 ∨ 26 < zs.getD k 0 → R = false) := fun c => by rw [HR.out]; exact rightB_at (by rw [HL.out]; exact hlt) c
        have HY : RowKit.Hid (0 ≤ zs.getD k 0 ∧ zs.getD k 0 ≤ 26 → ∀ j, j < k + 1 → 0 ≤ zs.getD j 0 ∧ zs.getD j 0 ≤ 26) := fun c j hj => by
          by_cases e : j = k
          · rw [e]; exact c
          · exact HP.out j (by omega)
        generalize zs.getD k 0 = x at hcell HN HY
        by_cases x0 : x < 0
        · have HF := Lib.hid (HN.out (.inl x0))
          go_wp2
          go_ret
          exact ⟨ret_bool HF.out.symm, rfl⟩
        · by_cases x1 : 26 < x
          · have HF := Lib.hid (HN.out (.inr x1))
            go_wp2
            go_ret
            exact ⟨ret_bool HF.out.symm, rfl⟩
          · have HT := Lib.hid (HY.out ⟨by omega, by omega⟩)
            go_wp2
            go_round
            case rel => exact ⟨k + 1, by omega, by go_num, HT.out⟩
            case measure => simp [intOf] <;> omega
      · obtain rfl : k = 21 := by omega
        have HF : RowKit.Hid (R = true) := by show _ = _; rw [HR.out]; exact rightB_of HL.out HP.out
        go_wp2
        go_ret
        exact ⟨ret_bool HF.out.symm, rfl⟩
  · have HF : RowKit.Hid (R = false) := by show _ = _; rw [hR]; exact rightB_len (by rw [h.1]; exact hl)
    have q1 : ((len : Int) == 21) = false := by simp; omega
    clear h hR hl
    go_enter Try.func16, Try.ntmps16
    go_wp2
    go_ret
    exact ⟨ret_bool HF.out.symm, rfl⟩
theorem ref10Right_any (a : Option Addr) (len cap : Nat) (zs : List Int) (w : World) (h : IntsAt w w.heap.size .i64 a len zs) (hm : len ≤ 9223372036854775807) :
    Calls Try.prog 15 #[.slice a len cap] w fun e w' => e = .returned (.bool (rightB zs)) ∧ w = w' := by
  obtain ⟨R, hR⟩ : ∃ R, R = rightB zs := ⟨_, rfl⟩
  rw [← hR]
  have H0 := Lib.hid h
  have HL := Lib.hid h.1
  have HR := Lib.hid hR
  clear h hR
  go_enter Try.func15, Try.ntmps15
  go_wp2
  go_loop [3] (fun i => ∃ k : Nat, k ≤ len ∧ i = .int .i64 (k : Int) ∧ RowKit.Hid (∀ j, j < k → 0 ≤ zs.getD j 0 ∧ zs.getD j 0 ≤ 26)) (fun i => len - (intOf i).toNat)
  case atStart => exact ⟨0, by omega, rfl, fun j hj => by omega⟩
  case round =>
    obtain ⟨k, hk, rfl, HP⟩ := hrel
    by_cases hlt : k < len
    · obtain ⟨b, off, rfl, _, _, hcell⟩ := H0.out.at_ hlt
      have HN : RowKit.Hid (zs.getD k 0 < 0 ∨ 26 < zs.getD k 0 → R = false) := fun c => by rw [HR.out]; exact rightB_at (by rw [HL.out]; exact hlt) c
      have HY : RowKit.Hid (0 ≤ zs.getD k 0 ∧ zs.getD k 0 ≤ 26 → ∀ j, j < k + 1 → 0 ≤ zs.getD j 0 ∧ zs.getD j 0 ≤ 26) := fun c j hj => by
        by_cases e : j = k
        · rw [e]; exact c
        · exact HP.out j (by omega)
      generalize zs.getD k 0 = x at hcell HN HY
      have l1 : (k : Int) < (len : Int) := by omega
      by_cases x0 : x < 0
      · have HF := Lib.hid (HN.out (.inl x0))
        go_wp2
        go_ret
        exact ⟨ret_bool HF.out.symm, rfl⟩
      · by_cases x1 : 26 < x
        · have HF := Lib.hid (HN.out (.inr x1))
          go_wp2
          go_ret
          exact ⟨ret_bool HF.out.symm, rfl⟩
        · have HT := Lib.hid (HY.out ⟨by omega, by omega⟩)
          go_wp2
          go_round
          case rel => exact ⟨k + 1, by omega, by go_num, HT.out⟩
          case measure => simp [intOf] <;> omega
    · obtain rfl : k = len := by omega
      have l1 : ¬ (k : Int) < (k : Int) := by omega
      by_cases hl : k = 21
      · have HF : RowKit.Hid (R = true) := by show _ = _; rw [HR.out]; exact rightB_of (by rw [HL.out, hl]) fun j hj => HP.out j (by omega)
        have q1 : ((k : Int) == 21) = true := by simp; omega
        clear hl
        go_wp2
        go_ret
        exact ⟨ret_bool HF.out.symm, rfl⟩
      · have HF : RowKit.Hid (R = false) := by show _ = _; rw [HR.out]; exact rightB_len (by rw [HL.out]; exact hl)
        have q1 : ((k : Int) == 21) = false := by simp; omega
        clear hl
        go_wp2
        go_ret
        exact ⟨ret_bool HF.out.symm, rfl⟩
theorem i64_and31 (n : Int) : bits .and .i64 n 31 = n % 32 := by
  have h1 : (BitVec.ofInt 64 31).toNat = 2 ^ 5 - 1 := by decide
  have key : (BitVec.ofInt 64 n &&& BitVec.ofInt 64 31).toNat = (n % ((2 ^ 64 : Nat) : Int)).toNat % 2 ^ 5 := by
    rw [BitVec.toNat_and, BitVec.toNat_ofInt, h1, Nat.and_two_pow_sub_one_eq_mod]
  show IntKind.i64.wrap ((BitVec.ofInt 64 n &&& BitVec.ofInt 64 31).toNat : Nat) = n % 32
  rw [key, IntKind.wrap_i64]
  omega
theorem drewE_add (w : World) (a b : Nat) : (w.drewN a).drewN b = w.drewN (a + b) := by unfold World.drewN; simp only [Nat.add_assoc]
/-- Two slices of the same numbers are equal. -/
theorem equal_same (a a' : Option Addr) (n cap cap' : Nat) (zs : List Int) (w : World) (h : IntsAt w w.heap.size .i64 a n zs) (h' : IntsAt w w.heap.size .i64 a' n zs) (hm : n ≤ 9223372036854775807) :
    Calls Try.prog 11 #[.slice a n cap, .slice a' n cap'] w fun e w' => e = .returned (.bool true) ∧ ∃ i, w' = w.drewN i := by
  have H := Lib.hid h
  have H' := Lib.hid h'
  clear h h'
  go_enter Try.func11, Try.ntmps11
  go_wp2
  go_loopw [13] (fun i wr => ∃ k : Nat, k ≤ n ∧ i = .int .i64 (k : Int) ∧ RowKit.Hid (∃ q, wr = w.drewN q)) (fun i _ => n - (intOf i).toNat)
  case atStart => exact ⟨0, by omega, rfl, 0, rfl⟩
  case round =>
    obtain ⟨k, hk, rfl, HW⟩ := hrel
    by_cases hlt : k < n
    · obtain ⟨b, off, rfl, _, _, h1⟩ := H.out.at_ hlt
      obtain ⟨b', off', rfl, _, _, h2⟩ := H'.out.at_ hlt
      have h1' : wr.cell? ⟨b, off + k, none⟩ = some (.int .i64 (zs.getD k 0)) := by obtain ⟨q, e⟩ := HW.out; rw [e]; exact h1
      have h2' : wr.cell? ⟨b', off' + k, none⟩ = some (.int .i64 (zs.getD k 0)) := by obtain ⟨q, e⟩ := HW.out; rw [e]; exact h2
      clear h1 h2
      have HN : RowKit.Hid (∀ nq, ∃ q, wr.drewN nq = w.drewN q) := fun nq => by obtain ⟨q, e⟩ := HW.out; exact ⟨q + nq, by rw [e, drewE_add]⟩
      generalize zs.getD k 0 = x at h1' h2'
      have l1 : (k : Int) < (n : Int) := by omega
      go_wp2
      go_quiet (fail)
      go_wp2
      go_roundw
      case rel => exact ⟨k + 1, by omega, by go_num, HN.out _⟩
      case measure => simp [intOf] <;> omega
    · obtain rfl : k = n := by omega
      go_wp2
      go_ret
      exact ⟨rfl, HW.out⟩
end Go.Proofs.Ytgjmpjfcnibgmaa
