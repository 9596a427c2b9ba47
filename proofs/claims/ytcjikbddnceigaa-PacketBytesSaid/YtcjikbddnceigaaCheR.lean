/- What the document's answer for layer 3 gives: the check sum of any bytes. -/
import Derived.Test.YtcjikbddnceigaaRows
import Derived.Test.YtcjikbddnceigaaCheP
import Derived.Test.YtcjikbddnceigaaMem
import Derived.IntWalk
namespace Go.Proofs.Ytcjikbddnceigaa
open Go.RowKit
set_option linter.unusedVariables false

theorem u32_turn {n : Nat} (h : n < 4294967296) : bits .xor .u32 ((n : Int)) 2197175160 = ((n ^^^ 2197175160 : Nat) : Int) := by
  have := u32_xor_nat n 2197175160 h (by decide)
  exact this
theorem bitAt_in {l : List Int} {k j : Nat} {x : Int} (hx : x = l.getD k 0) (h0 : 0 ≤ x) (hj : j < 8) : ((bitAt l (8 * k + j) : Nat) : Int) = x / 2 ^ j % 2 := by
  unfold bitAt
  rw [show (8 * k + j) / 8 = k by omega, show (8 * k + j) % 8 = j by omega, ← hx]
  obtain ⟨m, rfl⟩ : ∃ m : Nat, x = m := ⟨x.toNat, by omega⟩
  rw [Int.toNat_natCast, Int.natCast_emod, Int.natCast_ediv]
  simp
/-- One bit's turn, as the document's answer reckons it. -/
theorem turn_yes {r b : Nat} (hr : r < 4294967296) (hb : b < 2) (h : ((r : Int) % 2 != (b : Int)) = true) : bits .xor .u32 ((r : Int) / 2) 2197175160 = ((stepR r b : Nat) : Int) := by
  have e : (r : Int) / 2 = ((r / 2 : Nat) : Int) := by omega
  rw [e, u32_turn (by omega), stepR_eq hb, if_neg]
  intro c
  simp at h
  omega
theorem turn_no {r b : Nat} (hb : b < 2) (h : ((r : Int) % 2 != (b : Int)) = false) : (r : Int) / 2 = ((stepR r b : Nat) : Int) := by
  rw [stepR_eq hb, if_pos]
  · omega
  · simp at h; omega

theorem ref03Of_any (a : Option Addr) (len cap : Nat) (zs : List Int) (w : World) (h : IntsAt w w.heap.size .u8 a len zs) (hb : ∀ j, j < len → 0 ≤ zs.getD j 0 ∧ zs.getD j 0 ≤ 255) (hm : len ≤ 9223372036854775807) :
    Calls Try.prog 23 #[.slice a len cap] w fun e w' => e = .returned (.int .u32 (crcP zs)) ∧ w = w' := by
  have H0 := Lib.hid h; clear h
  have HW := Lib.hid hb; clear hb
  have hlen := Lib.hid H0.out.1
  go_enter Try.func23, Try.ntmps23
  go_wp2
  go_loop [3, 4, 5, 6, 7] (fun c i j b u => ∃ k : Nat, k ≤ len ∧ i = .int .i64 k ∧ c = .int .u32 (regN zs (8 * k) : Nat)) (fun _ i _ _ _ => len - (intOf i).toNat)
  case atStart => exact ⟨0, by omega, rfl, rfl⟩
  case round =>
    obtain ⟨k, hk, rfl, rfl⟩ := hrel
    by_cases hlt : k < len
    · obtain ⟨b, off, rfl, hbB, _, hcell⟩ := H0.out.at_ hlt
      obtain ⟨x0, x1⟩ := HW.out k hlt
      obtain ⟨x, hx⟩ : ∃ x, x = zs.getD k 0 := ⟨_, rfl⟩
      rw [← hx] at hcell x0 x1
      have HX := Lib.hid hx
      clear hx
      go_wp2
      go_loop [3, 5, 6, 7] (fun c j b u => ∃ q : Nat, q ≤ 8 ∧ j = .int .i64 q ∧ c = .int .u32 (regN zs (8 * k + q) : Nat)) (fun _ j _ _ => 8 - (intOf j).toNat)
      case atStart => exact ⟨0, by omega, rfl, rfl⟩
      case round =>
        obtain ⟨q, hq, rfl, rfl⟩ := hrel
        by_cases hq8 : q < 8
        · have E := Lib.hid (bitAt_in HX.out x0 hq8)
          have hr := regN_lt zs (8 * k + q)
          have S : RowKit.Hid (regN zs (8 * k + (q + 1)) = stepR (regN zs (8 * k + q)) (bitAt zs (8 * k + q))) := rfl
          have hbl := bitAt_lt zs (8 * k + q)
          generalize regN zs (8 * k + q) = r at hr S
          have hbit : RowKit.Hid ((x / 2 ^ q).tmod 2 = (bitAt zs (8 * k + q) : Nat)) := by
            show _ = _
            rw [Int.tmod_eq_emod_of_nonneg (Int.ediv_nonneg x0 (Int.pow_nonneg (by decide)))]; exact E.out.symm
          clear E
          go_wp2
          · have ht : ((r : Int) % 2 != (x / 2 ^ q).tmod 2) = true := by assumption
            rw [hbit.out] at ht
            go_round
            case rel => exact ⟨q + 1, by omega, by go_num, by rw [S.out, turn_yes hr hbl ht]⟩
            case measure => simp [intOf] <;> omega
          · have ht : ((r : Int) % 2 != (x / 2 ^ q).tmod 2) = false := by assumption
            rw [hbit.out] at ht
            go_round
            case rel => exact ⟨q + 1, by omega, by go_num, by rw [S.out, turn_no hbl ht]⟩
            case measure => simp [intOf] <;> omega
        · obtain rfl : q = 8 := by omega
          go_wp2
          go_round
          case rel => exact ⟨k + 1, by omega, by go_num, rfl⟩
          case measure => simp [intOf] <;> omega
    · obtain rfl : k = len := by omega
      have hr := regN_lt zs (8 * k)
      have Z : RowKit.Hid (4294967295 - (regN zs (8 * k) : Int) = crcP zs) := by
        show _ = _
        rw [crcP_eq, hlen.out]
      go_wp2
      go_ret
      exact ⟨ret_int Z.out, rfl⟩
end Go.Proofs.Ytcjikbddnceigaa
