/- What each function of package arith, and each of the document's answers for it, gives for whatever arguments. -/
import Derived.Test.YtgebnaeebdeoeaaRows
import Derived.Test.YtgebnaeebdeoeaaAriP
import Derived.Test.YtgebnaeebdeoeaaMem
import Derived.WalkKit
import Derived.WalkLawsBesides
import Derived.Handy
import Derived.Lib.Hide
namespace Go.Proofs.Ytgebnaeebdeoeaa
open Go.RowKit
set_option linter.unusedVariables false


theorem wide32_any (n : Int) (w : World) (h : -2147483648 ≤ n) (h' : n ≤ 2147483647) : Calls Try.prog 41 #[.int .i32 n] w fun e w' => e = .returned (.int .i64 n) ∧ w = w' := by
  go_enter Try.func41, Try.ntmps41
  go_wp2
  go_ret
  exact ⟨rfl, rfl⟩
/-! ### arith.Round -/
theorem round_out (n b : Int) (w : World) (h : b < 0 ∨ 62 < b) :
    Calls Try.prog 40 #[.int .i64 n, .int .i64 b] w fun e w' => e = .returned (.int .i64 (rndP n b)) ∧ w = w' := by
  rw [rndP_out h]
  rcases h with h | h
  · go_enter Try.func40, Try.ntmps40
    go_wp2
    go_ret
    exact ⟨rfl, rfl⟩
  · have h' : 0 ≤ b := by omega
    go_enter Try.func40, Try.ntmps40
    go_wp2
    go_ret
    exact ⟨rfl, rfl⟩
theorem round_zero (n : Int) (w : World) :
    Calls Try.prog 40 #[.int .i64 n, .int .i64 0] w fun e w' => e = .returned (.int .i64 (rndP n 0)) ∧ w = w' := by
  rw [rndP_zero]
  go_enter Try.func40, Try.ntmps40
  go_wp2
  go_ret
  exact ⟨rfl, rfl⟩
theorem round_in (n b : Int) (w : World) (hn : -9223372036854775808 ≤ n) (hn' : n ≤ 9223372036854775807) (hb : 1 ≤ b) (hb' : b ≤ 62) :
    Calls Try.prog 40 #[.int .i64 n, .int .i64 b] w fun e w' => e = .returned (.int .i64 (rndP n b)) ∧ w = w' := by
  have hq := half_bits (k := b.toNat) hn hn'
  have hr := rndP_bd (b := b) hn hn'
  have he := rndP_bits (n := n) hb hb'
  rw [he] at hr ⊢
  have ha : RowKit.Hid (wrap64 (n / 2 ^ b.toNat + bits BinOp.and IntKind.i64 (n / 2 ^ (b.toNat - 1)) 1) = n / 2 ^ b.toNat + n / 2 ^ (b.toNat - 1) % 2) := by
    rw [i64_and1]; exact IntWalk.wrap64_in _ hr
  clear he hr
  go_enter Try.func40, Try.ntmps40
  go_wp2
  go_ret
  exact ⟨ret_int ha.out, rfl⟩
theorem round_any (n b : Int) (w : World) (hn : -9223372036854775808 ≤ n) (hn' : n ≤ 9223372036854775807) :
    Calls Try.prog 40 #[.int .i64 n, .int .i64 b] w fun e w' => e = .returned (.int .i64 (rndP n b)) ∧ w = w' := by
  by_cases h : b < 0 ∨ 62 < b
  · exact round_out n b w h
  · by_cases h0 : b = 0
    · subst h0; exact round_zero n w
    · exact round_in n b w hn hn' (by omega) (by omega)

/-! ### arith.Sat -/
theorem sat_any (n b : Int) (w : World) (hn : -9223372036854775808 ≤ n) (hn' : n ≤ 9223372036854775807) :
    Calls Try.prog 39 #[.int .i64 n, .int .i64 b] w fun e w' => e = .returned (.int .i64 (satP n b)) ∧ w = w' := by
  by_cases h : b < 1 ∨ 64 < b
  · rw [satP_out h]
    rcases h with h | h
    · go_enter Try.func39, Try.ntmps39
      go_wp2
      go_ret
      exact ⟨rfl, rfl⟩
    · have h' : 1 ≤ b := by omega
      go_enter Try.func39, Try.ntmps39
      go_wp2
      go_ret
      exact ⟨rfl, rfl⟩
  · have hb : 1 ≤ b := by omega
    have hb' : b ≤ 64 := by omega
    have hG := greatest_eq hb hb'
    have hp := P2_pos (b.toNat - 1)
    have hp' := P2_le63 (k := b.toNat - 1) (by omega)
    clear h
    rw [satP_in hb hb']
    go_enter Try.func39, Try.ntmps39
    go_wp2
    all_goals (go_ret; exact ⟨ret_int (by omega), rfl⟩)

/-! ### the document's answers -/
theorem least_any (b : Int) (w : World) (hb : 1 ≤ b) (hb' : b ≤ 64) :
    Calls Try.prog 43 #[.int .i64 b] w fun e w' => e = .returned (.int .i64 (-(P2 (b.toNat - 1)))) ∧ w = w' := by
  go_enter Try.func43, Try.ntmps43
  go_wp2
  go_loop [3, 4] (fun n i => ∃ k : Nat, (k : Int) + 1 ≤ b ∧ i = .int .i64 ((k : Int) + 1) ∧ n = .int .i64 (-(P2 k))) (fun _ i => b.toNat - (intOf i).toNat)
  case atStart => exact ⟨0, by omega, rfl, rfl⟩
  case round =>
    obtain ⟨k, hk, rfl, rfl⟩ := hrel
    by_cases hlt : (k : Int) + 1 < b
    · have hp := P2_pos k
      have hq := P2_le62 (k := k) (by omega)
      go_wp2
      go_round
      case rel => exact ⟨k + 1, by omega, by go_num, by rw [P2_succ]; go_num⟩
      case measure => simp [intOf]; omega
    · have e : b.toNat - 1 = k := by omega
      have E : RowKit.Hid (-(P2 k) = -(P2 (b.toNat - 1))) := by rw [e]; rfl
      clear e
      go_wp2
      go_ret
      exact ⟨ret_int E.out, rfl⟩
theorem refSat_any (n b : Int) (w : World) (hn : -9223372036854775808 ≤ n) (hn' : n ≤ 9223372036854775807) :
    Calls Try.prog 27 #[.int .i64 n, .int .i64 b] w fun e w' => e = .returned (.int .i64 (satP n b)) ∧ w = w' := by
  by_cases h : b < 1 ∨ 64 < b
  · rw [satP_out h]
    rcases h with h | h
    · go_enter Try.func27, Try.ntmps27
      go_wp2
      go_ret
      exact ⟨rfl, rfl⟩
    · have h' : 1 ≤ b := by omega
      go_enter Try.func27, Try.ntmps27
      go_wp2
      go_ret
      exact ⟨rfl, rfl⟩
  · have hb : 1 ≤ b := by omega
    have hb' : b ≤ 64 := by omega
    have hp := P2_pos (b.toNat - 1)
    have hp' := P2_le63 (k := b.toNat - 1) (by omega)
    clear h
    rw [satP_in hb hb']
    go_enter Try.func27, Try.ntmps27
    go_wp2_with (go_at_call 43; refine (least_any _ _ (by omega) (by omega)).mono ?_; rintro e w' ⟨rfl, rfl⟩)
    all_goals (go_ret; exact ⟨ret_int (by omega), rfl⟩)
theorem refRound_any (n b : Int) (w : World) (hn : -9223372036854775808 ≤ n) (hn' : n ≤ 9223372036854775807) :
    Calls Try.prog 28 #[.int .i64 n, .int .i64 b] w fun e w' => e = .returned (.int .i64 (rndP n b)) ∧ w = w' := by
  by_cases h : b < 0 ∨ 62 < b
  · rw [rndP_out h]
    rcases h with h | h
    · go_enter Try.func28, Try.ntmps28
      go_wp2
      go_ret
      exact ⟨rfl, rfl⟩
    · have h' : 0 ≤ b := by omega
      go_enter Try.func28, Try.ntmps28
      go_wp2
      go_ret
      exact ⟨rfl, rfl⟩
  · have hb : 0 ≤ b := by omega
    have hb' : b ≤ 62 := by omega
    clear h
    go_enter Try.func28, Try.ntmps28
    go_wp2
    go_loop [5, 6] (fun d i => ∃ k : Nat, (k : Int) ≤ b ∧ i = .int .i64 (k : Int) ∧ d = .int .i64 (P2 k)) (fun _ i => b.toNat - (intOf i).toNat)
    case atStart => exact ⟨0, by omega, rfl, rfl⟩
    case round =>
      obtain ⟨k, hk, rfl, rfl⟩ := hrel
      have hp := P2_pos k
      by_cases hlt : (k : Int) < b
      · have hq := P2_le61 (k := k) (by omega)
        go_wp2
        go_round
        case rel => exact ⟨k + 1, by omega, by go_num, by rw [P2_succ]⟩
        case measure => simp [intOf]; omega
      · have hq := P2_le62 (k := k) (by omega)
        obtain ⟨hr1, hr0⟩ := tmod_bd (n := n) hp
        by_cases h0 : k = 0
        · subst h0
          have e : P2 0 = 1 := rfl
          have et : n.tmod (P2 0) = 0 := by omega
          have eq : n.tdiv (P2 0) = n := by rw [e]; exact Int.tdiv_one n
          have E : RowKit.Hid (n = rndP n b) := by
            obtain rfl : b = 0 := by omega
            exact (rndP_zero n).symm
          go_wp2
          all_goals (go_ret; exact ⟨ret_int E.out, rfl⟩)
        · have h2 := P2_two (b := (k : Int)) (by omega)
          rw [Int.toNat_natCast] at h2
          obtain ⟨hq1, hq0⟩ := tdiv_bd2 (n := n) h2 hn hn'
          have E : RowKit.Hid _ := rnd_close (n := n) (b := b) (k := k) (by omega) (by omega) (by omega)
          go_wp2
          all_goals (go_ret; refine ⟨ret_int ?_, rfl⟩; rw [E.out]; repeat' split)
          all_goals omega

/-! ### products -/
theorem mul_any (a b c : Int) (w : World) (ha : -2147483648 ≤ a) (ha' : a ≤ 2147483647) (hb : -2147483648 ≤ b) (hb' : b ≤ 2147483647) :
    Calls Try.prog 46 #[.int .i32 a, .int .i32 b, .int .i64 c] w fun e w' => e = .returned (.int .i32 (mulP a b c)) ∧ w = w' := by
  obtain ⟨h1, h2⟩ := prod_bd ha ha' hb hb'
  have h3 := rndP_bd (n := a * b) (b := c) (by omega) (by omega)
  have h4 := satP_bd32 (rndP (a * b) c)
  go_enter Try.func46, Try.ntmps46
  go_wp2_with (first | (go_at_call 41; refine (wide32_any _ _ (by omega) (by omega)).mono ?_; rintro e w' ⟨rfl, rfl⟩) | (go_at_call 40; refine (round_any _ _ _ (by omega) (by omega)).mono ?_; rintro e w' ⟨rfl, rfl⟩) | (go_at_call 39; refine (sat_any _ _ _ (by omega) (by omega)).mono ?_; rintro e w' ⟨rfl, rfl⟩))
  go_ret
  exact ⟨rfl, rfl⟩
/-! ### sums -/
/-! ### roots -/
theorem root_any (n : Int) (w : World) (hn : 0 ≤ n) (hn' : n ≤ 18446744073709551615) :
    Calls Try.prog 54 #[.int .u64 n] w fun e w' => e = .returned (.int .u32 (rootP n)) ∧ w = w' := by
  have hstart := Lib.hid (rootUpTo_32 hn hn')
  go_enter Try.func54, Try.ntmps54
  go_wp2
  go_loop [3, 4] (fun r t => ∃ (k : Nat) (t0 r0 : Int), t = .int .u64 t0 ∧ r = .int .u64 r0 ∧ t0 = P2 k / 2 ∧ RootUpTo n r0 k) (fun _ t => (intOf t).toNat)
  case atStart => exact ⟨32, _, _, rfl, rfl, by decide, hstart.out⟩
  case round =>
    obtain ⟨k, t0, r0, rfl, rfl, ht, hR⟩ := hrel
    have H := Lib.hid hR
    clear hR
    cases k with
    | zero =>
      obtain rfl : t0 = 0 := ht
      obtain ⟨h1, h2⟩ := rootUpTo_bd H.out
      have E := Lib.hid (rootUpTo_end H.out)
      go_wp2
      go_ret
      exact ⟨ret_int E.out, rfl⟩
    | succ j =>
      obtain rfl : t0 = P2 j := by rw [ht, P2_half]
      clear ht
      obtain ⟨hor, h1, h2⟩ := rootUpTo_or H.out
      obtain ⟨h3, h4⟩ := sq_lt32 h1 h2
      have p := P2_pos j
      go_wp2
      · have ht : (r0 + P2 j) * (r0 + P2 j) ≤ n := by assumption
        go_round
        case rel => exact ⟨j, _, _, rfl, rfl, rfl, rootUpTo_high H.out ht⟩
        case measure => simp [intOf]; omega
      · have ht : n < (r0 + P2 j) * (r0 + P2 j) := by assumption
        go_round
        case rel => exact ⟨j, _, _, rfl, rfl, rfl, rootUpTo_low H.out ht⟩
        case measure => simp [intOf]; omega

end Go.Proofs.Ytgebnaeebdeoeaa
