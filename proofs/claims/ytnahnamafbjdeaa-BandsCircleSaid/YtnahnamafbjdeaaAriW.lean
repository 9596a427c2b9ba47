/- What each function of package arith, and each of the document's answers for it, gives for whatever arguments. -/
import Derived.Test.YtnahnamafbjdeaaRows
import Derived.Test.YtnahnamafbjdeaaAriP
import Derived.Test.YtnahnamafbjdeaaMem
import Derived.WalkKit
import Derived.WalkLawsBesides
import Derived.Handy
import Derived.Lib.Hide
namespace Go.Proofs.Ytnahnamafbjdeaa
open Go.RowKit
set_option linter.unusedVariables false


theorem wide32_any (n : Int) (w : World) (h : -2147483648 ≤ n) (h' : n ≤ 2147483647) : Calls Try.prog 19 #[.int .i32 n] w fun e w' => e = .returned (.int .i64 n) ∧ w = w' := by
  go_enter Try.func19, Try.ntmps19
  go_wp2
  go_ret
  exact ⟨rfl, rfl⟩
/-! ### arith.Round -/
/-! ### arith.Sat -/
/-! ### the document's answers -/
/-! ### products -/
/-! ### sums -/
/-! ### roots -/
theorem root_any (n : Int) (w : World) (hn : 0 ≤ n) (hn' : n ≤ 18446744073709551615) :
    Calls Try.prog 18 #[.int .u64 n] w fun e w' => e = .returned (.int .u32 (rootP n)) ∧ w = w' := by
  have hstart := Lib.hid (rootUpTo_32 hn hn')
  go_enter Try.func18, Try.ntmps18
  go_wp2
  go_loop [3, 4] (fun r t => ∃ (k : Nat) (t0 r0 : Int), t = .int .u64 t0 ∧ r = .int .u64 r0 ∧ t0 = P2 k / 2 ∧ RootUpTo n r0 k) (fun _ t => (intOf t).toNat)
  case atStart => exact ⟨32, _, _, rfl, rfl, by decide, hstart.out⟩
  case round =>
    obtain ⟨k, t0, r0, rfl, rfl, ht, hR⟩ := hrel
    have H := Lib.hid hR
    clear hR
    cases k with
    | zero =>
      obtain rfl : t0 = 0 := ht
      obtain ⟨h1, h2⟩ := rootUpTo_bd H.out
      have E := Lib.hid (rootUpTo_end H.out)
      go_wp2
      go_ret
      exact ⟨ret_int E.out, rfl⟩
    | succ j =>
      obtain rfl : t0 = P2 j := by rw [ht, P2_half]
      clear ht
      obtain ⟨hor, h1, h2⟩ := rootUpTo_or H.out
      obtain ⟨h3, h4⟩ := sq_lt32 h1 h2
      have p := P2_pos j
      go_wp2
      · have ht : (r0 + P2 j) * (r0 + P2 j) ≤ n := by assumption
        go_round
        case rel => exact ⟨j, _, _, rfl, rfl, rfl, rootUpTo_high H.out ht⟩
        case measure => simp [intOf]; omega
      · have ht : n < (r0 + P2 j) * (r0 + P2 j) := by assumption
        go_round
        case rel => exact ⟨j, _, _, rfl, rfl, rfl, rootUpTo_low H.out ht⟩
        case measure => simp [intOf]; omega

end Go.Proofs.Ytnahnamafbjdeaa
