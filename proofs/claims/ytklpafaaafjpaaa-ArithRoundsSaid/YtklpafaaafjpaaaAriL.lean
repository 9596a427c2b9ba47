/- The walks of the three statements of layer 1, by the contracts of the functions that they call. -/
import Derived.Test.YtklpafaaafjpaaaAriW
import Derived.OpenShut
namespace Go.Proofs.Ytklpafaaafjpaaa
open Go.RowKit
set_option linter.unusedVariables false

theorem arithRoots_law (n r : Int) (w0 : (Lit.int .u64 n).wf = true) (w1 : (Lit.int .u32 r).wf = true) (w : World) :
    Calls Try.prog 5 #[.int .u64 n, .int .u32 r] w fun e w' => e = .returned (.bool true) ∧ w = w' := by
  obtain ⟨n0, n1⟩ := bounds_u64 w0
  obtain ⟨r0, r1⟩ := bounds_u32 w1
  clear w0 w1
  obtain ⟨s0, s1⟩ := sq_lt32 r0 r1
  obtain ⟨x0, x1, x2, x3⟩ := rootP_is n0 n1
  have hr : rootP (r * r) = r := (rootP_eq ⟨r0, r1, Int.le_refl _, by rw [Int.add_mul, Int.mul_add]; omega⟩).symm
  have hR := Lib.hid hr
  clear hr
  obtain ⟨y0, y1⟩ := sq_lt32 x0 x1
  by_cases hm : rootP n < 4294967295
  · obtain ⟨z0, z1⟩ := sq_lt32 (x := rootP n + 1) (by omega) (by omega)
    go_enter Try.func5, Try.ntmps5
    go_wp2_with (first | (go_at_call 6; refine (lives01_any _).mono ?_; rintro e w' ⟨rfl, rfl⟩) | (go_at_call 18; refine (root_any _ _ (by omega) (by omega)).mono ?_; rintro e w' ⟨rfl, rfl⟩))
    go_ret
    exact ⟨ret_bool (by rw [hR.out]; simp), rfl⟩
  · go_enter Try.func5, Try.ntmps5
    go_wp2_with (first | (go_at_call 6; refine (lives01_any _).mono ?_; rintro e w' ⟨rfl, rfl⟩) | (go_at_call 18; refine (root_any _ _ (by omega) (by omega)).mono ?_; rintro e w' ⟨rfl, rfl⟩))
    go_ret
    exact ⟨ret_bool (by rw [hR.out]; simp), rfl⟩
theorem wrap16_bd (b : Int) : -32768 ≤ IntKind.i16.wrap b ∧ IntKind.i16.wrap b ≤ 32767 := by
  simp only [IntKind.wrap, IntKind.bits, IntKind.signed]; simp; split <;> omega
theorem arithRounds_law (n a b : Int) (w0 : (Lit.int .i64 n).wf = true) (w1 : (Lit.int .i32 a).wf = true) (w2 : (Lit.int .i32 b).wf = true) (w : World) :
    Calls Try.prog 4 #[.int .i64 n, .int .i32 a, .int .i32 b] w fun e w' => e = .returned (.bool true) ∧ w = w' := by
  obtain ⟨n0, n1⟩ := bounds_i64 w0
  obtain ⟨a0, a1⟩ := bounds_i32 w1
  obtain ⟨b0, b1⟩ := bounds_i32 w2
  clear w0 w1 w2
  obtain ⟨c0, c1⟩ := wrap16_bd b
  go_enter Try.func4, Try.ntmps4
  go_wp2_with (go_at_call 6; refine (lives01_any _).mono ?_; rintro e w' ⟨rfl, rfl⟩)
  go_loop [7] (fun i => ∃ k : Nat, k ≤ 66 ∧ i = .int .i64 ((k : Int) - 1)) (fun i => 65 - intOf i |>.toNat)
  case atStart => exact ⟨0, by omega, rfl⟩
  case round =>
    obtain ⟨k, hk, rfl⟩ := hrel
    by_cases hlt : k < 66
    · go_wp2_with (first | (go_at_call 11; refine (round_any _ _ _ (by omega) (by omega)).mono ?_; rintro e w' ⟨rfl, rfl⟩) | (go_at_call 12; refine (refRound_any _ _ _ (by omega) (by omega)).mono ?_; rintro e w' ⟨rfl, rfl⟩) | (go_at_call 13; refine (mul_any _ _ _ _ (by omega) (by omega) (by omega) (by omega)).mono ?_; rintro e w' ⟨rfl, rfl⟩) | (go_at_call 14; refine (refMul_any _ _ _ _ (by omega) (by omega) (by omega) (by omega)).mono ?_; rintro e w' ⟨rfl, rfl⟩))
      go_round
      case rel => exact ⟨k + 1, by omega, by go_num⟩
      case measure => simp [intOf]; omega
    · go_wp2_with (first | (go_at_call 15; refine (wide64_any _ _).mono ?_; rintro e w' ⟨rfl, rfl⟩) | (go_at_call 16; refine (wide32_any _ _ (by omega) (by omega)).mono ?_; rintro e w' ⟨rfl, rfl⟩) | (go_at_call 17; refine (wide16_any _ _ (by omega) (by omega)).mono ?_; rintro e w' ⟨rfl, rfl⟩))
      go_ret
      exact ⟨ret_bool (by simp), rfl⟩

/-- What is known of a slice of numbers that came in: it is empty, or it leads to its numbers. -/
def RowOf (w : World) (a : Option Addr) (len : Nat) (zs : List Int) : Prop :=
  len = 0 ∨ ∃ b off, a = some ⟨b, off, none⟩ ∧ len ≤ zs.length ∧ len ≤ 9223372036854775807 ∧ (∀ j, j < zs.length → w.cell? ⟨b, off + j, none⟩ = some (.int .i64 (zs.getD j 0))) ∧
    ∀ j, j < zs.length → -9223372036854775808 ≤ zs.getD j 0 ∧ zs.getD j 0 ≤ 9223372036854775807
theorem addRow (a : Option Addr) (len cap : Nat) (zs : List Int) (w : World) (h : RowOf w a len zs) :
    Calls Try.prog 9 #[.slice a len cap] w fun e w' => e = .returned (.int .i64 (addP (zs.take len))) ∧ w = w' := by
  rcases h with rfl | ⟨b, off, rfl, h1, h2, h3, h4⟩
  · simpa [addP] using add_empty a cap w
  · exact add_any b off len cap zs w h1 h2 h3 h4
theorem refAddRow (a : Option Addr) (len cap : Nat) (zs : List Int) (w : World) (h : RowOf w a len zs) :
    Calls Try.prog 10 #[.slice a len cap] w fun e w' => e = .returned (.int .i64 (addP (zs.take len))) ∧ w = w' := by
  rcases h with rfl | ⟨b, off, rfl, h1, h2, h3, h4⟩
  · simpa [addP] using refAdd_empty a cap w
  · exact refAdd_any b off len cap zs w h1 h2 h3 h4
theorem arithHolds_law (n b : Int) (a : Option Addr) (len cap : Nat) (zs : List Int) (w : World) (w0 : (Lit.int .i64 n).wf = true) (w1 : (Lit.int .i64 b).wf = true) (h : RowOf w a len zs) (hl : len ≤ 9223372036854775807) :
    Calls Try.prog 3 #[.int .i64 n, .int .i64 b, .slice a len cap] w fun e w' => e = .returned (.bool true) ∧ w = w' := by
  obtain ⟨n0, n1⟩ := bounds_i64 w0
  obtain ⟨b0, b1⟩ := bounds_i64 w1
  clear w0 w1
  have H := Lib.hid h
  clear h
  by_cases hlt : 100 < len
  · go_enter Try.func3, Try.ntmps3
    go_wp2_with (go_at_call 6; refine (lives01_any _).mono ?_; rintro e w' ⟨rfl, rfl⟩)
    go_ret
    exact ⟨rfl, rfl⟩
  · go_enter Try.func3, Try.ntmps3
    go_wp2_with (first | (go_at_call 6; refine (lives01_any _).mono ?_; rintro e w' ⟨rfl, rfl⟩) | (go_at_call 7; refine (sat_any _ _ _ (by omega) (by omega)).mono ?_; rintro e w' ⟨rfl, rfl⟩) | (go_at_call 8; refine (refSat_any _ _ _ (by omega) (by omega)).mono ?_; rintro e w' ⟨rfl, rfl⟩) | (go_at_call 9; refine (addRow _ _ _ _ _ H.out).mono ?_; rintro e w' ⟨rfl, rfl⟩) | (go_at_call 10; refine (refAddRow _ _ _ _ _ H.out).mono ?_; rintro e w' ⟨rfl, rfl⟩))
    go_ret
    exact ⟨ret_bool (by simp), rfl⟩
end Go.Proofs.Ytklpafaaafjpaaa
