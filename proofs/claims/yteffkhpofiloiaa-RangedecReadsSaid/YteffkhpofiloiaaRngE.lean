/- What the document's encoder of layer 6 gives: bits. -/
import Derived.Test.YteffkhpofiloiaaRngR
import Derived.StillTailTactics
namespace Go.Proofs.Yteffkhpofiloiaa
open Go.RowKit
set_option linter.unusedVariables false

theorem refPower_any (k : Nat) (w : World) (hk : k ≤ 60) :
    Calls Try.prog 34 #[.int .i64 k] w fun x w' => x = .returned (.int .i64 (P2 k)) ∧ w = w' := by
  go_enter Try.func34, Try.ntmps34
  go_wp2
  go_loop [3, 4] (fun n i => ∃ j : Nat, j ≤ k ∧ i = .int .i64 j ∧ n = .int .i64 (P2 j)) (fun _ i => k - (intOf i).toNat)
  case atStart => exact ⟨0, by omega, rfl, rfl⟩
  case round =>
    obtain ⟨j, hj, rfl, rfl⟩ := hrel
    have p := P2_pos j
    by_cases hlt : j < k
    · have q := P2_le61 (k := j) (by omega)
      go_wp2
      go_round
      case rel => exact ⟨j + 1, by omega, by go_num, by rw [P2_succ]⟩
      case measure => simp [intOf] <;> omega
    · obtain rfl : j = k := by omega
      go_wp2
      go_ret
      exact ⟨rfl, rfl⟩
theorem refPower_at (k : Nat) (i : Int) (w : World) (hi : i = k) (hk : k ≤ 60) :
    Calls Try.prog 34 #[.int .i64 i] w fun x w' => x = .returned (.int .i64 (P2 k)) ∧ w = w' := by
  subst hi; exact refPower_any k w hk

/-- A number of so many bits, the highest twelve first. -/
def encBits (e : EncS) (n : Int) (wide : Nat) : EncS :=
  if wide = 0 then e else if wide ≤ 12 then encPut e (n % P2 wide) 1 (P2 wide) else
    let f := encPut e (n / P2 (wide - 12) % 4096) 1 4096
    if wide ≤ 24 then encPut f (n % P2 (wide - 12)) 1 (P2 (wide - 12)) else f
theorem encBits_zero (e : EncS) (n : Int) : encBits e n 0 = e := rfl
theorem encBits_low (e : EncS) (n : Int) {wide : Nat} (h0 : 0 < wide) (h1 : wide ≤ 12) : encBits e n wide = encPut e (n % P2 wide) 1 (P2 wide) := by
  unfold encBits; rw [if_neg (by omega), if_pos h1]
theorem encBits_high (e : EncS) (n : Int) {wide : Nat} (h0 : 12 < wide) (h1 : wide ≤ 24) : encBits e n wide = encBits (encPut e (n / P2 (wide - 12) % 4096) 1 4096) n (wide - 12) := by
  rw [encBits_low _ _ (show 0 < wide - 12 by omega) (by omega)]
  unfold encBits; rw [if_neg (by omega), if_neg (by omega), if_pos h1]
theorem okP_bit {x : Int} {k : Nat} (h : k ≤ 12) (h0 : 0 ≤ x) (h1 : x < P2 k) : OkP x 1 (P2 k) := by
  have p := P2_pos k
  have q := P2_mono (a := k) (b := 12) h
  rw [show P2 12 = 4096 by decide] at q
  exact ⟨p, by omega, by omega, h0, by omega⟩
theorem bit_part (n : Int) {k : Nat} : 0 ≤ n % P2 k ∧ n % P2 k < P2 k := by
  have p := P2_pos k
  exact ⟨Int.emod_nonneg _ (by omega), Int.emod_lt_of_pos _ (by omega)⟩

theorem okP_12 (n : Int) : OkP (n % 4096) 1 4096 := ⟨by decide, by decide, by decide, by omega, by omega⟩
theorem encBits_good {e : EncS} {n : Int} {wide : Nat} (hg : GoodE e) (hw : wide ≤ 24) : GoodE (encBits e n wide) := by
  by_cases h0 : wide = 0
  · subst h0; exact hg
  · by_cases h1 : wide ≤ 12
    · rw [encBits_low e n (by omega) h1]
      exact encPut_good hg (okP_bit h1 (bit_part n).1 (bit_part n).2)
    · rw [encBits_high e n (by omega) hw, encBits_low _ n (by omega) (by omega)]
      exact encPut_good (encPut_good hg (okP_12 _)) (okP_bit (by omega) (bit_part n).1 (bit_part n).2)
theorem encBits_inside {e : EncS} {n : Int} {wide : Nat} (hg : GoodE e) (hw : wide ≤ 24) : Inside e (encBits e n wide) := by
  by_cases h0 : wide = 0
  · subst h0; exact Inside.refl e
  · by_cases h1 : wide ≤ 12
    · rw [encBits_low e n (by omega) h1]
      exact encPut_inside hg (okP_bit h1 (bit_part n).1 (bit_part n).2)
    · rw [encBits_high e n (by omega) hw, encBits_low _ n (by omega) (by omega)]
      exact (encPut_inside hg (okP_12 _)).trans (encPut_inside (encPut_good hg (okP_12 _)) (okP_bit (by omega) (bit_part n).1 (bit_part n).2))
theorem encBits_k (e : EncS) (n : Int) {wide : Nat} (hw : wide ≤ 24) : (encBits e n wide).k ≤ e.k + 4 := by
  by_cases h0 : wide = 0
  · subst h0; rw [encBits_zero]; omega
  · by_cases h1 : wide ≤ 12
    · rw [encBits_low e n (by omega) h1]
      have := encPut_k e (n % P2 wide) 1 (P2 wide)
      omega
    · rw [encBits_high e n (by omega) hw, encBits_low _ n (by omega) (by omega)]
      have a := encPut_k e (n / P2 (wide - 12) % 4096) 1 4096
      have b := encPut_k (encPut e (n / P2 (wide - 12) % 4096) 1 4096) (n % P2 (wide - 12)) 1 (P2 (wide - 12))
      omega
end Go.Proofs.Yteffkhpofiloiaa
