/- Plain facts of the range coder: whole symbols and whole bits come back, one behind the other. Nothing here speaks of the program. -/
import Derived.Test.YtgnmnmjicjcffaaRngG
namespace Go.Proofs.Ytgnmnmjicjcffaa
open Go
set_option linter.unusedVariables false

/-- Where the decoder is in step, and the digits are those of a later number, it is a good one, and below its size. -/
theorem sync_good {b : Nat → Int} {e f : EncS} {d : DecS} (hs : Sync b e d) (hg : GoodE e) (hi : Inside e f) (hf : 1 ≤ f.s) (hd : DigOf b f) : GoodD d ∧ d.c < d.s := by
  obtain ⟨i1, i2, i3⟩ := hi
  obtain ⟨s1, s2, s3⟩ := hs
  obtain ⟨h1, h2, h3, h4⟩ := hg
  have hv := hd (e.k + 4) (by omega)
  rw [show f.k + 4 - (e.k + 4) = f.k - e.k by omega] at hv
  have pp := P256_pos (f.k - e.k)
  generalize P256 (f.k - e.k) = P at i2 i3 hv pp
  have lo : e.n ≤ valB b (e.k + 4) := by rw [hv, Int.le_ediv_iff_mul_le (by omega)]; exact i2
  have hi' : valB b (e.k + 4) < e.n + e.s := by rw [hv, Int.ediv_lt_iff_lt_mul (by omega)]; omega
  exact ⟨⟨by omega, by omega, by omega, by omega⟩, by omega⟩
/-- A symbol comes back. -/
theorem sym_back {b : List Int} {e f : EncS} {d : DecS} {l : List Int} {s : Nat} (hs : Sync (byteF b) e d) (hg : GoodE e) (hl : GoodL l) (hsl : s < l.length) (hi : Inside (encSym e l s) f) (hf : 1 ≤ f.s) (hd : DigOf (byteF b) f) :
    decWhich d l = s ∧ Sync (byteF b) (encSym e l s) (decSym b d l) := by
  obtain ⟨a1, a2, a3⟩ := comes_back hs hg (okP_sym hl hsl) hi hf hd
  have hw : decWhich d l = s := by
    unfold decWhich
    refine findP_eq hl.2.2.1 hsl a1 ?_
    rw [sumN_succ l s hsl]; exact a2
  refine ⟨hw, ?_⟩
  unfold decSym
  rw [hw]; exact a3
/-- Bits come back: a number of no more bits than are told. -/
theorem bits_back {b : List Int} {e f : EncS} {d : DecS} {n : Int} {wide : Nat} (hs : Sync (byteF b) e d) (hg : GoodE e) (hw : wide ≤ 24) (n0 : 0 ≤ n) (n1 : n < P2 wide) (hi : Inside (encBits e n wide) f) (hf : 1 ≤ f.s) (hd : DigOf (byteF b) f) :
    (decBits b d 0 wide).1 = n ∧ Sync (byteF b) (encBits e n wide) (decBits b d 0 wide).2 := by
  by_cases h0 : wide = 0
  · subst h0
    rw [decBits_zero, encBits_zero]
    have : P2 0 = 1 := rfl
    exact ⟨by omega, hs⟩
  · by_cases h1 : wide ≤ 12
    · rw [encBits_low e n (by omega) h1] at hi ⊢
      rw [decBits_low b d 0 (by omega) h1]
      obtain ⟨a1, a2, a3⟩ := comes_back hs hg (okP_bit h1 (bit_part n).1 (bit_part n).2) hi hf hd
      have e1 : n % P2 wide = n := Int.emod_eq_of_lt n0 n1
      have ha : decAt d (P2 wide) = n % P2 wide := by omega
      simp only
      rw [ha]
      exact ⟨by rw [e1]; omega, a3⟩
    · rw [encBits_high e n (by omega) hw] at hi ⊢
      rw [decBits_high b d 0 (by omega) hw]
      have hg1 := encPut_good hg (okP_12 (n / P2 (wide - 12)))
      have hi1 : Inside (encPut e (n / P2 (wide - 12) % 4096) 1 4096) f := (encBits_inside hg1 (by omega)).trans hi
      obtain ⟨a1, a2, a3⟩ := comes_back hs hg (okP_12 (n / P2 (wide - 12))) hi1 hf hd
      have ha : decAt d 4096 = n / P2 (wide - 12) % 4096 := by omega
      rw [ha]
      rw [encBits_low _ n (show 0 < wide - 12 by omega) (by omega)] at hi ⊢
      rw [decBits_low b _ _ (show 0 < wide - 12 by omega) (by omega)]
      obtain ⟨c1, c2, c3⟩ := comes_back a3 hg1 (okP_bit (by omega) (bit_part n).1 (bit_part n).2) hi hf hd
      have hb : decAt (decTake (byteF b) d (n / P2 (wide - 12) % 4096) 1 4096) (P2 (wide - 12)) = n % P2 (wide - 12) := by omega
      simp only
      rw [hb]
      refine ⟨?_, c3⟩
      have p := P2_pos (wide - 12)
      have hP : P2 wide = P2 (wide - 12) * 4096 := by
        have := P2_add (wide - 12) 12
        rw [show wide - 12 + 12 = wide by omega, show P2 12 = 4096 by decide] at this
        exact this
      have q0 : 0 ≤ n / P2 (wide - 12) := Int.ediv_nonneg n0 (by omega)
      have q1 : n / P2 (wide - 12) < 4096 := by rw [Int.ediv_lt_iff_lt_mul (by omega), Int.mul_comm, ← hP]; exact n1
      rw [Int.emod_eq_of_lt q0 q1, Int.zero_mul, Int.zero_add]
      exact Int.ediv_mul_add_emod n _
/-- The digits that an encoder's bytes tell, with whatever stands behind them from the (k + 4)-th on. -/
theorem digOf_bytes {f : EncS} {b : List Int} (hg : GoodE f) (hb : ∀ j, j < f.k + 4 → byteF b j = digB f.n (f.k + 4) j) : DigOf (byteF b) f := by
  have hl : f.n < P256 (f.k + 4) := by
    rw [show f.k + 4 = f.k + 1 + 1 + 1 + 1 by omega, P256_succ, P256_succ, P256_succ, P256_succ]
    have := hg.1
    have := hg.2.2.2
    omega
  exact valB_dig hg.2.2.1 hl hb
theorem digOf_own {f : EncS} (hg : GoodE f) : DigOf (byteF (digL f.n (f.k + 4))) f := digOf_bytes hg fun j hj => by unfold byteF; exact digL_getD f.n hj
end Go.Proofs.Ytgnmnmjicjcffaa
