/- Plain facts, and what functions give, for the proofs of this seat: several texts in one, each with its own first remark. -/
import Derived.Test.YtmgfkdmjgjlkjaaGreatCl

namespace Go.Proofs.YtmgfkdmjgjlkjaaGreat
open Go Go.RowKit
set_option linter.unusedVariables false
theorem of_all : ((List.range 21).all fun b => (List.range 512).all fun i => !(decide (edgeK b ≤ i) && decide (i < edgeK (b + 1))) || decide (ofN i = b)) = true := by decide +kernel
theorem of_band {b i : Nat} (hb : b < 21) (h0 : edgeK b ≤ i) (h1 : i < edgeK (b + 1)) : ofN i = b := by
  have he := edgeK_lt b hb
  have h := of_all
  rw [List.all_eq_true] at h
  have h2 := h b (List.mem_range.2 hb)
  rw [List.all_eq_true] at h2
  have h3 := h2 i (List.mem_range.2 (by omega))
  simpa [h0, h1] using h3
theorem of_lt {i : Nat} (h : i < 512) : ofN i < 21 := (ofN_all i h).2.1
theorem edgeK_zero : edgeK 0 = 0 := by decide
theorem edgeK_last : edgeK 21 = 512 := by decide
theorem P2_nat (k : Nat) : P2 k = ((2 ^ k : Nat) : Int) := by unfold P2; rw [Int.natCast_pow]; rfl
def numQ (x s n : Int) : Int := max (-(P2 (n - s).toNat - 1)) (min (rndP x s) (P2 (n - s).toNat - 1))
theorem numQ_bd (x s n : Int) : -(P2 (n - s).toNat - 1) ≤ numQ x s n ∧ numQ x s n ≤ P2 (n - s).toNat - 1 := by
  have := P2_pos (n - s).toNat
  unfold numQ; omega
theorem P2_12 {k : Nat} (h : k ≤ 12) : P2 k ≤ 4096 := by
  have := P2_mono (a := k) (b := 12) h
  rw [show P2 12 = 4096 by decide] at this
  exact this
theorem numQ_12 {s n : Int} (x : Int) (h : n - s ≤ 12) : -4095 ≤ numQ x s n ∧ numQ x s n ≤ 4095 := by
  have := P2_12 (k := (n - s).toNat) (by omega)
  have := numQ_bd x s n
  omega
theorem bits_le {q : Int} {k : Nat} (h0 : -(P2 k - 1) ≤ q) (h1 : q ≤ P2 k - 1) : bitsI q ≤ k := by
  rw [P2_nat] at h0 h1
  exact bitLen_le (by omega)
theorem bits_12 {q : Int} (h : -4095 ≤ q ∧ q ≤ 4095) : bitsI q ≤ 12 := bits_le (by rw [show P2 12 = 4096 by decide]; omega) (by rw [show P2 12 = 4096 by decide]; omega)
theorem bits_none {q : Int} : bitsI q = 0 ↔ q = 0 := by
  constructor
  · intro h
    have := (bitLen_spec q.natAbs).1
    unfold bitsI at h
    rw [h] at this
    omega
  · rintro rfl; rfl
def lowQ (q : Int) : Int := (q.natAbs : Int) - P2 (bitsI q - 1)
theorem lowQ_bd {q : Int} (h : q ≠ 0) : 0 ≤ lowQ q ∧ lowQ q < P2 (bitsI q - 1) := by
  obtain ⟨h1, h2⟩ := bitLen_spec q.natAbs
  have h3 := h2 (by omega)
  have h4 : bitsI q ≠ 0 := fun e => h (bits_none.1 e)
  have h5 : 2 ^ bitsI q = 2 ^ (bitsI q - 1) * 2 := by rw [← Nat.pow_succ]; congr 1; omega
  unfold lowQ
  rw [P2_nat]
  unfold bitsI at *
  omega
def signQ (q : Int) : Int := if q < 0 then 1 else 0
theorem signQ_bd (q : Int) : 0 ≤ signQ q ∧ signQ q ≤ 1 := by unfold signQ; split <;> omega
def putX (E : EncS) (L : List Int) (q : Int) : EncS := if q = 0 then encSym E L 0 else encBits (encBits (encSym E L (bitsI q)) (signQ q) 1) (lowQ q) (bitsI q - 1)
theorem putX_none (E : EncS) (L : List Int) {q : Int} (h : q = 0) : putX E L q = encSym E L (bitsI q) := by unfold putX; rw [if_pos h, bits_none.2 h]
theorem putX_some (E : EncS) (L : List Int) {q : Int} (h : q ≠ 0) : putX E L q = encBits (encBits (encSym E L (bitsI q)) (signQ q) 1) (lowQ q) (bitsI q - 1) := if_neg h
theorem putX_good {E : EncS} {L : List Int} {q : Int} (hG : GoodE E) (hL : GoodL L) (hl : L.length = 13) (hq : -4095 ≤ q ∧ q ≤ 4095) :
    GoodE (putX E L q) ∧ (putX E L q).k ≤ E.k + 10 ∧ Inside E (putX E L q) ∧ Inside (encSym E L (bitsI q)) (putX E L q) := by
  have hb := bits_12 hq
  have hs : bitsI q < L.length := by omega
  have g1 := encSym_good hG hL hs
  have k1 := encSym_k E L (bitsI q)
  have i1 := encSym_inside hG hL hs
  by_cases h : q = 0
  · rw [putX_none E L h]
    exact ⟨g1, by omega, i1, Inside.refl _⟩
  · rw [putX_some E L h]
    have g2 := encBits_good (n := signQ q) (wide := 1) g1 (by decide)
    have k2 := encBits_k (encSym E L (bitsI q)) (signQ q) (wide := 1) (by decide)
    have i2 := encBits_inside (n := signQ q) (wide := 1) g1 (by decide)
    have g3 := encBits_good (n := lowQ q) (wide := bitsI q - 1) g2 (by omega)
    have k3 := encBits_k (encBits (encSym E L (bitsI q)) (signQ q) 1) (lowQ q) (wide := bitsI q - 1) (by omega)
    have i3 := encBits_inside (n := lowQ q) (wide := bitsI q - 1) g2 (by omega)
    exact ⟨g3, by omega, i1.trans (i2.trans i3), i2.trans i3⟩
def putL (T : Nat → Bool) (q : Nat → Int) (E : EncS) : Nat → EncS × List Int
  | 0 => (E, List.replicate 13 1)
  | n + 1 => if T n then (putX (putL T q E n).1 (putL T q E n).2 (q n), learnP (putL T q E n).2 (bitsI (q n))) else putL T q E n
theorem putL_zero (T : Nat → Bool) (q : Nat → Int) (E : EncS) : putL T q E 0 = (E, List.replicate 13 1) := rfl
theorem putL_told {T : Nat → Bool} {n : Nat} (q : Nat → Int) (E : EncS) (h : T n = true) : putL T q E (n + 1) = (putX (putL T q E n).1 (putL T q E n).2 (q n), learnP (putL T q E n).2 (bitsI (q n))) := if_pos h
theorem putL_not {T : Nat → Bool} {n : Nat} (q : Nat → Int) (E : EncS) (h : T n = false) : putL T q E (n + 1) = putL T q E n := if_neg (by rw [h]; decide)
theorem putL_skip {T : Nat → Bool} {a b : Nat} (q : Nat → Int) (E : EncS) (hab : a ≤ b) (h : ∀ i, a ≤ i → i < b → T i = false) : putL T q E b = putL T q E a := by
  obtain ⟨d, rfl⟩ : ∃ d, b = a + d := ⟨b - a, by omega⟩
  clear hab
  induction d with
  | zero => rfl
  | succ d ih => rw [show a + (d + 1) = (a + d) + 1 by omega, putL_not q E (h (a + d) (by omega) (by omega)), ih fun i h0 h1 => h i h0 (by omega)]
theorem putL_good {T : Nat → Bool} {q : Nat → Int} {E : EncS} (hG : GoodE E) (hq : ∀ i, -4095 ≤ q i ∧ q i ≤ 4095) : ∀ n, GoodE (putL T q E n).1 ∧ GoodL (putL T q E n).2 ∧ (putL T q E n).2.length = 13 ∧ (putL T q E n).1.k ≤ E.k + 10 * n := by
  intro n
  induction n with
  | zero => exact ⟨hG, goodL_ones (by decide) (by decide), by rw [putL_zero]; simp, by rw [putL_zero]; simp⟩
  | succ n ih =>
    obtain ⟨a, b, c, d⟩ := ih
    cases h : T n with
    | true =>
      rw [putL_told q E h]
      obtain ⟨g1, g2, g3, _⟩ := putX_good a b c (hq n)
      have hs : bitsI (q n) < (putL T q E n).2.length := by have := bits_12 (hq n); omega
      exact ⟨g1, learnP_good b hs, (learnP_len _ _).trans c, by simp only; omega⟩
    | false => rw [putL_not q E h]; exact ⟨a, b, c, by omega⟩
theorem putL_step {T : Nat → Bool} {q : Nat → Int} {E : EncS} (hG : GoodE E) (hq : ∀ i, -4095 ≤ q i ∧ q i ≤ 4095) (n : Nat) : Inside (putL T q E n).1 (putL T q E (n + 1)).1 := by
  obtain ⟨a, b, c, d⟩ := putL_good (T := T) hG hq n
  cases h : T n with
  | true => rw [putL_told q E h]; exact (putX_good a b c (hq n)).2.2.1
  | false => rw [putL_not q E h]; exact Inside.refl _
theorem putL_inside {T : Nat → Bool} {q : Nat → Int} {E : EncS} (hG : GoodE E) (hq : ∀ i, -4095 ≤ q i ∧ q i ≤ 4095) (j n : Nat) : Inside (putL T q E j).1 (putL T q E (j + n)).1 := by
  induction n with
  | zero => exact Inside.refl _
  | succ n ih => exact ih.trans (putL_step hG hq (j + n))
def mixW (seed line : Int) : Int := (seed * 2654435761 + line % 4294967296 * 40503 + 12345) % 4294967296 * 1664525 % 4294967296
theorem mixW_bd (seed line : Int) : 0 ≤ mixW seed line ∧ mixW seed line ≤ 4294967295 := by unfold mixW; omega
def noiseR (seed line n : Int) : Int := if n < 3 then 0 else if mixW seed line / 2147483648 = 1 then -(P2 (n - 2).toNat) else P2 (n - 2).toNat
def noiseP (seed line n : Int) : Int := if 26 < n then 0 else noiseR seed line n
theorem noiseP_in {n : Int} (seed line : Int) (h : n ≤ 26) : noiseP seed line n = noiseR seed line n := if_neg (by omega)
theorem noiseR_none {n : Int} (seed line : Int) (h : n < 3) : noiseR seed line n = 0 := if_pos h
theorem noiseR_some {n : Int} (seed line : Int) (h : 3 ≤ n) : noiseR seed line n = if mixW seed line / 2147483648 = 1 then -(P2 (n - 2).toNat) else P2 (n - 2).toNat := if_neg (by omega)
theorem noiseP_bd {n : Int} (seed line : Int) : -16777216 ≤ noiseP seed line n ∧ noiseP seed line n ≤ 16777216 := by
  unfold noiseP
  split
  · decide
  · unfold noiseR
    split
    · decide
    · have h1 := P2_mono (a := (n - 2).toNat) (b := 24) (by omega)
      rw [show P2 24 = 16777216 by decide] at h1
      have h2 := P2_pos (n - 2).toNat
      split <;> omega
end Go.Proofs.YtmgfkdmjgjlkjaaGreat

namespace Go.Proofs.YtmgfkdmjgjlkjaaGreat
open Go
set_option linter.unusedVariables false
set_option linter.unusedSimpArgs false
def Costs (e f : EncS) (c : Int) : Prop := e.k ≤ f.k ∧ e.s * P256 (f.k - e.k) ≤ f.s * c
theorem Costs.refl (e : EncS) : Costs e e 1 := by
  unfold Costs
  rw [Nat.sub_self]
  exact ⟨Nat.le_refl _, Int.le_refl _⟩
theorem Costs.trans {e f g : EncS} {c d : Int} (h : Costs e f c) (k : Costs f g d) (hc : 0 ≤ c) : Costs e g (c * d) := by
  obtain ⟨h1, h2⟩ := h
  obtain ⟨k1, k2⟩ := k
  have p := P256_pos (g.k - f.k)
  have x : g.k - e.k = (f.k - e.k) + (g.k - f.k) := by omega
  refine ⟨by omega, ?_⟩
  rw [x, P256_add, ← Int.mul_assoc]
  have a1 := Int.mul_le_mul_of_nonneg_right h2 (show 0 ≤ P256 (g.k - f.k) by omega)
  have a2 := Int.mul_le_mul_of_nonneg_right k2 hc
  have e1 : f.s * c * P256 (g.k - f.k) = f.s * P256 (g.k - f.k) * c := by ac_rfl
  have e2 : g.s * d * c = g.s * (c * d) := by ac_rfl
  omega
theorem Costs.mono {e f : EncS} {c d : Int} (h : Costs e f c) (hs : 0 ≤ f.s) (hcd : c ≤ d) : Costs e f d :=
  ⟨h.1, Int.le_trans h.2 (Int.mul_le_mul_of_nonneg_left hcd hs)⟩
theorem put_costs {e : EncS} {low own all c : Int} (h : e.s ≤ e.s / all * own * c) : Costs e (encPut e low own all) c := by
  have hk : (encPre e low own all).k = e.k := rfl
  have hs : (encPre e low own all).s = e.s / all * own := rfl
  obtain ⟨i1, i2, i3⟩ := scaleE_inside (encPre e low own all)
  have j1 := i1.1
  rw [hk] at i3 j1
  rw [hs] at i3
  refine ⟨j1, ?_⟩
  show e.s * P256 ((scaleE (encPre e low own all)).k - e.k) ≤ (scaleE (encPre e low own all)).s * c
  rw [i3]
  have p := P256_pos ((scaleE (encPre e low own all)).k - e.k)
  have a := Int.mul_le_mul_of_nonneg_right h (show 0 ≤ P256 ((scaleE (encPre e low own all)).k - e.k) by omega)
  have e1 : ∀ x y z : Int, x * y * z = x * z * y := fun x y z => by ac_rfl
  rw [e1 (e.s / all * own) c] at a
  exact a
theorem bits_costs {e : EncS} (n : Int) {wide : Nat} (h : GoodE e) (h0 : 0 < wide) (h1 : wide ≤ 12) : Costs e (encBits e n wide) (P2 wide + 1) := by
  rw [encBits_low _ _ h0 h1]
  apply put_costs
  have p := P2_pos wide
  have q := P2_12 h1
  obtain ⟨g1, g2, _, _⟩ := h
  have m : 4096 ≤ e.s / P2 wide := by
    rw [Int.le_ediv_iff_mul_le (by omega)]; omega
  have r := Int.lt_ediv_add_one_mul_self e.s (show 0 < P2 wide by omega)
  generalize e.s / P2 wide = Q at m r
  rw [Int.add_mul] at r
  rw [Int.mul_one, Int.mul_add]
  omega
theorem difL_ten : ∀ j, j < 32 → 10 ≤ difL.getD j 0 := by decide
theorem difL_all : difL.sum = 7270 := by decide
theorem dif_costs {e : EncS} (h : GoodE e) {s : Nat} (hs : s < difL.length) : Costs e (encSym e difL s) 728 := by
  apply put_costs
  rw [difL_all]
  have o := difL_ten s (by rw [← difL_len]; exact hs)
  obtain ⟨g1, g2, _, _⟩ := h
  generalize difL.getD s 0 = O at o
  have a : e.s / 7270 * 10 ≤ e.s / 7270 * O := Int.mul_le_mul_of_nonneg_left o (by omega)
  have b : e.s / 7270 * 10 * 728 ≤ e.s / 7270 * O * 728 := by omega
  omega
theorem putW_costs {q : Bool} {e : EncS} {a d : Int} (h : GoodE e) : Costs e (putW q e a d) 728 := by
  cases q
  · rw [putW_diff]; exact dif_costs h (dif_lt _)
  · have g := (putW_good (q := true) (a := a) (d := d) h).1.1
    rw [putW_alone] at g ⊢
    exact (bits_costs a h (by decide) (by decide)).mono (by omega) (by decide)
theorem putN_costs {q : Bool} {e : EncS} {f d : Nat → Int} (h : GoodE e) : ∀ n, Costs e (putN q e f d n) (728 ^ n) := by
  intro n
  induction n with
  | zero => exact Costs.refl e
  | succ n ih =>
    rw [putN_succ, Int.pow_succ]
    exact ih.trans (putW_costs (putN_good h n).1) (Int.le_of_lt (Int.pow_pos (by decide)))
def headE (wh br qu lo : Int) : EncS := encBits (encBits (encBits (encBits encNew wh 1) br 1) qu 4) lo 5
theorem bits_good12 {e : EncS} {n : Int} {wide : Nat} (h : GoodE e) (h1 : wide ≤ 12) : GoodE (encBits e n wide) ∧ Inside e (encBits e n wide) ∧ (encBits e n wide).k ≤ e.k + 2 := by
  by_cases h0 : wide = 0
  · subst h0; exact ⟨h, Inside.refl e, by rw [encBits_zero]; omega⟩
  · rw [encBits_low _ _ (by omega) h1]
    have o := okP_bit h1 (bit_part n).1 (bit_part n).2
    exact ⟨encPut_good h o, encPut_inside h o, encPut_k _ _ _ _⟩
theorem headE_good (wh br qu lo : Int) : GoodE (headE wh br qu lo) ∧ (headE wh br qu lo).k ≤ 8 := by
  obtain ⟨a1, a2, a3⟩ := bits_good12 (n := wh) (wide := 1) goodE_new (by decide)
  obtain ⟨b1, b2, b3⟩ := bits_good12 (n := br) (wide := 1) a1 (by decide)
  obtain ⟨c1, c2, c3⟩ := bits_good12 (n := qu) (wide := 4) b1 (by decide)
  obtain ⟨d1, d2, d3⟩ := bits_good12 (n := lo) (wide := 5) c1 (by decide)
  refine ⟨d1, ?_⟩
  have z : encNew.k = 0 := rfl
  unfold headE
  omega
theorem headE_costs (wh br qu lo : Int) : Costs encNew (headE wh br qu lo) 5049 := by
  obtain ⟨a1, _, _⟩ := bits_good12 (n := wh) (wide := 1) goodE_new (by decide)
  obtain ⟨b1, _, _⟩ := bits_good12 (n := br) (wide := 1) a1 (by decide)
  obtain ⟨c1, _, _⟩ := bits_good12 (n := qu) (wide := 4) b1 (by decide)
  have a := bits_costs wh goodE_new (wide := 1) (by decide) (by decide)
  have b := bits_costs br a1 (wide := 1) (by decide) (by decide)
  have c := bits_costs qu b1 (wide := 4) (by decide) (by decide)
  have d := bits_costs lo c1 (wide := 5) (by decide) (by decide)
  rw [show P2 1 + 1 = 3 by decide] at a b
  rw [show P2 4 + 1 = 17 by decide] at c
  rw [show P2 5 + 1 = 33 by decide] at d
  have x := ((a.trans b (by decide)).trans c (by decide)).trans d (by decide)
  exact x
def ceilE (wh : Bool) (br qu lo : Int) (l ah : Nat → Int) : EncS := putN wh (headE (if wh then 1 else 0) br qu lo) l ah 21
theorem ceilE_good (wh : Bool) (br qu lo : Int) (l ah : Nat → Int) : GoodE (ceilE wh br qu lo l ah) ∧ (ceilE wh br qu lo l ah).k ≤ 92 := by
  obtain ⟨a, b⟩ := headE_good (if wh then 1 else 0) br qu lo
  obtain ⟨c, d, _⟩ := putN_good (q := wh) (f := l) (d := ah) a 21
  exact ⟨c, by unfold ceilE; omega⟩
theorem ceilE_k (wh : Bool) (br qu lo : Int) (l ah : Nat → Int) : (ceilE wh br qu lo l ah).k ≤ 26 := by
  obtain ⟨g1, g2, _, _⟩ := (ceilE_good wh br qu lo l ah).1
  obtain ⟨_, c⟩ := (headE_costs (if wh then 1 else 0) br qu lo).trans (putN_costs (q := wh) (f := l) (d := ah) (headE_good (if wh then 1 else 0) br qu lo).1 21) (by decide)
  change encNew.s * P256 ((ceilE wh br qu lo l ah).k - encNew.k) ≤ (ceilE wh br qu lo l ah).s * (5049 * 728 ^ 21) at c
  rw [show encNew.s = 4294967295 from rfl, show encNew.k = 0 from rfl, Nat.sub_zero] at c
  apply Nat.le_of_not_lt
  intro hk
  have e : (ceilE wh br qu lo l ah).k = 27 + ((ceilE wh br qu lo l ah).k - 27) := by omega
  have p := P256_pos ((ceilE wh br qu lo l ah).k - 27)
  rw [e, P256_add] at c
  have big : (5049 * 728 ^ 21 : Int) < P256 27 := by unfold P256; decide
  have m : P256 27 * 1 ≤ P256 27 * P256 ((ceilE wh br qu lo l ah).k - 27) := Int.mul_le_mul_of_nonneg_left (by omega) (Int.le_of_lt (Int.lt_of_lt_of_le (by decide) (P256_pos 27)))
  have u : (ceilE wh br qu lo l ah).s * (5049 * 728 ^ 21) ≤ 4294967295 * (5049 * 728 ^ 21) := Int.mul_le_mul_of_nonneg_right g2 (by decide)
  generalize P256 27 * P256 ((ceilE wh br qu lo l ah).k - 27) = M at c m
  generalize P256 27 = N at big m
  generalize (5049 * 728 ^ 21 : Int) = W at big u c
  omega
def bytesE (e : EncS) : List Int := bytesL (digL e.n (e.k + 4))
theorem bytesE_le (e : EncS) : (bytesE e).length ≤ e.k + 4 := bytesL_le e
def IsLoss (B : Nat) (E : Nat → EncS) (x : Nat) : Prop := x < 32 ∧ (bytesE (E x)).length ≤ B ∧ ∀ j, j < x → B < (bytesE (E j)).length
theorem IsLoss.same {B : Nat} {E : Nat → EncS} {x y : Nat} (h : IsLoss B E x) (k : IsLoss B E y) : x = y := by
  obtain ⟨h1, h2, h3⟩ := h
  obtain ⟨k1, k2, k3⟩ := k
  by_cases a : x < y
  · have := k3 x a; omega
  · by_cases b : y < x
    · have := h3 y b; omega
    · omega
end Go.Proofs.YtmgfkdmjgjlkjaaGreat

namespace Go.Proofs.YtmgfkdmjgjlkjaaGreat
open Go.RowKit
set_option linter.unusedVariables false
theorem wide32_any (n : Int) (w : World) (h : -2147483648 ≤ n) (h' : n ≤ 2147483647) : Calls Tryz.prog 172 #[.int .i32 n] w fun e w' => e = .returned (.int .i64 n) ∧ w = w' := by
  go_enter Tryz.func172, Tryz.ntmps172
  go_wp2
  go_ret
  exact ⟨rfl, rfl⟩
theorem round_out (n b : Int) (w : World) (h : b < 0 ∨ 62 < b) :
    Calls Tryz.prog 171 #[.int .i64 n, .int .i64 b] w fun e w' => e = .returned (.int .i64 (rndP n b)) ∧ w = w' := by
  rw [rndP_out h]
  rcases h with h | h
  · go_enter Tryz.func171, Tryz.ntmps171
    go_wp2
    go_ret
    exact ⟨rfl, rfl⟩
  · have h' : 0 ≤ b := by omega
    go_enter Tryz.func171, Tryz.ntmps171
    go_wp2
    go_ret
    exact ⟨rfl, rfl⟩
theorem round_zero (n : Int) (w : World) :
    Calls Tryz.prog 171 #[.int .i64 n, .int .i64 0] w fun e w' => e = .returned (.int .i64 (rndP n 0)) ∧ w = w' := by
  rw [rndP_zero]
  go_enter Tryz.func171, Tryz.ntmps171
  go_wp2
  go_ret
  exact ⟨rfl, rfl⟩
theorem round_in (n b : Int) (w : World) (hn : -9223372036854775808 ≤ n) (hn' : n ≤ 9223372036854775807) (hb : 1 ≤ b) (hb' : b ≤ 62) :
    Calls Tryz.prog 171 #[.int .i64 n, .int .i64 b] w fun e w' => e = .returned (.int .i64 (rndP n b)) ∧ w = w' := by
  have hq := half_bits (k := b.toNat) hn hn'
  have hr := rndP_bd (b := b) hn hn'
  have he := rndP_bits (n := n) hb hb'
  rw [he] at hr ⊢
  have ha : RowKit.Hid (wrap64 (n / 2 ^ b.toNat + bits BinOp.and IntKind.i64 (n / 2 ^ (b.toNat - 1)) 1) = n / 2 ^ b.toNat + n / 2 ^ (b.toNat - 1) % 2) := by
    rw [i64_and1]; exact IntWalk.wrap64_in _ hr
  clear he hr
  go_enter Tryz.func171, Tryz.ntmps171
  go_wp2
  go_ret
  exact ⟨ret_int ha.out, rfl⟩
theorem round_any (n b : Int) (w : World) (hn : -9223372036854775808 ≤ n) (hn' : n ≤ 9223372036854775807) :
    Calls Tryz.prog 171 #[.int .i64 n, .int .i64 b] w fun e w' => e = .returned (.int .i64 (rndP n b)) ∧ w = w' := by
  by_cases h : b < 0 ∨ 62 < b
  · exact round_out n b w h
  · by_cases h0 : b = 0
    · subst h0; exact round_zero n w
    · exact round_in n b w hn hn' (by omega) (by omega)
theorem sat_any (n b : Int) (w : World) (hn : -9223372036854775808 ≤ n) (hn' : n ≤ 9223372036854775807) :
    Calls Tryz.prog 175 #[.int .i64 n, .int .i64 b] w fun e w' => e = .returned (.int .i64 (satP n b)) ∧ w = w' := by
  by_cases h : b < 1 ∨ 64 < b
  · rw [satP_out h]
    rcases h with h | h
    · go_enter Tryz.func175, Tryz.ntmps175
      go_wp2
      go_ret
      exact ⟨rfl, rfl⟩
    · have h' : 1 ≤ b := by omega
      go_enter Tryz.func175, Tryz.ntmps175
      go_wp2
      go_ret
      exact ⟨rfl, rfl⟩
  · have hb : 1 ≤ b := by omega
    have hb' : b ≤ 64 := by omega
    have hG := greatest_eq hb hb'
    have hp := P2_pos (b.toNat - 1)
    have hp' := P2_le63 (k := b.toNat - 1) (by omega)
    clear h
    rw [satP_in hb hb']
    go_enter Tryz.func175, Tryz.ntmps175
    go_wp2
    all_goals (go_ret; exact ⟨ret_int (by omega), rfl⟩)
theorem mul_any (a b c : Int) (w : World) (ha : -2147483648 ≤ a) (ha' : a ≤ 2147483647) (hb : -2147483648 ≤ b) (hb' : b ≤ 2147483647) :
    Calls Tryz.prog 182 #[.int .i32 a, .int .i32 b, .int .i64 c] w fun e w' => e = .returned (.int .i32 (mulP a b c)) ∧ w = w' := by
  obtain ⟨h1, h2⟩ := prod_bd ha ha' hb hb'
  have h3 := rndP_bd (n := a * b) (b := c) (by omega) (by omega)
  have h4 := satP_bd32 (rndP (a * b) c)
  go_enter Tryz.func182, Tryz.ntmps182
  go_wp2_with (first | (go_at_call 172; refine (wide32_any _ _ (by omega) (by omega)).mono ?_; rintro e w' ⟨rfl, rfl⟩) | (go_at_call 171; refine (round_any _ _ _ (by omega) (by omega)).mono ?_; rintro e w' ⟨rfl, rfl⟩) | (go_at_call 175; refine (sat_any _ _ _ (by omega) (by omega)).mono ?_; rintro e w' ⟨rfl, rfl⟩))
  go_ret
  exact ⟨rfl, rfl⟩
theorem root_any (n : Int) (w : World) (hn : 0 ≤ n) (hn' : n ≤ 18446744073709551615) :
    Calls Tryz.prog 179 #[.int .u64 n] w fun e w' => e = .returned (.int .u32 (rootP n)) ∧ w = w' := by
  have hstart := Lib.hid (rootUpTo_32 hn hn')
  go_enter Tryz.func179, Tryz.ntmps179
  go_wp2
  go_loop [3, 4] (fun r t => ∃ (k : Nat) (t0 r0 : Int), t = .int .u64 t0 ∧ r = .int .u64 r0 ∧ t0 = P2 k / 2 ∧ RootUpTo n r0 k) (fun _ t => (intOf t).toNat)
  case atStart => exact ⟨32, _, _, rfl, rfl, by decide, hstart.out⟩
  case round =>
    obtain ⟨k, t0, r0, rfl, rfl, ht, hR⟩ := hrel
    have H := Lib.hid hR
    clear hR
    cases k with
    | zero =>
      obtain rfl : t0 = 0 := ht
      obtain ⟨h1, h2⟩ := rootUpTo_bd H.out
      have E := Lib.hid (rootUpTo_end H.out)
      go_wp2
      go_ret
      exact ⟨ret_int E.out, rfl⟩
    | succ j =>
      obtain rfl : t0 = P2 j := by rw [ht, P2_half]
      clear ht
      obtain ⟨hor, h1, h2⟩ := rootUpTo_or H.out
      obtain ⟨h3, h4⟩ := sq_lt32 h1 h2
      have p := P2_pos j
      go_wp2
      · have ht : (r0 + P2 j) * (r0 + P2 j) ≤ n := by assumption
        go_round
        case rel => exact ⟨j, _, _, rfl, rfl, rfl, rootUpTo_high H.out ht⟩
        case measure => simp [intOf]; omega
      · have ht : n < (r0 + P2 j) * (r0 + P2 j) := by assumption
        go_round
        case rel => exact ⟨j, _, _, rfl, rfl, rfl, rootUpTo_low H.out ht⟩
        case measure => simp [intOf]; omega
end Go.Proofs.YtmgfkdmjgjlkjaaGreat
