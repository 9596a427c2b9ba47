/- Plain facts, and what functions give, for the proofs of this seat: several texts in one, each with its own first remark. -/
import Derived.Test.YtmgfkdmjgjlkjaaGreatAn

namespace Go.Proofs.YtmgfkdmjgjlkjaaGreat
open Go Go.RowKit
set_option linter.unusedVariables false
def fadeF (j b : Nat) : Int := if j < b then 2 * ((b : Int) - j) else 3 * ((j : Int) - b)
theorem fadeF_same (b : Nat) : fadeF b b = 0 := by unfold fadeF; rw [if_neg (by omega)]; omega
theorem fadeF_below {j b : Nat} (h : j < b) : fadeF j b = 2 * ((b : Int) - j) := if_pos h
theorem fadeF_above {j b : Nat} (h : ¬ j < b) : fadeF j b = 3 * ((j : Int) - b) := if_neg h
theorem fadeF_bd {j b : Nat} (hj : j < 21) (hb : b < 21) : 0 ≤ fadeF j b ∧ fadeF j b ≤ 60 := by unfold fadeF; split <;> omega
def thrTo (l : Nat → Int) (b : Nat) : Nat → Int
  | 0 => 0
  | n + 1 => max (thrTo l b n) (l n - fadeF n b)
theorem thrTo_succ (l : Nat → Int) (b n : Nat) : thrTo l b (n + 1) = max (thrTo l b n) (l n - fadeF n b) := rfl
theorem thrTo_bd {l : Nat → Int} {b : Nat} (hb : b < 21) : ∀ n, n ≤ 21 → (∀ j, j < n → 0 ≤ l j ∧ l j ≤ 26) → 0 ≤ thrTo l b n ∧ thrTo l b n ≤ 26 := by
  intro n
  induction n with
  | zero => intro _ _; exact ⟨Int.le_refl 0, by show (0 : Int) ≤ 26; decide⟩
  | succ n ih =>
    intro hn h
    have h1 := ih (by omega) fun j hj => h j (by omega)
    have h2 := h n (by omega)
    have h3 := fadeF_bd (j := n) (by omega) hb
    rw [thrTo_succ]; omega
theorem thrTo_ge {l : Nat → Int} {b : Nat} : ∀ n j, j < n → l j - fadeF j b ≤ thrTo l b n := by
  intro n
  induction n with
  | zero => intro j hj; omega
  | succ n ih =>
    intro j hj
    rw [thrTo_succ]
    by_cases e : j = n
    · subst e; omega
    · have := ih j (by omega); omega
theorem thrTo_own {l : Nat → Int} {b : Nat} (hb : b < 21) : l b ≤ thrTo l b 21 := by
  have := thrTo_ge (l := l) (b := b) 21 b hb
  rw [fadeF_same] at this; omega
def stepF (l : Nat → Int) (q x : Int) (b : Nat) : Int := min (max (max (thrTo l b 21 - q + x) (l b - 12)) 0) (l b)
theorem stepF_bd {l : Nat → Int} (q x : Int) {b : Nat} (h : 0 ≤ l b) : 0 ≤ stepF l q x b ∧ stepF l q x b ≤ l b ∧ l b - 12 ≤ stepF l q x b := by unfold stepF; omega
theorem stepF_worst {l : Nat → Int} {q : Int} {b : Nat} (h : 0 ≤ l b) (hb : b < 21) (hq : q ≤ 10) : stepF l q 31 b = l b := by
  have := thrTo_own (l := l) hb
  unfold stepF; omega
def oneF (n s : Int) : Int := if s < n then 2 ^ s.toNat else 2 ^ (n.toNat + 1)
theorem oneF_told {n s : Int} (h : s < n) : oneF n s = 2 ^ s.toNat := if_pos h
theorem oneF_not {n s : Int} (h : ¬ s < n) : oneF n s = 2 ^ (n.toNat + 1) := if_neg h
theorem pow_bd27 {k : Nat} (h : k ≤ 27) : (1 : Int) ≤ 2 ^ k ∧ (2 : Int) ^ k ≤ 134217728 := by
  constructor
  · exact Int.le_of_lt_add_one (by have := Int.pow_pos (n := 2) (m := k) (by decide); omega)
  · have h1 : (2 : Nat) ^ k ≤ 2 ^ 27 := Nat.pow_le_pow_right (by decide) h
    have h2 : ((2 ^ k : Nat) : Int) = (2 : Int) ^ k := by rw [Int.natCast_pow]; rfl
    have h3 : (2 : Nat) ^ 27 = 134217728 := by decide
    omega
theorem oneF_bd {n s : Int} (hn : n ≤ 26) (hs : s ≤ 26) : 1 ≤ oneF n s ∧ oneF n s ≤ 134217728 := by
  unfold oneF; split
  · exact pow_bd27 (by omega)
  · exact pow_bd27 (by omega)
def reachTo (l s : Nat → Int) : Nat → Int
  | 0 => 0
  | n + 1 => reachTo l s n + ((edgeK (n + 1) : Int) - edgeK n) * oneF (l n) (s n)
theorem reachTo_succ (l s : Nat → Int) (n : Nat) : reachTo l s (n + 1) = reachTo l s n + ((edgeK (n + 1) : Int) - edgeK n) * oneF (l n) (s n) := rfl
theorem reachTo_bd {l s : Nat → Int} : ∀ n, n ≤ 21 → (∀ j, j < n → l j ≤ 26 ∧ s j ≤ 26) → 0 ≤ reachTo l s n ∧ reachTo l s n ≤ 68719476736 * n := by
  intro n
  induction n with
  | zero => intro _ _; exact ⟨Int.le_refl 0, by show (0 : Int) ≤ _; decide⟩
  | succ n ih =>
    intro hn h
    have h1 := ih (by omega) fun j hj => h j (by omega)
    have h2 := h n (by omega)
    obtain ⟨e1, e2⟩ := edgeK_lt n (by omega)
    obtain ⟨o1, o2⟩ := oneF_bd (n := l n) (s := s n) h2.1 h2.2
    rw [reachTo_succ]
    generalize oneF (l n) (s n) = y at o1 o2
    have m1 : ((edgeK (n + 1) : Int) - edgeK n) * y ≤ 512 * 134217728 := Int.mul_le_mul (by omega) o2 (by omega) (by decide)
    have m0 : 0 ≤ ((edgeK (n + 1) : Int) - edgeK n) * y := Int.mul_nonneg (by omega) (by omega)
    omega
end Go.Proofs.YtmgfkdmjgjlkjaaGreat

namespace Go.Proofs.YtmgfkdmjgjlkjaaGreat
open Go Go.RowKit
set_option linter.unusedVariables false
theorem of_all : ((List.range 21).all fun b => (List.range 512).all fun i => !(decide (edgeK b ≤ i) && decide (i < edgeK (b + 1))) || decide (ofN i = b)) = true := by decide +kernel
theorem of_band {b i : Nat} (hb : b < 21) (h0 : edgeK b ≤ i) (h1 : i < edgeK (b + 1)) : ofN i = b := by
  have he := edgeK_lt b hb
  have h := of_all
  rw [List.all_eq_true] at h
  have h2 := h b (List.mem_range.2 hb)
  rw [List.all_eq_true] at h2
  have h3 := h2 i (List.mem_range.2 (by omega))
  simpa [h0, h1] using h3
theorem of_lt {i : Nat} (h : i < 512) : ofN i < 21 := (ofN_all i h).2.1
theorem edgeK_zero : edgeK 0 = 0 := by decide
theorem edgeK_last : edgeK 21 = 512 := by decide
theorem P2_nat (k : Nat) : P2 k = ((2 ^ k : Nat) : Int) := by unfold P2; rw [Int.natCast_pow]; rfl
def numQ (x s n : Int) : Int := max (-(P2 (n - s).toNat - 1)) (min (rndP x s) (P2 (n - s).toNat - 1))
theorem numQ_bd (x s n : Int) : -(P2 (n - s).toNat - 1) ≤ numQ x s n ∧ numQ x s n ≤ P2 (n - s).toNat - 1 := by
  have := P2_pos (n - s).toNat
  unfold numQ; omega
theorem P2_12 {k : Nat} (h : k ≤ 12) : P2 k ≤ 4096 := by
  have := P2_mono (a := k) (b := 12) h
  rw [show P2 12 = 4096 by decide] at this
  exact this
theorem numQ_12 {s n : Int} (x : Int) (h : n - s ≤ 12) : -4095 ≤ numQ x s n ∧ numQ x s n ≤ 4095 := by
  have := P2_12 (k := (n - s).toNat) (by omega)
  have := numQ_bd x s n
  omega
theorem bits_le {q : Int} {k : Nat} (h0 : -(P2 k - 1) ≤ q) (h1 : q ≤ P2 k - 1) : bitsI q ≤ k := by
  rw [P2_nat] at h0 h1
  exact bitLen_le (by omega)
theorem numQ_bits (x s n : Int) : bitsI (numQ x s n) ≤ (n - s).toNat := bits_le (numQ_bd x s n).1 (numQ_bd x s n).2
theorem bits_12 {q : Int} (h : -4095 ≤ q ∧ q ≤ 4095) : bitsI q ≤ 12 := bits_le (by rw [show P2 12 = 4096 by decide]; omega) (by rw [show P2 12 = 4096 by decide]; omega)
theorem bits_none {q : Int} : bitsI q = 0 ↔ q = 0 := by
  constructor
  · intro h
    have := (bitLen_spec q.natAbs).1
    unfold bitsI at h
    rw [h] at this
    omega
  · rintro rfl; rfl
def lowQ (q : Int) : Int := (q.natAbs : Int) - P2 (bitsI q - 1)
theorem lowQ_bd {q : Int} (h : q ≠ 0) : 0 ≤ lowQ q ∧ lowQ q < P2 (bitsI q - 1) := by
  obtain ⟨h1, h2⟩ := bitLen_spec q.natAbs
  have h3 := h2 (by omega)
  have h4 : bitsI q ≠ 0 := fun e => h (bits_none.1 e)
  have h5 : 2 ^ bitsI q = 2 ^ (bitsI q - 1) * 2 := by rw [← Nat.pow_succ]; congr 1; omega
  unfold lowQ
  rw [P2_nat]
  unfold bitsI at *
  omega
def signQ (q : Int) : Int := if q < 0 then 1 else 0
theorem signQ_bd (q : Int) : 0 ≤ signQ q ∧ signQ q ≤ 1 := by unfold signQ; split <;> omega
def putX (E : EncS) (L : List Int) (q : Int) : EncS := if q = 0 then encSym E L 0 else encBits (encBits (encSym E L (bitsI q)) (signQ q) 1) (lowQ q) (bitsI q - 1)
theorem putX_none (E : EncS) (L : List Int) {q : Int} (h : q = 0) : putX E L q = encSym E L (bitsI q) := by unfold putX; rw [if_pos h, bits_none.2 h]
theorem putX_some (E : EncS) (L : List Int) {q : Int} (h : q ≠ 0) : putX E L q = encBits (encBits (encSym E L (bitsI q)) (signQ q) 1) (lowQ q) (bitsI q - 1) := if_neg h
theorem putX_good {E : EncS} {L : List Int} {q : Int} (hG : GoodE E) (hL : GoodL L) (hl : L.length = 13) (hq : -4095 ≤ q ∧ q ≤ 4095) :
    GoodE (putX E L q) ∧ (putX E L q).k ≤ E.k + 10 ∧ Inside E (putX E L q) ∧ Inside (encSym E L (bitsI q)) (putX E L q) := by
  have hb := bits_12 hq
  have hs : bitsI q < L.length := by omega
  have g1 := encSym_good hG hL hs
  have k1 := encSym_k E L (bitsI q)
  have i1 := encSym_inside hG hL hs
  by_cases h : q = 0
  · rw [putX_none E L h]
    exact ⟨g1, by omega, i1, Inside.refl _⟩
  · rw [putX_some E L h]
    have g2 := encBits_good (n := signQ q) (wide := 1) g1 (by decide)
    have k2 := encBits_k (encSym E L (bitsI q)) (signQ q) (wide := 1) (by decide)
    have i2 := encBits_inside (n := signQ q) (wide := 1) g1 (by decide)
    have g3 := encBits_good (n := lowQ q) (wide := bitsI q - 1) g2 (by omega)
    have k3 := encBits_k (encBits (encSym E L (bitsI q)) (signQ q) 1) (lowQ q) (wide := bitsI q - 1) (by omega)
    have i3 := encBits_inside (n := lowQ q) (wide := bitsI q - 1) g2 (by omega)
    exact ⟨g3, by omega, i1.trans (i2.trans i3), i2.trans i3⟩
def putL (T : Nat → Bool) (q : Nat → Int) (E : EncS) : Nat → EncS × List Int
  | 0 => (E, List.replicate 13 1)
  | n + 1 => if T n then (putX (putL T q E n).1 (putL T q E n).2 (q n), learnP (putL T q E n).2 (bitsI (q n))) else putL T q E n
theorem putL_zero (T : Nat → Bool) (q : Nat → Int) (E : EncS) : putL T q E 0 = (E, List.replicate 13 1) := rfl
theorem putL_told {T : Nat → Bool} {n : Nat} (q : Nat → Int) (E : EncS) (h : T n = true) : putL T q E (n + 1) = (putX (putL T q E n).1 (putL T q E n).2 (q n), learnP (putL T q E n).2 (bitsI (q n))) := if_pos h
theorem putL_not {T : Nat → Bool} {n : Nat} (q : Nat → Int) (E : EncS) (h : T n = false) : putL T q E (n + 1) = putL T q E n := if_neg (by rw [h]; decide)
theorem putL_skip {T : Nat → Bool} {a b : Nat} (q : Nat → Int) (E : EncS) (hab : a ≤ b) (h : ∀ i, a ≤ i → i < b → T i = false) : putL T q E b = putL T q E a := by
  obtain ⟨d, rfl⟩ : ∃ d, b = a + d := ⟨b - a, by omega⟩
  clear hab
  induction d with
  | zero => rfl
  | succ d ih => rw [show a + (d + 1) = (a + d) + 1 by omega, putL_not q E (h (a + d) (by omega) (by omega)), ih fun i h0 h1 => h i h0 (by omega)]
theorem putL_good {T : Nat → Bool} {q : Nat → Int} {E : EncS} (hG : GoodE E) (hq : ∀ i, -4095 ≤ q i ∧ q i ≤ 4095) : ∀ n, GoodE (putL T q E n).1 ∧ GoodL (putL T q E n).2 ∧ (putL T q E n).2.length = 13 ∧ (putL T q E n).1.k ≤ E.k + 10 * n := by
  intro n
  induction n with
  | zero => exact ⟨hG, goodL_ones (by decide) (by decide), by rw [putL_zero]; simp, by rw [putL_zero]; simp⟩
  | succ n ih =>
    obtain ⟨a, b, c, d⟩ := ih
    cases h : T n with
    | true =>
      rw [putL_told q E h]
      obtain ⟨g1, g2, g3, _⟩ := putX_good a b c (hq n)
      have hs : bitsI (q n) < (putL T q E n).2.length := by have := bits_12 (hq n); omega
      exact ⟨g1, learnP_good b hs, (learnP_len _ _).trans c, by simp only; omega⟩
    | false => rw [putL_not q E h]; exact ⟨a, b, c, by omega⟩
theorem putL_step {T : Nat → Bool} {q : Nat → Int} {E : EncS} (hG : GoodE E) (hq : ∀ i, -4095 ≤ q i ∧ q i ≤ 4095) (n : Nat) : Inside (putL T q E n).1 (putL T q E (n + 1)).1 := by
  obtain ⟨a, b, c, d⟩ := putL_good (T := T) hG hq n
  cases h : T n with
  | true => rw [putL_told q E h]; exact (putX_good a b c (hq n)).2.2.1
  | false => rw [putL_not q E h]; exact Inside.refl _
theorem putL_inside {T : Nat → Bool} {q : Nat → Int} {E : EncS} (hG : GoodE E) (hq : ∀ i, -4095 ≤ q i ∧ q i ≤ 4095) (j n : Nat) : Inside (putL T q E j).1 (putL T q E (j + n)).1 := by
  induction n with
  | zero => exact Inside.refl _
  | succ n ih => exact ih.trans (putL_step hG hq (j + n))
def getX (b : List Int) (D : DecS) (L : List Int) : Int × DecS :=
  if decWhich D L = 0 then (0, decSym b D L) else
    (if (decBits b (decSym b D L) 0 1).1 = 1 then -((decBits b (decBits b (decSym b D L) 0 1).2 0 (decWhich D L - 1)).1 + P2 (decWhich D L - 1)) else (decBits b (decBits b (decSym b D L) 0 1).2 0 (decWhich D L - 1)).1 + P2 (decWhich D L - 1),
      (decBits b (decBits b (decSym b D L) 0 1).2 0 (decWhich D L - 1)).2)
theorem getX_none (b : List Int) {D : DecS} {L : List Int} (h : decWhich D L = 0) : getX b D L = (0, decSym b D L) := if_pos h
theorem getX_some (b : List Int) {D : DecS} {L : List Int} (h : decWhich D L ≠ 0) : getX b D L =
    (if (decBits b (decSym b D L) 0 1).1 = 1 then -((decBits b (decBits b (decSym b D L) 0 1).2 0 (decWhich D L - 1)).1 + P2 (decWhich D L - 1)) else (decBits b (decBits b (decSym b D L) 0 1).2 0 (decWhich D L - 1)).1 + P2 (decWhich D L - 1),
      (decBits b (decBits b (decSym b D L) 0 1).2 0 (decWhich D L - 1)).2) := if_neg h
theorem decBitsQ_good {b : List Int} {D : DecS} {k : Nat} (hb : ∀ j, 0 ≤ byteF b j ∧ byteF b j ≤ 255) (h : GoodD D) (hk : k ≤ 12) : GoodD (decBits b D 0 k).2 ∧ (decBits b D 0 k).2.i ≤ D.i + 2 ∧ 0 ≤ (decBits b D 0 k).1 ∧ (decBits b D 0 k).1 < P2 k := by
  by_cases h0 : k = 0
  · subst h0
    rw [decBits_zero]
    exact ⟨h, by simp, by simp, by simp [P2]⟩
  · rw [decBits_low b D 0 (by omega) hk]
    have hp := P2_pos k
    have hp2 := P2_12 hk
    obtain ⟨a1, a2, a3⟩ := decAt_bd (all := P2 k) h hp (by omega)
    refine ⟨(decTake_good hb h ⟨hp, by omega, by decide, a1, by omega⟩ a3).1, decTake_i _ _ _ _ _, ?_, ?_⟩
    · simp only; omega
    · simp only; omega
theorem decSymQ_good {b : List Int} {D : DecS} {L : List Int} (hb : ∀ j, 0 ≤ byteF b j ∧ byteF b j ≤ 255) (h : GoodD D) (hL : GoodL L) : GoodD (decSym b D L) ∧ (decSym b D L).i ≤ D.i + 2 ∧ decWhich D L < L.length := by
  obtain ⟨a1, a2, a3, a4⟩ := decWhich_is h hL
  exact ⟨(decTake_good hb h (okP_sym hL a1) a2).1, decTake_i _ _ _ _ _, a1⟩
theorem getX_good {b : List Int} {D : DecS} {L : List Int} (hb : ∀ j, 0 ≤ byteF b j ∧ byteF b j ≤ 255) (h : GoodD D) (hL : GoodL L) (hl : L.length = 13) :
    GoodD (getX b D L).2 ∧ (getX b D L).2.i ≤ D.i + 6 ∧ -(P2 (decWhich D L) - 1) ≤ (getX b D L).1 ∧ (getX b D L).1 ≤ P2 (decWhich D L) - 1 := by
  obtain ⟨s1, s2, s3⟩ := decSymQ_good hb h hL
  by_cases h0 : decWhich D L = 0
  · rw [getX_none b h0, h0]
    exact ⟨s1, by simp only; omega, by simp [P2], by simp [P2]⟩
  · rw [getX_some b h0]
    obtain ⟨t1, t2, t3, t4⟩ := decBitsQ_good (k := 1) hb s1 (by decide)
    obtain ⟨u1, u2, u3, u4⟩ := decBitsQ_good (k := decWhich D L - 1) hb t1 (by omega)
    have hp : P2 (decWhich D L) = P2 (decWhich D L - 1) * 2 := by rw [← P2_succ]; congr 1; omega
    refine ⟨u1, by simp only; omega, ?_, ?_⟩
    · simp only; split <;> omega
    · simp only; split <;> omega
def getL (T : Nat → Bool) (b : List Int) (D : DecS) : Nat → DecS × List Int
  | 0 => (D, List.replicate 13 1)
  | n + 1 => if T n then ((getX b (getL T b D n).1 (getL T b D n).2).2, learnP (getL T b D n).2 (decWhich (getL T b D n).1 (getL T b D n).2)) else getL T b D n
theorem getL_zero (T : Nat → Bool) (b : List Int) (D : DecS) : getL T b D 0 = (D, List.replicate 13 1) := rfl
theorem getL_told {T : Nat → Bool} {n : Nat} (b : List Int) (D : DecS) (h : T n = true) : getL T b D (n + 1) = ((getX b (getL T b D n).1 (getL T b D n).2).2, learnP (getL T b D n).2 (decWhich (getL T b D n).1 (getL T b D n).2)) := if_pos h
theorem getL_not {T : Nat → Bool} {n : Nat} (b : List Int) (D : DecS) (h : T n = false) : getL T b D (n + 1) = getL T b D n := if_neg (by rw [h]; decide)
theorem getL_good {T : Nat → Bool} {b : List Int} {D : DecS} (hb : ∀ j, 0 ≤ byteF b j ∧ byteF b j ≤ 255) (hG : GoodD D) : ∀ n, GoodD (getL T b D n).1 ∧ GoodL (getL T b D n).2 ∧ (getL T b D n).2.length = 13 ∧ (getL T b D n).1.i ≤ D.i + 6 * n := by
  intro n
  induction n with
  | zero => exact ⟨hG, goodL_ones (by decide) (by decide), by rw [getL_zero]; simp, by rw [getL_zero]; simp⟩
  | succ n ih =>
    obtain ⟨p1, p2, p3, p4⟩ := ih
    cases h : T n with
    | true =>
      rw [getL_told b D h]
      obtain ⟨g1, g2, _⟩ := getX_good hb p1 p2 p3
      have hs := (decSymQ_good hb p1 p2).2.2
      exact ⟨g1, learnP_good p2 hs, (learnP_len _ _).trans p3, by simp only; omega⟩
    | false => rw [getL_not b D h]; exact ⟨p1, p2, p3, by omega⟩
def getQ (T : Nat → Bool) (b : List Int) (D : DecS) (i : Nat) : Int := (getX b (getL T b D i).1 (getL T b D i).2).1
def getK (T : Nat → Bool) (b : List Int) (D : DecS) (i : Nat) : Nat := decWhich (getL T b D i).1 (getL T b D i).2
theorem x_back {b : List Int} {E F : EncS} {D : DecS} {L : List Int} {q : Int} (hs : Sync (byteF b) E D) (hG : GoodE E) (hL : GoodL L) (hl : L.length = 13) (hq : -4095 ≤ q ∧ q ≤ 4095) (hi : Inside (putX E L q) F) (hf : 1 ≤ F.s) (hd : DigOf (byteF b) F) :
    (getX b D L).1 = q ∧ decWhich D L = bitsI q ∧ Sync (byteF b) (putX E L q) (getX b D L).2 := by
  have hb := bits_12 hq
  have hsl : bitsI q < L.length := by omega
  have g1 := encSym_good hG hL hsl
  obtain ⟨_, _, _, hin⟩ := putX_good hG hL hl hq
  obtain ⟨s1, s2⟩ := sym_back hs hG hL hsl (hin.trans hi) hf hd
  by_cases h : q = 0
  · have h0 : decWhich D L = 0 := by rw [s1]; exact bits_none.2 h
    rw [getX_none b h0, putX_none E L h]
    exact ⟨h.symm, s1, s2⟩
  · have h0 : decWhich D L ≠ 0 := by rw [s1]; exact fun e => h (bits_none.1 e)
    obtain ⟨l1, l2⟩ := lowQ_bd h
    obtain ⟨n1, n2⟩ := signQ_bd q
    have g2 := encBits_good (n := signQ q) (wide := 1) g1 (by decide)
    rw [putX_some E L h] at hi ⊢
    have i3 := encBits_inside (n := lowQ q) (wide := bitsI q - 1) g2 (by omega)
    obtain ⟨b1, b2⟩ := bits_back (wide := 1) s2 g1 (by decide) n1 (by rw [show P2 1 = 2 by decide]; omega) (i3.trans hi) hf hd
    obtain ⟨c1, c2⟩ := bits_back (wide := bitsI q - 1) b2 g2 (by omega) l1 l2 hi hf hd
    rw [getX_some b h0, s1]
    refine ⟨?_, rfl, c2⟩
    simp only
    rw [b1, c1]
    unfold signQ lowQ
    split <;> split <;> omega
theorem put_got {T : Nat → Bool} {b : List Int} {q : Nat → Int} {E F : EncS} {D : DecS} {n : Nat} (hs : Sync (byteF b) E D) (hG : GoodE E) (hq : ∀ i, -4095 ≤ q i ∧ q i ≤ 4095) (hi : Inside (putL T q E n).1 F) (hf : 1 ≤ F.s) (hd : DigOf (byteF b) F) :
    ∀ j, j ≤ n → Sync (byteF b) (putL T q E j).1 (getL T b D j).1 ∧ (getL T b D j).2 = (putL T q E j).2 ∧ ∀ i, i < j → T i = true → getQ T b D i = q i ∧ getK T b D i = bitsI (q i) := by
  intro j
  induction j with
  | zero => intro _; exact ⟨hs, rfl, fun i hi => by omega⟩
  | succ j ih =>
    intro hj
    obtain ⟨h1, h2, h3⟩ := ih (by omega)
    obtain ⟨p1, p2, p3, p4⟩ := putL_good (T := T) hG hq j
    have hin := putL_inside (T := T) hG hq (j + 1) (n - (j + 1))
    rw [show j + 1 + (n - (j + 1)) = n by omega] at hin
    have hin2 := hin.trans hi
    cases h : T j with
    | true =>
      rw [putL_told q E h] at hin2 ⊢
      rw [getL_told b D h]
      obtain ⟨x1, x2, x3⟩ := x_back h1 p1 p2 p3 (hq j) hin2 hf hd
      rw [h2]
      refine ⟨x3, by simp only; rw [x2], fun i hi ht => ?_⟩
      by_cases e : i = j
      · subst e
        unfold getQ getK
        rw [h2]
        exact ⟨x1, x2⟩
      · exact h3 i (by omega) ht
    | false =>
      rw [putL_not q E h, getL_not b D h]
      refine ⟨h1, h2, fun i hi ht => ?_⟩
      by_cases e : i = j
      · subst e; rw [h] at ht; cases ht
      · exact h3 i (by omega) ht
def mixW (seed line : Int) : Int := (seed * 2654435761 + line % 4294967296 * 40503 + 12345) % 4294967296 * 1664525 % 4294967296
theorem mixW_bd (seed line : Int) : 0 ≤ mixW seed line ∧ mixW seed line ≤ 4294967295 := by unfold mixW; omega
def noiseR (seed line n : Int) : Int := if n < 3 then 0 else if mixW seed line / 2147483648 = 1 then -(P2 (n - 2).toNat) else P2 (n - 2).toNat
def noiseP (seed line n : Int) : Int := if 26 < n then 0 else noiseR seed line n
theorem noiseP_in {n : Int} (seed line : Int) (h : n ≤ 26) : noiseP seed line n = noiseR seed line n := if_neg (by omega)
theorem noiseR_none {n : Int} (seed line : Int) (h : n < 3) : noiseR seed line n = 0 := if_pos h
theorem noiseR_some {n : Int} (seed line : Int) (h : 3 ≤ n) : noiseR seed line n = if mixW seed line / 2147483648 = 1 then -(P2 (n - 2).toNat) else P2 (n - 2).toNat := if_neg (by omega)
theorem noiseP_bd {n : Int} (seed line : Int) : -16777216 ≤ noiseP seed line n ∧ noiseP seed line n ≤ 16777216 := by
  unfold noiseP
  split
  · decide
  · unfold noiseR
    split
    · decide
    · have h1 := P2_mono (a := (n - 2).toNat) (b := 24) (by omega)
      rw [show P2 24 = 16777216 by decide] at h1
      have h2 := P2_pos (n - 2).toNat
      split <;> omega
end Go.Proofs.YtmgfkdmjgjlkjaaGreat

namespace Go.Proofs.YtmgfkdmjgjlkjaaGreat
open Go
set_option linter.unusedVariables false
set_option linter.unusedSimpArgs false
def Costs (e f : EncS) (c : Int) : Prop := e.k ≤ f.k ∧ e.s * P256 (f.k - e.k) ≤ f.s * c
theorem Costs.refl (e : EncS) : Costs e e 1 := by
  unfold Costs
  rw [Nat.sub_self]
  exact ⟨Nat.le_refl _, Int.le_refl _⟩
theorem Costs.trans {e f g : EncS} {c d : Int} (h : Costs e f c) (k : Costs f g d) (hc : 0 ≤ c) : Costs e g (c * d) := by
  obtain ⟨h1, h2⟩ := h
  obtain ⟨k1, k2⟩ := k
  have p := P256_pos (g.k - f.k)
  have x : g.k - e.k = (f.k - e.k) + (g.k - f.k) := by omega
  refine ⟨by omega, ?_⟩
  rw [x, P256_add, ← Int.mul_assoc]
  have a1 := Int.mul_le_mul_of_nonneg_right h2 (show 0 ≤ P256 (g.k - f.k) by omega)
  have a2 := Int.mul_le_mul_of_nonneg_right k2 hc
  have e1 : f.s * c * P256 (g.k - f.k) = f.s * P256 (g.k - f.k) * c := by ac_rfl
  have e2 : g.s * d * c = g.s * (c * d) := by ac_rfl
  omega
theorem Costs.mono {e f : EncS} {c d : Int} (h : Costs e f c) (hs : 0 ≤ f.s) (hcd : c ≤ d) : Costs e f d :=
  ⟨h.1, Int.le_trans h.2 (Int.mul_le_mul_of_nonneg_left hcd hs)⟩
theorem put_costs {e : EncS} {low own all c : Int} (h : e.s ≤ e.s / all * own * c) : Costs e (encPut e low own all) c := by
  have hk : (encPre e low own all).k = e.k := rfl
  have hs : (encPre e low own all).s = e.s / all * own := rfl
  obtain ⟨i1, i2, i3⟩ := scaleE_inside (encPre e low own all)
  have j1 := i1.1
  rw [hk] at i3 j1
  rw [hs] at i3
  refine ⟨j1, ?_⟩
  show e.s * P256 ((scaleE (encPre e low own all)).k - e.k) ≤ (scaleE (encPre e low own all)).s * c
  rw [i3]
  have p := P256_pos ((scaleE (encPre e low own all)).k - e.k)
  have a := Int.mul_le_mul_of_nonneg_right h (show 0 ≤ P256 ((scaleE (encPre e low own all)).k - e.k) by omega)
  have e1 : ∀ x y z : Int, x * y * z = x * z * y := fun x y z => by ac_rfl
  rw [e1 (e.s / all * own) c] at a
  exact a
theorem bits_costs {e : EncS} (n : Int) {wide : Nat} (h : GoodE e) (h0 : 0 < wide) (h1 : wide ≤ 12) : Costs e (encBits e n wide) (P2 wide + 1) := by
  rw [encBits_low _ _ h0 h1]
  apply put_costs
  have p := P2_pos wide
  have q := P2_12 h1
  obtain ⟨g1, g2, _, _⟩ := h
  have m : 4096 ≤ e.s / P2 wide := by
    rw [Int.le_ediv_iff_mul_le (by omega)]; omega
  have r := Int.lt_ediv_add_one_mul_self e.s (show 0 < P2 wide by omega)
  generalize e.s / P2 wide = Q at m r
  rw [Int.add_mul] at r
  rw [Int.mul_one, Int.mul_add]
  omega
theorem difL_ten : ∀ j, j < 32 → 10 ≤ difL.getD j 0 := by decide
theorem difL_all : difL.sum = 7270 := by decide
theorem dif_costs {e : EncS} (h : GoodE e) {s : Nat} (hs : s < difL.length) : Costs e (encSym e difL s) 728 := by
  apply put_costs
  rw [difL_all]
  have o := difL_ten s (by rw [← difL_len]; exact hs)
  obtain ⟨g1, g2, _, _⟩ := h
  generalize difL.getD s 0 = O at o
  have a : e.s / 7270 * 10 ≤ e.s / 7270 * O := Int.mul_le_mul_of_nonneg_left o (by omega)
  have b : e.s / 7270 * 10 * 728 ≤ e.s / 7270 * O * 728 := by omega
  omega
theorem putW_costs {q : Bool} {e : EncS} {a d : Int} (h : GoodE e) : Costs e (putW q e a d) 728 := by
  cases q
  · rw [putW_diff]; exact dif_costs h (dif_lt _)
  · have g := (putW_good (q := true) (a := a) (d := d) h).1.1
    rw [putW_alone] at g ⊢
    exact (bits_costs a h (by decide) (by decide)).mono (by omega) (by decide)
theorem putN_costs {q : Bool} {e : EncS} {f d : Nat → Int} (h : GoodE e) : ∀ n, Costs e (putN q e f d n) (728 ^ n) := by
  intro n
  induction n with
  | zero => exact Costs.refl e
  | succ n ih =>
    rw [putN_succ, Int.pow_succ]
    exact ih.trans (putW_costs (putN_good h n).1) (Int.le_of_lt (Int.pow_pos (by decide)))
def headE (wh br qu lo : Int) : EncS := encBits (encBits (encBits (encBits encNew wh 1) br 1) qu 4) lo 5
theorem bits_good12 {e : EncS} {n : Int} {wide : Nat} (h : GoodE e) (h1 : wide ≤ 12) : GoodE (encBits e n wide) ∧ Inside e (encBits e n wide) ∧ (encBits e n wide).k ≤ e.k + 2 := by
  by_cases h0 : wide = 0
  · subst h0; exact ⟨h, Inside.refl e, by rw [encBits_zero]; omega⟩
  · rw [encBits_low _ _ (by omega) h1]
    have o := okP_bit h1 (bit_part n).1 (bit_part n).2
    exact ⟨encPut_good h o, encPut_inside h o, encPut_k _ _ _ _⟩
theorem headE_good (wh br qu lo : Int) : GoodE (headE wh br qu lo) ∧ (headE wh br qu lo).k ≤ 8 := by
  obtain ⟨a1, a2, a3⟩ := bits_good12 (n := wh) (wide := 1) goodE_new (by decide)
  obtain ⟨b1, b2, b3⟩ := bits_good12 (n := br) (wide := 1) a1 (by decide)
  obtain ⟨c1, c2, c3⟩ := bits_good12 (n := qu) (wide := 4) b1 (by decide)
  obtain ⟨d1, d2, d3⟩ := bits_good12 (n := lo) (wide := 5) c1 (by decide)
  refine ⟨d1, ?_⟩
  have z : encNew.k = 0 := rfl
  unfold headE
  omega
theorem headE_costs (wh br qu lo : Int) : Costs encNew (headE wh br qu lo) 5049 := by
  obtain ⟨a1, _, _⟩ := bits_good12 (n := wh) (wide := 1) goodE_new (by decide)
  obtain ⟨b1, _, _⟩ := bits_good12 (n := br) (wide := 1) a1 (by decide)
  obtain ⟨c1, _, _⟩ := bits_good12 (n := qu) (wide := 4) b1 (by decide)
  have a := bits_costs wh goodE_new (wide := 1) (by decide) (by decide)
  have b := bits_costs br a1 (wide := 1) (by decide) (by decide)
  have c := bits_costs qu b1 (wide := 4) (by decide) (by decide)
  have d := bits_costs lo c1 (wide := 5) (by decide) (by decide)
  rw [show P2 1 + 1 = 3 by decide] at a b
  rw [show P2 4 + 1 = 17 by decide] at c
  rw [show P2 5 + 1 = 33 by decide] at d
  have x := ((a.trans b (by decide)).trans c (by decide)).trans d (by decide)
  exact x
def ceilE (wh : Bool) (br qu lo : Int) (l ah : Nat → Int) : EncS := putN wh (headE (if wh then 1 else 0) br qu lo) l ah 21
theorem ceilE_good (wh : Bool) (br qu lo : Int) (l ah : Nat → Int) : GoodE (ceilE wh br qu lo l ah) ∧ (ceilE wh br qu lo l ah).k ≤ 92 := by
  obtain ⟨a, b⟩ := headE_good (if wh then 1 else 0) br qu lo
  obtain ⟨c, d, _⟩ := putN_good (q := wh) (f := l) (d := ah) a 21
  exact ⟨c, by unfold ceilE; omega⟩
theorem ceilE_k (wh : Bool) (br qu lo : Int) (l ah : Nat → Int) : (ceilE wh br qu lo l ah).k ≤ 26 := by
  obtain ⟨g1, g2, _, _⟩ := (ceilE_good wh br qu lo l ah).1
  obtain ⟨_, c⟩ := (headE_costs (if wh then 1 else 0) br qu lo).trans (putN_costs (q := wh) (f := l) (d := ah) (headE_good (if wh then 1 else 0) br qu lo).1 21) (by decide)
  change encNew.s * P256 ((ceilE wh br qu lo l ah).k - encNew.k) ≤ (ceilE wh br qu lo l ah).s * (5049 * 728 ^ 21) at c
  rw [show encNew.s = 4294967295 from rfl, show encNew.k = 0 from rfl, Nat.sub_zero] at c
  apply Nat.le_of_not_lt
  intro hk
  have e : (ceilE wh br qu lo l ah).k = 27 + ((ceilE wh br qu lo l ah).k - 27) := by omega
  have p := P256_pos ((ceilE wh br qu lo l ah).k - 27)
  rw [e, P256_add] at c
  have big : (5049 * 728 ^ 21 : Int) < P256 27 := by unfold P256; decide
  have m : P256 27 * 1 ≤ P256 27 * P256 ((ceilE wh br qu lo l ah).k - 27) := Int.mul_le_mul_of_nonneg_left (by omega) (Int.le_of_lt (Int.lt_of_lt_of_le (by decide) (P256_pos 27)))
  have u : (ceilE wh br qu lo l ah).s * (5049 * 728 ^ 21) ≤ 4294967295 * (5049 * 728 ^ 21) := Int.mul_le_mul_of_nonneg_right g2 (by decide)
  generalize P256 27 * P256 ((ceilE wh br qu lo l ah).k - 27) = M at c m
  generalize P256 27 = N at big m
  generalize (5049 * 728 ^ 21 : Int) = W at big u c
  omega
def bytesE (e : EncS) : List Int := bytesL (digL e.n (e.k + 4))
theorem bytesE_le (e : EncS) : (bytesE e).length ≤ e.k + 4 := bytesL_le e
def IsLoss (B : Nat) (E : Nat → EncS) (x : Nat) : Prop := x < 32 ∧ (bytesE (E x)).length ≤ B ∧ ∀ j, j < x → B < (bytesE (E j)).length
theorem IsLoss.same {B : Nat} {E : Nat → EncS} {x y : Nat} (h : IsLoss B E x) (k : IsLoss B E y) : x = y := by
  obtain ⟨h1, h2, h3⟩ := h
  obtain ⟨k1, k2, k3⟩ := k
  by_cases a : x < y
  · have := k3 x a; omega
  · by_cases b : y < x
    · have := h3 y b; omega
    · omega
end Go.Proofs.YtmgfkdmjgjlkjaaGreat
