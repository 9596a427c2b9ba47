/- Plain facts, and what functions give, for the proofs of this seat: several texts in one, each with its own first remark. -/
import Derived.Test.YtdmafololcpamaaGa
import Derived.Test.YtdmafololcpamaaGc
import Derived.Test.YtdmafololcpamaaRows
import Derived.WalkKit
import Derived.WalkLawsBesides
import Derived.Handy
import Derived.Lib.Hide
import Derived.StillTailTactics
import Derived.BigRegion
import Derived.OpenShut
import Derived.Laws.AppendOwnNone
import Derived.Deep.CutBlock
import Derived.Test.YtdmafololcpamaaGb
import Derived.Deep.RegionHeld3
import Derived.Deep.AppendLies

/- Plain facts of layer 11: thresholds, steps, which bands are told, how far lines may be. Nothing here speaks of the program. -/
namespace Go.Proofs.Ytdmafololcpamaa
open Go Go.RowKit
set_option linter.unusedVariables false

/-! ### Thresholds -/
/-- How many bits band j masks less in band b than in itself. -/
def fadeF (j b : Nat) : Int := if j < b then 2 * ((b : Int) - j) else 3 * ((j : Int) - b)
theorem fadeF_same (b : Nat) : fadeF b b = 0 := by unfold fadeF; rw [if_neg (by omega)]; omega
theorem fadeF_below {j b : Nat} (h : j < b) : fadeF j b = 2 * ((b : Int) - j) := if_pos h
theorem fadeF_above {j b : Nat} (h : ¬ j < b) : fadeF j b = 3 * ((j : Int) - b) := if_neg h
theorem fadeF_bd {j b : Nat} (hj : j < 21) (hb : b < 21) : 0 ≤ fadeF j b ∧ fadeF j b ≤ 60 := by unfold fadeF; split <;> omega
/-- The greatest of nought and what the first n bands mask in band b. -/
def thrTo (l : Nat → Int) (b : Nat) : Nat → Int
  | 0 => 0
  | n + 1 => max (thrTo l b n) (l n - fadeF n b)
theorem thrTo_succ (l : Nat → Int) (b n : Nat) : thrTo l b (n + 1) = max (thrTo l b n) (l n - fadeF n b) := rfl
theorem thrTo_bd {l : Nat → Int} {b : Nat} (hb : b < 21) : ∀ n, n ≤ 21 → (∀ j, j < n → 0 ≤ l j ∧ l j ≤ 26) → 0 ≤ thrTo l b n ∧ thrTo l b n ≤ 26 := by
  intro n
  induction n with
  | zero => intro _ _; exact ⟨Int.le_refl 0, by show (0 : Int) ≤ 26; decide⟩
  | succ n ih =>
    intro hn h
    have h1 := ih (by omega) fun j hj => h j (by omega)
    have h2 := h n (by omega)
    have h3 := fadeF_bd (j := n) (by omega) hb
    rw [thrTo_succ]; omega
theorem thrTo_ge {l : Nat → Int} {b : Nat} : ∀ n j, j < n → l j - fadeF j b ≤ thrTo l b n := by
  intro n
  induction n with
  | zero => intro j hj; omega
  | succ n ih =>
    intro j hj
    rw [thrTo_succ]
    by_cases e : j = n
    · subst e; omega
    · have := ih j (by omega); omega
theorem thrTo_own {l : Nat → Int} {b : Nat} (hb : b < 21) : l b ≤ thrTo l b 21 := by
  have := thrTo_ge (l := l) (b := b) 21 b hb
  rw [fadeF_same] at this; omega
theorem thrTo_ext {l m : Nat → Int} {b : Nat} : ∀ n, (∀ j, j < n → l j = m j) → thrTo l b n = thrTo m b n := by
  intro n
  induction n with
  | zero => intro _; rfl
  | succ n ih => intro h; rw [thrTo_succ, thrTo_succ, ih fun j hj => h j (by omega), h n (by omega)]

/-! ### Steps -/
/-- A band's step. -/
def stepF (l : Nat → Int) (q x : Int) (b : Nat) : Int := min (max (max (thrTo l b 21 - q + x) (l b - 12)) 0) (l b)
theorem stepF_bd {l : Nat → Int} (q x : Int) {b : Nat} (h : 0 ≤ l b) : 0 ≤ stepF l q x b ∧ stepF l q x b ≤ l b ∧ l b - 12 ≤ stepF l q x b := by unfold stepF; omega
theorem stepF_quality (l : Nat → Int) (q x : Int) (b : Nat) : stepF l (q + 1) x b ≤ stepF l q x b := by unfold stepF; omega
theorem stepF_loss (l : Nat → Int) (q x : Int) (b : Nat) : stepF l q x b ≤ stepF l q (x + 1) b := by unfold stepF; omega
theorem stepF_worst {l : Nat → Int} {q : Int} {b : Nat} (h : 0 ≤ l b) (hb : b < 21) (hq : q ≤ 10) : stepF l q 31 b = l b := by
  have := thrTo_own (l := l) hb
  unfold stepF; omega
theorem stepF_ext {l m : Nat → Int} (q x : Int) {b : Nat} (hb : b < 21) (h : ∀ j, j < 21 → l j = m j) : stepF l q x b = stepF m q x b := by
  unfold stepF; rw [thrTo_ext 21 h, h b hb]
theorem steps_right {l : Nat → Int} (q x : Int) (h : ∀ j, j < 21 → 0 ≤ l j ∧ l j ≤ 26) : rightB (tabF 21 (stepF l q x)) = true := rightB_of (tabF_len _ _) fun j hj => by
  rw [tabF_getD _ hj]
  have h1 := h j hj
  have h2 := stepF_bd (l := l) q x h1.1
  omega

/-! ### How far lines may be -/
/-- How far one line may be. -/
def oneF (n s : Int) : Int := if s < n then 2 ^ s.toNat else 2 ^ (n.toNat + 1)
theorem oneF_told {n s : Int} (h : s < n) : oneF n s = 2 ^ s.toNat := if_pos h
theorem oneF_not {n s : Int} (h : ¬ s < n) : oneF n s = 2 ^ (n.toNat + 1) := if_neg h
theorem pow_bd27 {k : Nat} (h : k ≤ 27) : (1 : Int) ≤ 2 ^ k ∧ (2 : Int) ^ k ≤ 134217728 := by
  constructor
  · exact Int.le_of_lt_add_one (by have := Int.pow_pos (n := 2) (m := k) (by decide); omega)
  · have h1 : (2 : Nat) ^ k ≤ 2 ^ 27 := Nat.pow_le_pow_right (by decide) h
    have h2 : ((2 ^ k : Nat) : Int) = (2 : Int) ^ k := by rw [Int.natCast_pow]; rfl
    have h3 : (2 : Nat) ^ 27 = 134217728 := by decide
    omega
theorem oneF_bd {n s : Int} (hn : n ≤ 26) (hs : s ≤ 26) : 1 ≤ oneF n s ∧ oneF n s ≤ 134217728 := by
  unfold oneF; split
  · exact pow_bd27 (by omega)
  · exact pow_bd27 (by omega)
/-- The first n bands' lines. -/
def reachTo (l s : Nat → Int) : Nat → Int
  | 0 => 0
  | n + 1 => reachTo l s n + ((edgeK (n + 1) : Int) - edgeK n) * oneF (l n) (s n)
theorem reachTo_succ (l s : Nat → Int) (n : Nat) : reachTo l s (n + 1) = reachTo l s n + ((edgeK (n + 1) : Int) - edgeK n) * oneF (l n) (s n) := rfl
theorem reachTo_bd {l s : Nat → Int} : ∀ n, n ≤ 21 → (∀ j, j < n → l j ≤ 26 ∧ s j ≤ 26) → 0 ≤ reachTo l s n ∧ reachTo l s n ≤ 68719476736 * n := by
  intro n
  induction n with
  | zero => intro _ _; exact ⟨Int.le_refl 0, by show (0 : Int) ≤ _; decide⟩
  | succ n ih =>
    intro hn h
    have h1 := ih (by omega) fun j hj => h j (by omega)
    have h2 := h n (by omega)
    obtain ⟨e1, e2⟩ := edgeK_lt n (by omega)
    obtain ⟨o1, o2⟩ := oneF_bd (n := l n) (s := s n) h2.1 h2.2
    rw [reachTo_succ]
    generalize oneF (l n) (s n) = y at o1 o2
    have m1 : ((edgeK (n + 1) : Int) - edgeK n) * y ≤ 512 * 134217728 := Int.mul_le_mul (by omega) o2 (by omega) (by decide)
    have m0 : 0 ≤ ((edgeK (n + 1) : Int) - edgeK n) * y := Int.mul_nonneg (by omega) (by omega)
    omega
theorem reachTo_ext {l s l' s' : Nat → Int} : ∀ n, (∀ j, j < n → l j = l' j ∧ s j = s' j) → reachTo l s n = reachTo l' s' n := by
  intro n
  induction n with
  | zero => intro _; rfl
  | succ n ih => intro h; rw [reachTo_succ, reachTo_succ, ih fun j hj => h j (by omega), (h n (by omega)).1, (h n (by omega)).2]
end Go.Proofs.Ytdmafololcpamaa

/- Plain facts of layer 12: lines as numbers of steps, how these are put and got, noise, how near lines come. Nothing here speaks of the program. -/
namespace Go.Proofs.Ytdmafololcpamaa
open Go Go.RowKit
set_option linter.unusedVariables false

/-! ### A line's band -/
theorem of_all : ((List.range 21).all fun b => (List.range 512).all fun i => !(decide (edgeK b ≤ i) && decide (i < edgeK (b + 1))) || decide (ofN i = b)) = true := by decide +kernel
theorem of_band {b i : Nat} (hb : b < 21) (h0 : edgeK b ≤ i) (h1 : i < edgeK (b + 1)) : ofN i = b := by
  have he := edgeK_lt b hb
  have h := of_all
  rw [List.all_eq_true] at h
  have h2 := h b (List.mem_range.2 hb)
  rw [List.all_eq_true] at h2
  have h3 := h2 i (List.mem_range.2 (by omega))
  simpa [h0, h1] using h3
theorem of_lt {i : Nat} (h : i < 512) : ofN i < 21 := (ofN_all i h).2.1
theorem edgeK_zero : edgeK 0 = 0 := by decide
theorem edgeK_last : edgeK 21 = 512 := by decide

/-! ### Numbers -/
theorem P2_nat (k : Nat) : P2 k = ((2 ^ k : Nat) : Int) := by unfold P2; rw [Int.natCast_pow]; rfl
/-- A line as a number of steps, held. -/
def numQ (x s n : Int) : Int := max (-(P2 (n - s).toNat - 1)) (min (rndP x s) (P2 (n - s).toNat - 1))
theorem numQ_bd (x s n : Int) : -(P2 (n - s).toNat - 1) ≤ numQ x s n ∧ numQ x s n ≤ P2 (n - s).toNat - 1 := by
  have := P2_pos (n - s).toNat
  unfold numQ; omega
theorem P2_12 {k : Nat} (h : k ≤ 12) : P2 k ≤ 4096 := by
  have := P2_mono (a := k) (b := 12) h
  rw [show P2 12 = 4096 by decide] at this
  exact this
theorem numQ_12 {s n : Int} (x : Int) (h : n - s ≤ 12) : -4095 ≤ numQ x s n ∧ numQ x s n ≤ 4095 := by
  have := P2_12 (k := (n - s).toNat) (by omega)
  have := numQ_bd x s n
  omega
theorem bits_le {q : Int} {k : Nat} (h0 : -(P2 k - 1) ≤ q) (h1 : q ≤ P2 k - 1) : bitsI q ≤ k := by
  rw [P2_nat] at h0 h1
  exact bitLen_le (by omega)
theorem numQ_bits (x s n : Int) : bitsI (numQ x s n) ≤ (n - s).toNat := bits_le (numQ_bd x s n).1 (numQ_bd x s n).2
theorem bits_12 {q : Int} (h : -4095 ≤ q ∧ q ≤ 4095) : bitsI q ≤ 12 := bits_le (by rw [show P2 12 = 4096 by decide]; omega) (by rw [show P2 12 = 4096 by decide]; omega)
theorem bits_none {q : Int} : bitsI q = 0 ↔ q = 0 := by
  constructor
  · intro h
    have := (bitLen_spec q.natAbs).1
    unfold bitsI at h
    rw [h] at this
    omega
  · rintro rfl; rfl
/-- A number's bits below the highest one. -/
def lowQ (q : Int) : Int := (q.natAbs : Int) - P2 (bitsI q - 1)
theorem lowQ_bd {q : Int} (h : q ≠ 0) : 0 ≤ lowQ q ∧ lowQ q < P2 (bitsI q - 1) := by
  obtain ⟨h1, h2⟩ := bitLen_spec q.natAbs
  have h3 := h2 (by omega)
  have h4 : bitsI q ≠ 0 := fun e => h (bits_none.1 e)
  have h5 : 2 ^ bitsI q = 2 ^ (bitsI q - 1) * 2 := by rw [← Nat.pow_succ]; congr 1; omega
  unfold lowQ
  rw [P2_nat]
  unfold bitsI at *
  omega
def signQ (q : Int) : Int := if q < 0 then 1 else 0
theorem signQ_bd (q : Int) : 0 ≤ signQ q ∧ signQ q ≤ 1 := by unfold signQ; split <;> omega

/-! ### Putting -/
/-- One number put: how many bits it has, its sign, its bits. -/
def putX (E : EncS) (L : List Int) (q : Int) : EncS := if q = 0 then encSym E L 0 else encBits (encBits (encSym E L (bitsI q)) (signQ q) 1) (lowQ q) (bitsI q - 1)
theorem putX_none (E : EncS) (L : List Int) {q : Int} (h : q = 0) : putX E L q = encSym E L (bitsI q) := by unfold putX; rw [if_pos h, bits_none.2 h]
theorem putX_some (E : EncS) (L : List Int) {q : Int} (h : q ≠ 0) : putX E L q = encBits (encBits (encSym E L (bitsI q)) (signQ q) 1) (lowQ q) (bitsI q - 1) := if_neg h
theorem putX_good {E : EncS} {L : List Int} {q : Int} (hG : GoodE E) (hL : GoodL L) (hl : L.length = 13) (hq : -4095 ≤ q ∧ q ≤ 4095) :
    GoodE (putX E L q) ∧ (putX E L q).k ≤ E.k + 10 ∧ Inside E (putX E L q) ∧ Inside (encSym E L (bitsI q)) (putX E L q) := by
  have hb := bits_12 hq
  have hs : bitsI q < L.length := by omega
  have g1 := encSym_good hG hL hs
  have k1 := encSym_k E L (bitsI q)
  have i1 := encSym_inside hG hL hs
  by_cases h : q = 0
  · rw [putX_none E L h]
    exact ⟨g1, by omega, i1, Inside.refl _⟩
  · rw [putX_some E L h]
    have g2 := encBits_good (n := signQ q) (wide := 1) g1 (by decide)
    have k2 := encBits_k (encSym E L (bitsI q)) (signQ q) (wide := 1) (by decide)
    have i2 := encBits_inside (n := signQ q) (wide := 1) g1 (by decide)
    have g3 := encBits_good (n := lowQ q) (wide := bitsI q - 1) g2 (by omega)
    have k3 := encBits_k (encBits (encSym E L (bitsI q)) (signQ q) 1) (lowQ q) (wide := bitsI q - 1) (by omega)
    have i3 := encBits_inside (n := lowQ q) (wide := bitsI q - 1) g2 (by omega)
    exact ⟨g3, by omega, i1.trans (i2.trans i3), i2.trans i3⟩
/-- The first n lines put, of the bands that are told. -/
def putL (T : Nat → Bool) (q : Nat → Int) (E : EncS) : Nat → EncS × List Int
  | 0 => (E, List.replicate 13 1)
  | n + 1 => if T n then (putX (putL T q E n).1 (putL T q E n).2 (q n), learnP (putL T q E n).2 (bitsI (q n))) else putL T q E n
theorem putL_zero (T : Nat → Bool) (q : Nat → Int) (E : EncS) : putL T q E 0 = (E, List.replicate 13 1) := rfl
theorem putL_told {T : Nat → Bool} {n : Nat} (q : Nat → Int) (E : EncS) (h : T n = true) : putL T q E (n + 1) = (putX (putL T q E n).1 (putL T q E n).2 (q n), learnP (putL T q E n).2 (bitsI (q n))) := if_pos h
theorem putL_not {T : Nat → Bool} {n : Nat} (q : Nat → Int) (E : EncS) (h : T n = false) : putL T q E (n + 1) = putL T q E n := if_neg (by rw [h]; decide)
theorem putL_skip {T : Nat → Bool} {a b : Nat} (q : Nat → Int) (E : EncS) (hab : a ≤ b) (h : ∀ i, a ≤ i → i < b → T i = false) : putL T q E b = putL T q E a := by
  obtain ⟨d, rfl⟩ : ∃ d, b = a + d := ⟨b - a, by omega⟩
  clear hab
  induction d with
  | zero => rfl
  | succ d ih => rw [show a + (d + 1) = (a + d) + 1 by omega, putL_not q E (h (a + d) (by omega) (by omega)), ih fun i h0 h1 => h i h0 (by omega)]
theorem putL_good {T : Nat → Bool} {q : Nat → Int} {E : EncS} (hG : GoodE E) (hq : ∀ i, -4095 ≤ q i ∧ q i ≤ 4095) : ∀ n, GoodE (putL T q E n).1 ∧ GoodL (putL T q E n).2 ∧ (putL T q E n).2.length = 13 ∧ (putL T q E n).1.k ≤ E.k + 10 * n := by
  intro n
  induction n with
  | zero => exact ⟨hG, goodL_ones (by decide) (by decide), by rw [putL_zero]; simp, by rw [putL_zero]; simp⟩
  | succ n ih =>
    obtain ⟨a, b, c, d⟩ := ih
    cases h : T n with
    | true =>
      rw [putL_told q E h]
      obtain ⟨g1, g2, g3, _⟩ := putX_good a b c (hq n)
      have hs : bitsI (q n) < (putL T q E n).2.length := by have := bits_12 (hq n); omega
      exact ⟨g1, learnP_good b hs, (learnP_len _ _).trans c, by simp only; omega⟩
    | false => rw [putL_not q E h]; exact ⟨a, b, c, by omega⟩
theorem putL_step {T : Nat → Bool} {q : Nat → Int} {E : EncS} (hG : GoodE E) (hq : ∀ i, -4095 ≤ q i ∧ q i ≤ 4095) (n : Nat) : Inside (putL T q E n).1 (putL T q E (n + 1)).1 := by
  obtain ⟨a, b, c, d⟩ := putL_good (T := T) hG hq n
  cases h : T n with
  | true => rw [putL_told q E h]; exact (putX_good a b c (hq n)).2.2.1
  | false => rw [putL_not q E h]; exact Inside.refl _
theorem putL_inside {T : Nat → Bool} {q : Nat → Int} {E : EncS} (hG : GoodE E) (hq : ∀ i, -4095 ≤ q i ∧ q i ≤ 4095) (j n : Nat) : Inside (putL T q E j).1 (putL T q E (j + n)).1 := by
  induction n with
  | zero => exact Inside.refl _
  | succ n ih => exact ih.trans (putL_step hG hq (j + n))
theorem putL_ext {T T' : Nat → Bool} {q q' : Nat → Int} (E : EncS) : ∀ n, (∀ i, i < n → T i = T' i ∧ q i = q' i) → putL T q E n = putL T' q' E n := by
  intro n
  induction n with
  | zero => intro _; rfl
  | succ n ih =>
    intro h
    have h1 := ih fun i hi => h i (by omega)
    have h2 := h n (by omega)
    show (if T n then _ else _) = (if T' n then _ else _)
    rw [h1, h2.1, h2.2]

/-! ### Getting -/
/-- One number got. -/
def getX (b : List Int) (D : DecS) (L : List Int) : Int × DecS :=
  if decWhich D L = 0 then (0, decSym b D L) else
    (if (decBits b (decSym b D L) 0 1).1 = 1 then -((decBits b (decBits b (decSym b D L) 0 1).2 0 (decWhich D L - 1)).1 + P2 (decWhich D L - 1)) else (decBits b (decBits b (decSym b D L) 0 1).2 0 (decWhich D L - 1)).1 + P2 (decWhich D L - 1),
      (decBits b (decBits b (decSym b D L) 0 1).2 0 (decWhich D L - 1)).2)
theorem getX_none (b : List Int) {D : DecS} {L : List Int} (h : decWhich D L = 0) : getX b D L = (0, decSym b D L) := if_pos h
theorem getX_some (b : List Int) {D : DecS} {L : List Int} (h : decWhich D L ≠ 0) : getX b D L =
    (if (decBits b (decSym b D L) 0 1).1 = 1 then -((decBits b (decBits b (decSym b D L) 0 1).2 0 (decWhich D L - 1)).1 + P2 (decWhich D L - 1)) else (decBits b (decBits b (decSym b D L) 0 1).2 0 (decWhich D L - 1)).1 + P2 (decWhich D L - 1),
      (decBits b (decBits b (decSym b D L) 0 1).2 0 (decWhich D L - 1)).2) := if_neg h
theorem decBitsQ_good {b : List Int} {D : DecS} {k : Nat} (hb : ∀ j, 0 ≤ byteF b j ∧ byteF b j ≤ 255) (h : GoodD D) (hk : k ≤ 12) : GoodD (decBits b D 0 k).2 ∧ (decBits b D 0 k).2.i ≤ D.i + 2 ∧ 0 ≤ (decBits b D 0 k).1 ∧ (decBits b D 0 k).1 < P2 k := by
  by_cases h0 : k = 0
  · subst h0
    rw [decBits_zero]
    exact ⟨h, by simp, by simp, by simp [P2]⟩
  · rw [decBits_low b D 0 (by omega) hk]
    have hp := P2_pos k
    have hp2 := P2_12 hk
    obtain ⟨a1, a2, a3⟩ := decAt_bd (all := P2 k) h hp (by omega)
    refine ⟨(decTake_good hb h ⟨hp, by omega, by decide, a1, by omega⟩ a3).1, decTake_i _ _ _ _ _, ?_, ?_⟩
    · simp only; omega
    · simp only; omega
theorem decSymQ_good {b : List Int} {D : DecS} {L : List Int} (hb : ∀ j, 0 ≤ byteF b j ∧ byteF b j ≤ 255) (h : GoodD D) (hL : GoodL L) : GoodD (decSym b D L) ∧ (decSym b D L).i ≤ D.i + 2 ∧ decWhich D L < L.length := by
  obtain ⟨a1, a2, a3, a4⟩ := decWhich_is h hL
  exact ⟨(decTake_good hb h (okP_sym hL a1) a2).1, decTake_i _ _ _ _ _, a1⟩
theorem getX_good {b : List Int} {D : DecS} {L : List Int} (hb : ∀ j, 0 ≤ byteF b j ∧ byteF b j ≤ 255) (h : GoodD D) (hL : GoodL L) (hl : L.length = 13) :
    GoodD (getX b D L).2 ∧ (getX b D L).2.i ≤ D.i + 6 ∧ -(P2 (decWhich D L) - 1) ≤ (getX b D L).1 ∧ (getX b D L).1 ≤ P2 (decWhich D L) - 1 := by
  obtain ⟨s1, s2, s3⟩ := decSymQ_good hb h hL
  by_cases h0 : decWhich D L = 0
  · rw [getX_none b h0, h0]
    exact ⟨s1, by simp only; omega, by simp [P2], by simp [P2]⟩
  · rw [getX_some b h0]
    obtain ⟨t1, t2, t3, t4⟩ := decBitsQ_good (k := 1) hb s1 (by decide)
    obtain ⟨u1, u2, u3, u4⟩ := decBitsQ_good (k := decWhich D L - 1) hb t1 (by omega)
    have hp : P2 (decWhich D L) = P2 (decWhich D L - 1) * 2 := by rw [← P2_succ]; congr 1; omega
    refine ⟨u1, by simp only; omega, ?_, ?_⟩
    · simp only; split <;> omega
    · simp only; split <;> omega
/-- The first n lines got. -/
def getL (T : Nat → Bool) (b : List Int) (D : DecS) : Nat → DecS × List Int
  | 0 => (D, List.replicate 13 1)
  | n + 1 => if T n then ((getX b (getL T b D n).1 (getL T b D n).2).2, learnP (getL T b D n).2 (decWhich (getL T b D n).1 (getL T b D n).2)) else getL T b D n
theorem getL_zero (T : Nat → Bool) (b : List Int) (D : DecS) : getL T b D 0 = (D, List.replicate 13 1) := rfl
theorem getL_told {T : Nat → Bool} {n : Nat} (b : List Int) (D : DecS) (h : T n = true) : getL T b D (n + 1) = ((getX b (getL T b D n).1 (getL T b D n).2).2, learnP (getL T b D n).2 (decWhich (getL T b D n).1 (getL T b D n).2)) := if_pos h
theorem getL_not {T : Nat → Bool} {n : Nat} (b : List Int) (D : DecS) (h : T n = false) : getL T b D (n + 1) = getL T b D n := if_neg (by rw [h]; decide)
theorem getL_good {T : Nat → Bool} {b : List Int} {D : DecS} (hb : ∀ j, 0 ≤ byteF b j ∧ byteF b j ≤ 255) (hG : GoodD D) : ∀ n, GoodD (getL T b D n).1 ∧ GoodL (getL T b D n).2 ∧ (getL T b D n).2.length = 13 ∧ (getL T b D n).1.i ≤ D.i + 6 * n := by
  intro n
  induction n with
  | zero => exact ⟨hG, goodL_ones (by decide) (by decide), by rw [getL_zero]; simp, by rw [getL_zero]; simp⟩
  | succ n ih =>
    obtain ⟨p1, p2, p3, p4⟩ := ih
    cases h : T n with
    | true =>
      rw [getL_told b D h]
      obtain ⟨g1, g2, _⟩ := getX_good hb p1 p2 p3
      have hs := (decSymQ_good hb p1 p2).2.2
      exact ⟨g1, learnP_good p2 hs, (learnP_len _ _).trans p3, by simp only; omega⟩
    | false => rw [getL_not b D h]; exact ⟨p1, p2, p3, by omega⟩
/-- The number of a line, and how many bits it is told to have. -/
def getQ (T : Nat → Bool) (b : List Int) (D : DecS) (i : Nat) : Int := (getX b (getL T b D i).1 (getL T b D i).2).1
def getK (T : Nat → Bool) (b : List Int) (D : DecS) (i : Nat) : Nat := decWhich (getL T b D i).1 (getL T b D i).2
theorem getK_lt {T : Nat → Bool} {b : List Int} {D : DecS} (hb : ∀ j, 0 ≤ byteF b j ∧ byteF b j ≤ 255) (hG : GoodD D) (i : Nat) : getK T b D i ≤ 12 := by
  obtain ⟨p1, p2, p3, p4⟩ := getL_good (T := T) hb hG i
  have := (decSymQ_good hb p1 p2).2.2
  unfold getK; omega
theorem getQ_bd {T : Nat → Bool} {b : List Int} {D : DecS} (hb : ∀ j, 0 ≤ byteF b j ∧ byteF b j ≤ 255) (hG : GoodD D) (i : Nat) : -(P2 (getK T b D i) - 1) ≤ getQ T b D i ∧ getQ T b D i ≤ P2 (getK T b D i) - 1 := by
  obtain ⟨p1, p2, p3, p4⟩ := getL_good (T := T) hb hG i
  exact (getX_good hb p1 p2 p3).2.2
theorem getL_ext {T T' : Nat → Bool} (b : List Int) (D : DecS) : ∀ n, (∀ i, i < n → T i = T' i) → getL T b D n = getL T' b D n := by
  intro n
  induction n with
  | zero => intro _; rfl
  | succ n ih =>
    intro h
    have h1 := ih fun i hi => h i (by omega)
    show (if T n then _ else _) = (if T' n then _ else _)
    rw [h1, h n (by omega)]

/-! ### What is put is got -/
theorem x_back {b : List Int} {E F : EncS} {D : DecS} {L : List Int} {q : Int} (hs : Sync (byteF b) E D) (hG : GoodE E) (hL : GoodL L) (hl : L.length = 13) (hq : -4095 ≤ q ∧ q ≤ 4095) (hi : Inside (putX E L q) F) (hf : 1 ≤ F.s) (hd : DigOf (byteF b) F) :
    (getX b D L).1 = q ∧ decWhich D L = bitsI q ∧ Sync (byteF b) (putX E L q) (getX b D L).2 := by
  have hb := bits_12 hq
  have hsl : bitsI q < L.length := by omega
  have g1 := encSym_good hG hL hsl
  obtain ⟨_, _, _, hin⟩ := putX_good hG hL hl hq
  obtain ⟨s1, s2⟩ := sym_back hs hG hL hsl (hin.trans hi) hf hd
  by_cases h : q = 0
  · have h0 : decWhich D L = 0 := by rw [s1]; exact bits_none.2 h
    rw [getX_none b h0, putX_none E L h]
    exact ⟨h.symm, s1, s2⟩
  · have h0 : decWhich D L ≠ 0 := by rw [s1]; exact fun e => h (bits_none.1 e)
    obtain ⟨l1, l2⟩ := lowQ_bd h
    obtain ⟨n1, n2⟩ := signQ_bd q
    have g2 := encBits_good (n := signQ q) (wide := 1) g1 (by decide)
    rw [putX_some E L h] at hi ⊢
    have i3 := encBits_inside (n := lowQ q) (wide := bitsI q - 1) g2 (by omega)
    obtain ⟨b1, b2⟩ := bits_back (wide := 1) s2 g1 (by decide) n1 (by rw [show P2 1 = 2 by decide]; omega) (i3.trans hi) hf hd
    obtain ⟨c1, c2⟩ := bits_back (wide := bitsI q - 1) b2 g2 (by omega) l1 l2 hi hf hd
    rw [getX_some b h0, s1]
    refine ⟨?_, rfl, c2⟩
    simp only
    rw [b1, c1]
    unfold signQ lowQ
    split <;> split <;> omega
theorem put_got {T : Nat → Bool} {b : List Int} {q : Nat → Int} {E F : EncS} {D : DecS} {n : Nat} (hs : Sync (byteF b) E D) (hG : GoodE E) (hq : ∀ i, -4095 ≤ q i ∧ q i ≤ 4095) (hi : Inside (putL T q E n).1 F) (hf : 1 ≤ F.s) (hd : DigOf (byteF b) F) :
    ∀ j, j ≤ n → Sync (byteF b) (putL T q E j).1 (getL T b D j).1 ∧ (getL T b D j).2 = (putL T q E j).2 ∧ ∀ i, i < j → T i = true → getQ T b D i = q i ∧ getK T b D i = bitsI (q i) := by
  intro j
  induction j with
  | zero => intro _; exact ⟨hs, rfl, fun i hi => by omega⟩
  | succ j ih =>
    intro hj
    obtain ⟨h1, h2, h3⟩ := ih (by omega)
    obtain ⟨p1, p2, p3, p4⟩ := putL_good (T := T) hG hq j
    have hin := putL_inside (T := T) hG hq (j + 1) (n - (j + 1))
    rw [show j + 1 + (n - (j + 1)) = n by omega] at hin
    have hin2 := hin.trans hi
    cases h : T j with
    | true =>
      rw [putL_told q E h] at hin2 ⊢
      rw [getL_told b D h]
      obtain ⟨x1, x2, x3⟩ := x_back h1 p1 p2 p3 (hq j) hin2 hf hd
      rw [h2]
      refine ⟨x3, by simp only; rw [x2], fun i hi ht => ?_⟩
      by_cases e : i = j
      · subst e
        unfold getQ getK
        rw [h2]
        exact ⟨x1, x2⟩
      · exact h3 i (by omega) ht
    | false =>
      rw [putL_not q E h, getL_not b D h]
      refine ⟨h1, h2, fun i hi ht => ?_⟩
      by_cases e : i = j
      · subst e; rw [h] at ht; cases ht
      · exact h3 i (by omega) ht

/-! ### Noise -/
/-- A seed and a line's number, mixed. -/
def mixW (seed line : Int) : Int := (seed * 2654435761 + line % 4294967296 * 40503 + 12345) % 4294967296 * 1664525 % 4294967296
theorem mixW_bd (seed line : Int) : 0 ≤ mixW seed line ∧ mixW seed line ≤ 4294967295 := by unfold mixW; omega
/-- Noise as the document's answer has it. -/
def noiseR (seed line n : Int) : Int := if n < 3 then 0 else if mixW seed line / 2147483648 = 1 then -(P2 (n - 2).toNat) else P2 (n - 2).toNat
def noiseP (seed line n : Int) : Int := if 26 < n then 0 else noiseR seed line n
theorem noiseP_in {n : Int} (seed line : Int) (h : n ≤ 26) : noiseP seed line n = noiseR seed line n := if_neg (by omega)
theorem noiseR_none {n : Int} (seed line : Int) (h : n < 3) : noiseR seed line n = 0 := if_pos h
theorem noiseR_some {n : Int} (seed line : Int) (h : 3 ≤ n) : noiseR seed line n = if mixW seed line / 2147483648 = 1 then -(P2 (n - 2).toNat) else P2 (n - 2).toNat := if_neg (by omega)
theorem noiseP_bd {n : Int} (seed line : Int) : -16777216 ≤ noiseP seed line n ∧ noiseP seed line n ≤ 16777216 := by
  unfold noiseP
  split
  · decide
  · unfold noiseR
    split
    · decide
    · have h1 := P2_mono (a := (n - 2).toNat) (b := 24) (by omega)
      rw [show P2 24 = 16777216 by decide] at h1
      have h2 := P2_pos (n - 2).toNat
      split <;> omega

/-! ### How near -/
theorem num_near {x s n : Int} (s0 : 0 ≤ s) (h : s < n) (n1 : n ≤ 62) (x0 : -(P2 n.toNat - 1) ≤ x) (x1 : x ≤ P2 n.toNat - 1) : -(P2 s.toNat) ≤ numQ x s n * P2 s.toNat - x ∧ numQ x s n * P2 s.toNat - x ≤ P2 s.toNat := by
  have hM := P2_add (n - s).toNat s.toNat
  rw [show (n - s).toNat + s.toNat = n.toNat by omega] at hM
  unfold numQ
  rw [rndP_in s0 (by omega)]
  have p0 := P2_pos s.toNat
  have m0 := P2_pos (n - s).toNat
  generalize P2 s.toNat = p at hM p0 ⊢
  generalize P2 (n - s).toNat = m at hM m0 ⊢
  generalize P2 n.toNat = u at hM x0 x1
  have d1 : (x + p / 2) / p * p ≤ x + p / 2 := Int.ediv_mul_le _ (by omega)
  have d2 : x + p / 2 < (x + p / 2) / p * p + p := by
    have := Int.lt_ediv_add_one_mul_self (x + p / 2) (show 0 < p by omega)
    rw [Int.add_mul, Int.one_mul] at this
    exact this
  generalize (x + p / 2) / p = q at d1 d2
  by_cases c1 : m - 1 < q
  · have e : max (-(m - 1)) (min q (m - 1)) = m - 1 := by omega
    have a : m * p ≤ q * p := Int.mul_le_mul_of_nonneg_right (by omega) (by omega)
    rw [e, Int.sub_mul, Int.one_mul]
    omega
  · by_cases c2 : q < -(m - 1)
    · have e : max (-(m - 1)) (min q (m - 1)) = -(m - 1) := by omega
      have a : q * p ≤ (-m) * p := Int.mul_le_mul_of_nonneg_right (by omega) (by omega)
      rw [Int.neg_mul] at a
      rw [e, Int.neg_mul, Int.sub_mul, Int.one_mul]
      omega
    · have e : max (-(m - 1)) (min q (m - 1)) = q := by omega
      rw [e]
      omega
theorem noise_near {x n : Int} (seed line : Int) (n0 : 0 ≤ n) (n1 : n ≤ 26) (x0 : -(P2 n.toNat - 1) ≤ x) (x1 : x ≤ P2 n.toNat - 1) : -(P2 (n.toNat + 1)) ≤ noiseP seed line n - x ∧ noiseP seed line n - x ≤ P2 (n.toNat + 1) := by
  rw [noiseP_in seed line n1, P2_succ]
  have p := P2_pos n.toNat
  by_cases h : n < 3
  · rw [noiseR_none seed line h]; omega
  · rw [noiseR_some seed line (by omega)]
    have e := P2_add (n - 2).toNat 2
    rw [show (n - 2).toNat + 2 = n.toNat by omega, show P2 2 = 4 by decide] at e
    have p2 := P2_pos (n - 2).toNat
    split <;> omega
end Go.Proofs.Ytdmafololcpamaa

/- What each function of package arith, and each of the document's answers for it, gives for whatever arguments. -/
namespace Go.Proofs.Ytdmafololcpamaa
open Go.RowKit
set_option linter.unusedVariables false


theorem wide32_any (n : Int) (w : World) (h : -2147483648 ≤ n) (h' : n ≤ 2147483647) : Calls Try.prog 57 #[.int .i32 n] w fun e w' => e = .returned (.int .i64 n) ∧ w = w' := by
  go_enter Try.func57, Try.ntmps57
  go_wp2
  go_ret
  exact ⟨rfl, rfl⟩
/-! ### arith.Round -/
theorem round_out (n b : Int) (w : World) (h : b < 0 ∨ 62 < b) :
    Calls Try.prog 56 #[.int .i64 n, .int .i64 b] w fun e w' => e = .returned (.int .i64 (rndP n b)) ∧ w = w' := by
  rw [rndP_out h]
  rcases h with h | h
  · go_enter Try.func56, Try.ntmps56
    go_wp2
    go_ret
    exact ⟨rfl, rfl⟩
  · have h' : 0 ≤ b := by omega
    go_enter Try.func56, Try.ntmps56
    go_wp2
    go_ret
    exact ⟨rfl, rfl⟩
theorem round_zero (n : Int) (w : World) :
    Calls Try.prog 56 #[.int .i64 n, .int .i64 0] w fun e w' => e = .returned (.int .i64 (rndP n 0)) ∧ w = w' := by
  rw [rndP_zero]
  go_enter Try.func56, Try.ntmps56
  go_wp2
  go_ret
  exact ⟨rfl, rfl⟩
theorem round_in (n b : Int) (w : World) (hn : -9223372036854775808 ≤ n) (hn' : n ≤ 9223372036854775807) (hb : 1 ≤ b) (hb' : b ≤ 62) :
    Calls Try.prog 56 #[.int .i64 n, .int .i64 b] w fun e w' => e = .returned (.int .i64 (rndP n b)) ∧ w = w' := by
  have hq := half_bits (k := b.toNat) hn hn'
  have hr := rndP_bd (b := b) hn hn'
  have he := rndP_bits (n := n) hb hb'
  rw [he] at hr ⊢
  have ha : RowKit.Hid (wrap64 (n / 2 ^ b.toNat + bits BinOp.and IntKind.i64 (n / 2 ^ (b.toNat - 1)) 1) = n / 2 ^ b.toNat + n / 2 ^ (b.toNat - 1) % 2) := by
    rw [i64_and1]; exact IntWalk.wrap64_in _ hr
  clear he hr
  go_enter Try.func56, Try.ntmps56
  go_wp2
  go_ret
  exact ⟨ret_int ha.out, rfl⟩
theorem round_any (n b : Int) (w : World) (hn : -9223372036854775808 ≤ n) (hn' : n ≤ 9223372036854775807) :
    Calls Try.prog 56 #[.int .i64 n, .int .i64 b] w fun e w' => e = .returned (.int .i64 (rndP n b)) ∧ w = w' := by
  by_cases h : b < 0 ∨ 62 < b
  · exact round_out n b w h
  · by_cases h0 : b = 0
    · subst h0; exact round_zero n w
    · exact round_in n b w hn hn' (by omega) (by omega)

/-! ### arith.Sat -/
/-! ### the document's answers -/
theorem refRound_any (n b : Int) (w : World) (hn : -9223372036854775808 ≤ n) (hn' : n ≤ 9223372036854775807) :
    Calls Try.prog 58 #[.int .i64 n, .int .i64 b] w fun e w' => e = .returned (.int .i64 (rndP n b)) ∧ w = w' := by
  by_cases h : b < 0 ∨ 62 < b
  · rw [rndP_out h]
    rcases h with h | h
    · go_enter Try.func58, Try.ntmps58
      go_wp2
      go_ret
      exact ⟨rfl, rfl⟩
    · have h' : 0 ≤ b := by omega
      go_enter Try.func58, Try.ntmps58
      go_wp2
      go_ret
      exact ⟨rfl, rfl⟩
  · have hb : 0 ≤ b := by omega
    have hb' : b ≤ 62 := by omega
    clear h
    go_enter Try.func58, Try.ntmps58
    go_wp2
    go_loop [5, 6] (fun d i => ∃ k : Nat, (k : Int) ≤ b ∧ i = .int .i64 (k : Int) ∧ d = .int .i64 (P2 k)) (fun _ i => b.toNat - (intOf i).toNat)
    case atStart => exact ⟨0, by omega, rfl, rfl⟩
    case round =>
      obtain ⟨k, hk, rfl, rfl⟩ := hrel
      have hp := P2_pos k
      by_cases hlt : (k : Int) < b
      · have hq := P2_le61 (k := k) (by omega)
        go_wp2
        go_round
        case rel => exact ⟨k + 1, by omega, by go_num, by rw [P2_succ]⟩
        case measure => simp [intOf]; omega
      · have hq := P2_le62 (k := k) (by omega)
        obtain ⟨hr1, hr0⟩ := tmod_bd (n := n) hp
        by_cases h0 : k = 0
        · subst h0
          have e : P2 0 = 1 := rfl
          have et : n.tmod (P2 0) = 0 := by omega
          have eq : n.tdiv (P2 0) = n := by rw [e]; exact Int.tdiv_one n
          have E : RowKit.Hid (n = rndP n b) := by
            obtain rfl : b = 0 := by omega
            exact (rndP_zero n).symm
          go_wp2
          all_goals (go_ret; exact ⟨ret_int E.out, rfl⟩)
        · have h2 := P2_two (b := (k : Int)) (by omega)
          rw [Int.toNat_natCast] at h2
          obtain ⟨hq1, hq0⟩ := tdiv_bd2 (n := n) h2 hn hn'
          have E : RowKit.Hid _ := rnd_close (n := n) (b := b) (k := k) (by omega) (by omega) (by omega)
          go_wp2
          all_goals (go_ret; refine ⟨ret_int ?_, rfl⟩; rw [E.out]; repeat' split)
          all_goals omega

/-! ### products -/
/-! ### sums -/
/-! ### roots -/
end Go.Proofs.Ytdmafololcpamaa

/- What the functions of package bands give, for whatever arguments. -/
namespace Go.Proofs.Ytdmafololcpamaa
open Go.RowKit
set_option linter.unusedVariables false

theorem ints_some {w : World} {B len : Nat} {k : IntKind} {a : Option Addr} {zs : List Int} (h : IntsAt w B k a len zs) (h0 : 0 < len) : ∃ b off, a = some ⟨b, off, none⟩ := by
  obtain ⟨b, off, e, _⟩ := h.2.resolve_left (by omega)
  exact ⟨b, off, e⟩
theorem ints_cell {w : World} {B len b off : Nat} {k : IntKind} {zs : List Int} (h : IntsAt w B k (some ⟨b, off, none⟩) len zs) {j : Nat} (hj : j < len) : w.cell? ⟨b, off + j, none⟩ = some (.int k (zs.getD j 0)) := by
  obtain ⟨b', off', e, _, _, hc⟩ := h.at_ hj
  obtain ⟨rfl, rfl⟩ : b = b' ∧ off = off' := by injection e with e; injection e with e1 e2; exact ⟨e1, e2⟩
  exact hc

/-! ### Dividing to the nearest -/
theorem i64_and4095 (n : Int) : bits .and .i64 n 4095 = n % 4096 := by
  have h1 : (BitVec.ofInt 64 4095).toNat = 2 ^ 12 - 1 := by decide
  have key : (BitVec.ofInt 64 n &&& BitVec.ofInt 64 4095).toNat = (n % ((2 ^ 64 : Nat) : Int)).toNat % 2 ^ 12 := by
    rw [BitVec.toNat_and, BitVec.toNat_ofInt, h1, Nat.and_two_pow_sub_one_eq_mod]
  show IntKind.i64.wrap ((BitVec.ofInt 64 n &&& BitVec.ofInt 64 4095).toNat : Nat) = n % 4096
  rw [key, IntKind.wrap_i64]
  omega
theorem near_eq {n z : Int} (hn : 0 ≤ n) (hz : 0 < z) : (n + z / 2) / z = if 2 * (n % z) ≥ z then n / z + 1 else n / z := by
  have h := Int.emod_add_mul_ediv n z
  have t0 := Int.emod_nonneg n (b := z) (by omega)
  have t1 := Int.emod_lt_of_pos n hz
  have e : n + z / 2 = (n % z + z / 2) + z * (n / z) := by omega
  rw [e, Int.add_mul_ediv_left _ _ (by omega)]
  split
  · rename_i c
    have : (n % z + z / 2) / z = 1 := by
      rw [show n % z + z / 2 = (n % z + z / 2 - z) + z * 1 by omega, Int.add_mul_ediv_left _ _ (by omega), Int.ediv_eq_zero_of_lt (by omega) (by omega)]
      rfl
    omega
  · have : (n % z + z / 2) / z = 0 := Int.ediv_eq_zero_of_lt (by omega) (by omega)
    omega
/-! ### Making the table -/
theorem made_rep (k : IntKind) (n : Nat) : madeCells #[.int k 0] n = Array.replicate n (.int k 0) := by
  apply Array.ext_getElem?
  intro i
  by_cases h : i < n
  · simp [madeCells, Nat.mod_one, h]
  · simp [madeCells, h]
/-! ### Bands -/
theorem bandsEdges_any (w : World) : Calls Try.prog 51 #[] w fun e w' => ∃ a c, e = .returned (.slice a 22 c) ∧ IntsAt w' w'.heap.size .i64 a 22 edgesL ∧ Below w.heap.size w w' := by
  go_enter Try.func51, Try.ntmps51
  go_wp2
  go_ret
  exact ⟨_, _, rfl, lit_ints w 3 .i64 edgesL _ (0, 0) rfl (by decide), Below.alloc_new w _⟩
theorem edge_all : (List.range 22).all (fun k => (List.range (k + 1)).all fun j => decide (edgeN j ≤ edgeN k)) = true := by decide +kernel
theorem edge_mono {j k : Nat} (h : j ≤ k) (hk : k < 22) : edgeN j ≤ edgeN k := by
  have := List.all_eq_true.1 (List.all_eq_true.1 edge_all k (List.mem_range.2 hk)) j (List.mem_range.2 (by omega))
  simpa using this
end Go.Proofs.Ytdmafololcpamaa

/- What the smaller functions of package energy give, and the document's: the bits of a number, which ceilings are right, numbers that are the same. -/
namespace Go.Proofs.Ytdmafololcpamaa
open Go.RowKit
set_option linter.unusedVariables false

/-! ### Bits -/
theorem lenE_shift {n : Int} {x b : Nat} (hn : 0 ≤ n) (hx : (x : Int) = n / 2 ^ b) (h : x ≠ 0) : bitLen n.toNat = b + bitLen x := by
  have e : n.toNat / 2 ^ b = x := by
    have : ((n.toNat / 2 ^ b : Nat) : Int) = x := by rw [Int.natCast_ediv, Int.toNat_of_nonneg hn, hx]; simp
    omega
  have := bitLen_shift n.toNat b (by omega)
  rw [e] at this; exact this
set_option maxRecDepth 100000 in
theorem len32E_any (n : Int) (w : World) (hn : 0 ≤ n) (hn' : n ≤ 4294967295) :
    Calls Try.prog 53 #[.int .u32 n] w fun e w' => e = .returned (.int .i64 (bitLen n.toNat)) ∧ w = w' := by
  go_enter Try.func53, Try.ntmps53
  go_wp2
  · go_ret
    refine ⟨ret_int ?_, rfl⟩
    rw [len8tab_get]
    have := bitLen_le8 (n / 65536 / 256).toNat (by omega)
    rw [lenE_shift (x := (n / 65536 / 256).toNat) (b := 24) hn (by rw [Int.toNat_of_nonneg (by omega), Int.ediv_ediv_of_nonneg (by decide)]; rfl) (by omega)]
    simp only [wrap64]; omega
  · go_ret
    refine ⟨ret_int ?_, rfl⟩
    rw [len8tab_get]
    have := bitLen_le8 (n / 65536).toNat (by omega)
    rw [lenE_shift (x := (n / 65536).toNat) (b := 16) hn (by rw [Int.toNat_of_nonneg (by omega)]; rfl) (by omega)]
    simp only [wrap64]; omega
  · go_ret
    refine ⟨ret_int ?_, rfl⟩
    rw [len8tab_get]
    have := bitLen_le8 (n / 256).toNat (by omega)
    rw [lenE_shift (x := (n / 256).toNat) (b := 8) hn (by rw [Int.toNat_of_nonneg (by omega)]; rfl) (by omega)]
    simp only [wrap64]; omega
  · go_ret
    refine ⟨ret_int ?_, rfl⟩
    rw [len8tab_get]
    have := bitLen_le8 n.toNat (by omega)
    simp only [wrap64]; omega
/-- The document's count of the bits of a number that isn't below nought. -/
theorem refBits_pos (n : Nat) (z : Int) (B : Nat) (w : World) (hz : z = n) (hn : n ≤ 4294967296) (hB : B = bitLen n) :
    Calls Try.prog 34 #[.int .i64 z] w fun e w' => e = .returned (.int .i64 B) ∧ w = w' := by
  subst hz
  have h32 : bitLen n ≤ 33 := bitLen_le (by omega)
  have HB := Lib.hid hB
  have d1 : decide ((n : Int) < 0) = false := by simp
  go_enter Try.func34, Try.ntmps34
  go_wp2
  go_loop [0, 3] (fun z k => ∃ m j : Nat, z = .int .i64 (m : Int) ∧ k = .int .i64 (j : Int) ∧ m ≤ 4294967296 ∧ j + bitLen m = B) (fun z _ => (intOf z).toNat)
  case atStart => exact ⟨n, 0, rfl, rfl, hn, by rw [HB.out]; omega⟩
  case round =>
    obtain ⟨m, j, rfl, rfl, hm, hj⟩ := hrel
    rw [HB.out] at hj
    by_cases h0 : m = 0
    · have hjB : j = B := by rw [HB.out]; rw [h0, bitLen_zero] at hj; omega
      subst h0
      clear hj
      go_wp2
      go_ret
      exact ⟨ret_int (by omega), rfl⟩
    · have hh := bitLen_half h0
      have t1 : decide ((m : Int) > 0) = true := by simp; omega
      have t2 : ((m : Int)).tdiv 2 = ((m / 2 : Nat) : Int) := by rw [Int.tdiv_eq_ediv_of_nonneg (by omega)]; omega
      obtain ⟨q, hq⟩ : ∃ q, q = m / 2 := ⟨_, rfl⟩
      rw [← hq] at hh t2
      have hq1 : q < m := by omega
      have hjB : j + 1 + bitLen q = B := by rw [HB.out]; omega
      have hjj : j ≤ 40 := by omega
      clear hh hj
      go_wp2
      go_round
      case rel => exact ⟨q, j + 1, by go_num, by go_num, by omega, hjB⟩
      case measure => simp [intOf] <;> omega
theorem refBits_any (x : Int) (w : World) (h0 : -2147483648 ≤ x) (h1 : x ≤ 2147483647) :
    Calls Try.prog 34 #[.int .i64 x] w fun e w' => e = .returned (.int .i64 (bitsI x)) ∧ w = w' := by
  by_cases hx : 0 ≤ x
  · exact refBits_pos x.toNat x (bitsI x) w (by omega) (by omega) (by unfold bitsI; congr 1; omega)
  · obtain ⟨n, hn⟩ : ∃ n : Nat, -x = n := ⟨(-x).toNat, by omega⟩
    obtain ⟨B, hB⟩ : ∃ B, B = bitsI x := ⟨_, rfl⟩
    have hB2 : B = bitLen n := by rw [hB]; unfold bitsI; congr 1; omega
    rw [← hB]
    clear hB
    have h32 : bitLen n ≤ 33 := bitLen_le (by omega)
    have HB := Lib.hid hB2
    have d1 : decide (x < 0) = true := by simp; omega
    have hn2 : n ≤ 4294967296 := by omega
    clear hB2
    go_enter Try.func34, Try.ntmps34
    go_wp2
    go_loop [0, 3] (fun z k => ∃ m j : Nat, z = .int .i64 (m : Int) ∧ k = .int .i64 (j : Int) ∧ m ≤ 4294967296 ∧ j + bitLen m = B) (fun z _ => (intOf z).toNat)
    case atStart => exact ⟨n, 0, rfl, rfl, hn2, by rw [HB.out]; omega⟩
    case round =>
      obtain ⟨m, j, rfl, rfl, hm, hj⟩ := hrel
      rw [HB.out] at hj
      by_cases h0 : m = 0
      · have hjB : j = B := by rw [HB.out]; rw [h0, bitLen_zero] at hj; omega
        subst h0
        clear hj
        go_wp2
        go_ret
        exact ⟨ret_int (by omega), rfl⟩
      · have hh := bitLen_half h0
        have t1 : decide ((m : Int) > 0) = true := by simp; omega
        have t2 : ((m : Int)).tdiv 2 = ((m / 2 : Nat) : Int) := by rw [Int.tdiv_eq_ediv_of_nonneg (by omega)]; omega
        obtain ⟨q, hq⟩ : ∃ q, q = m / 2 := ⟨_, rfl⟩
        rw [← hq] at hh t2
        have hq1 : q < m := by omega
        have hjB : j + 1 + bitLen q = B := by rw [HB.out]; omega
        have hjj : j ≤ 40 := by omega
        clear hh hj
        go_wp2
        go_round
        case rel => exact ⟨q, j + 1, by go_num, by go_num, by omega, hjB⟩
        case measure => simp [intOf] <;> omega

/-! ### Which are right -/
theorem engRight_any (a : Option Addr) (len cap : Nat) (zs : List Int) (w : World) (h : IntsAt w w.heap.size .i64 a len zs) (hm : len ≤ 9223372036854775807) :
    Calls Try.prog 49 #[.slice a len cap] w fun e w' => e = .returned (.bool (rightB zs)) ∧ w = w' := by
  obtain ⟨R, hR⟩ : ∃ R, R = rightB zs := ⟨_, rfl⟩
  rw [← hR]
  by_cases hl : len = 21
  · subst hl
    have H0 := Lib.hid h
    have HL := Lib.hid h.1
    have HR := Lib.hid hR
    clear h hR
    go_enter Try.func49, Try.ntmps49
    go_wp2
    go_loop [10] (fun i => ∃ k : Nat, k ≤ 21 ∧ i = .int .i64 (k : Int) ∧ RowKit.Hid (∀ j, j < k → 0 ≤ zs.getD j 0 ∧ zs.getD j 0 ≤ 26)) (fun i => 21 - (intOf i).toNat)
    case atStart => exact ⟨0, by omega, rfl, fun j hj => by omega⟩
    case round =>
      obtain ⟨k, hk, rfl, HP⟩ := hrel
      by_cases hlt : k < 21
      · obtain ⟨b, off, rfl, _, _, hcell⟩ := H0.out.at_ hlt
        have HN : RowKit.Hid (zs.getD k 0 < 0 ∨ 26 < zs.getD k 0 → R = false) := fun c => by rw [HR.out]; exact rightB_at (by rw [HL.out]; exact hlt) c
        have HY : RowKit.Hid (0 ≤ zs.getD k 0 ∧ zs.getD k 0 ≤ 26 → ∀ j, j < k + 1 → 0 ≤ zs.getD j 0 ∧ zs.getD j 0 ≤ 26) := fun c j hj => by
          by_cases e : j = k
          · rw [e]; exact c
          · exact HP.out j (by omega)
        generalize zs.getD k 0 = x at hcell HN HY
        by_cases x0 : x < 0
        · have HF := Lib.hid (HN.out (.inl x0))
          go_wp2
          go_ret
          exact ⟨ret_bool HF.out.symm, rfl⟩
        · by_cases x1 : 26 < x
          · have HF := Lib.hid (HN.out (.inr x1))
            go_wp2
            go_ret
            exact ⟨ret_bool HF.out.symm, rfl⟩
          · have HT := Lib.hid (HY.out ⟨by omega, by omega⟩)
            go_wp2
            go_round
            case rel => exact ⟨k + 1, by omega, by go_num, HT.out⟩
            case measure => simp [intOf] <;> omega
      · obtain rfl : k = 21 := by omega
        have HF : RowKit.Hid (R = true) := by show _ = _; rw [HR.out]; exact rightB_of HL.out HP.out
        go_wp2
        go_ret
        exact ⟨ret_bool HF.out.symm, rfl⟩
  · have HF : RowKit.Hid (R = false) := by show _ = _; rw [hR]; exact rightB_len (by rw [h.1]; exact hl)
    have q1 : ((len : Int) == 21) = false := by simp; omega
    clear h hR hl
    go_enter Try.func49, Try.ntmps49
    go_wp2
    go_ret
    exact ⟨ret_bool HF.out.symm, rfl⟩
theorem ref10Right_any (a : Option Addr) (len cap : Nat) (zs : List Int) (w : World) (h : IntsAt w w.heap.size .i64 a len zs) (hm : len ≤ 9223372036854775807) :
    Calls Try.prog 24 #[.slice a len cap] w fun e w' => e = .returned (.bool (rightB zs)) ∧ w = w' := by
  obtain ⟨R, hR⟩ : ∃ R, R = rightB zs := ⟨_, rfl⟩
  rw [← hR]
  have H0 := Lib.hid h
  have HL := Lib.hid h.1
  have HR := Lib.hid hR
  clear h hR
  go_enter Try.func24, Try.ntmps24
  go_wp2
  go_loop [3] (fun i => ∃ k : Nat, k ≤ len ∧ i = .int .i64 (k : Int) ∧ RowKit.Hid (∀ j, j < k → 0 ≤ zs.getD j 0 ∧ zs.getD j 0 ≤ 26)) (fun i => len - (intOf i).toNat)
  case atStart => exact ⟨0, by omega, rfl, fun j hj => by omega⟩
  case round =>
    obtain ⟨k, hk, rfl, HP⟩ := hrel
    by_cases hlt : k < len
    · obtain ⟨b, off, rfl, _, _, hcell⟩ := H0.out.at_ hlt
      have HN : RowKit.Hid (zs.getD k 0 < 0 ∨ 26 < zs.getD k 0 → R = false) := fun c => by rw [HR.out]; exact rightB_at (by rw [HL.out]; exact hlt) c
      have HY : RowKit.Hid (0 ≤ zs.getD k 0 ∧ zs.getD k 0 ≤ 26 → ∀ j, j < k + 1 → 0 ≤ zs.getD j 0 ∧ zs.getD j 0 ≤ 26) := fun c j hj => by
        by_cases e : j = k
        · rw [e]; exact c
        · exact HP.out j (by omega)
      generalize zs.getD k 0 = x at hcell HN HY
      have l1 : (k : Int) < (len : Int) := by omega
      by_cases x0 : x < 0
      · have HF := Lib.hid (HN.out (.inl x0))
        go_wp2
        go_ret
        exact ⟨ret_bool HF.out.symm, rfl⟩
      · by_cases x1 : 26 < x
        · have HF := Lib.hid (HN.out (.inr x1))
          go_wp2
          go_ret
          exact ⟨ret_bool HF.out.symm, rfl⟩
        · have HT := Lib.hid (HY.out ⟨by omega, by omega⟩)
          go_wp2
          go_round
          case rel => exact ⟨k + 1, by omega, by go_num, HT.out⟩
          case measure => simp [intOf] <;> omega
    · obtain rfl : k = len := by omega
      have l1 : ¬ (k : Int) < (k : Int) := by omega
      by_cases hl : k = 21
      · have HF : RowKit.Hid (R = true) := by show _ = _; rw [HR.out]; exact rightB_of (by rw [HL.out, hl]) fun j hj => HP.out j (by omega)
        have q1 : ((k : Int) == 21) = true := by simp; omega
        clear hl
        go_wp2
        go_ret
        exact ⟨ret_bool HF.out.symm, rfl⟩
      · have HF : RowKit.Hid (R = false) := by show _ = _; rw [HR.out]; exact rightB_len (by rw [HL.out]; exact hl)
        have q1 : ((k : Int) == 21) = false := by simp; omega
        clear hl
        go_wp2
        go_ret
        exact ⟨ret_bool HF.out.symm, rfl⟩
theorem i64_and31 (n : Int) : bits .and .i64 n 31 = n % 32 := by
  have h1 : (BitVec.ofInt 64 31).toNat = 2 ^ 5 - 1 := by decide
  have key : (BitVec.ofInt 64 n &&& BitVec.ofInt 64 31).toNat = (n % ((2 ^ 64 : Nat) : Int)).toNat % 2 ^ 5 := by
    rw [BitVec.toNat_and, BitVec.toNat_ofInt, h1, Nat.and_two_pow_sub_one_eq_mod]
  show IntKind.i64.wrap ((BitVec.ofInt 64 n &&& BitVec.ofInt 64 31).toNat : Nat) = n % 32
  rw [key, IntKind.wrap_i64]
  omega
theorem drewE_add (w : World) (a b : Nat) : (w.drewN a).drewN b = w.drewN (a + b) := by unfold World.drewN; simp only [Nat.add_assoc]
end Go.Proofs.Ytdmafololcpamaa

/- What Ceilings of package energy gives, and the document's. -/
namespace Go.Proofs.Ytdmafololcpamaa
open Go.RowKit
set_option linter.unusedVariables false

theorem infoE_int : (Try.prog.info? 3).map (fun i => (i.zero, i.size, i.bytes)) = some (some (.int .i64 0), 1, 8) := by kernel_rfl
theorem edges_at {w : World} {B b off : Nat} (h : IntsAt w B .i64 (some ⟨b, off, none⟩) 22 edgesL) {k : Nat} (hk : k < 22) : w.cell? ⟨b, off + k, none⟩ = some (.int .i64 (edgeK k : Int)) := by
  rw [ints_cell h hk, ← edgeK_eq hk]; rfl
/-- What ceilings' making leaves. -/
def CeilPost (x : Nat → Int) (w : World) (e : Ending) (w' : World) : Prop :=
  ∃ g, e = .returned (.tuple #[.slice (some ⟨g, 0, none⟩) 21 21, .int .i64 0]) ∧ IFun w' g 3 .i64 21 (ceilF x) ∧ w.heap.size ≤ g ∧ Below w.heap.size w w'
end Go.Proofs.Ytdmafololcpamaa

/- What the smaller functions of layer 10's laws give. -/
namespace Go.Proofs.Ytdmafololcpamaa
open Go.RowKit
set_option linter.unusedVariables false

theorem infoE_i32 : (Try.prog.info? 21).map (fun i => (i.zero, i.size, i.bytes)) = some (some (.int .i32 0), 1, 4) := by kernel_rfl
/-! ### One line of five -/
def fiveL (i : Nat) : Int := if i = 9 then -5 else 0
theorem five_2 : ceilF fiveL 2 = 3 := by decide +kernel
theorem five_0 : ceilF fiveL 0 = 0 := by decide +kernel
theorem five_ok : rightB (tabF 21 (ceilF fiveL)) = true := by decide +kernel
theorem IFun.ints {w : World} {g n : Nat} {t : TypeId} {k : IntKind} {f : Nat → Int} (h : IFun w g t k n f) (hn : n ≤ 9223372036854775807) : IntsAt w w.heap.size k (some ⟨g, 0, none⟩) n (tabF n f) :=
  ⟨tabF_len _ _, .inr ⟨g, 0, rfl, h.lt, hn, fun j hj => by rw [Nat.zero_add, h.cell hj, tabF_getD _ hj]⟩⟩
theorem set_new (w : World) (t : TypeId) (cs : Array Value) (i : Nat) (v : Value) : (w.alloc (.cells cs t)).setCell ⟨w.heap.size, i, none⟩ v = w.alloc (.cells (cs.setIfInBounds i v) t) := by
  simp [go_sem]
/-! ### Right ceilings of any numbers -/
def cutF (zs : List Int) (len i : Nat) : Int := if len = 0 then 0 else zs.getD (i % len) 0 % 27
theorem cutF_bd (zs : List Int) (len i : Nat) : 0 ≤ cutF zs len i ∧ cutF zs len i ≤ 26 := by
  unfold cutF; split
  · decide
  · omega
theorem cutF_right (zs : List Int) (len : Nat) : rightB (tabF 21 (cutF zs len)) = true := rightB_of (tabF_len _ _) fun j hj => by rw [tabF_getD _ hj]; exact cutF_bd zs len j
def RowE (n : Nat) (k : IntKind) (t : TypeId) (F : Nat → Int) (w : World) (e : Ending) (w' : World) : Prop :=
  ∃ g, e = .returned (.slice (some ⟨g, 0, none⟩) n n) ∧ IFun w' g t k n F ∧ w.heap.size ≤ g ∧ Below w.heap.size w w'
/-! ### What the frames want -/
theorem wfE_i32 {zs : List Int} (h : ∀ n ∈ zs, (Lit.int .i32 n).wf = true) (j : Nat) : -2147483648 ≤ zs.getD j 0 ∧ zs.getD j 0 ≤ 2147483647 := by
  by_cases hj : j < zs.length
  · have := h (zs.getD j 0) (by simp [List.getD, hj])
    exact bounds_i32 this
  · rw [List.getD, List.getElem?_eq_none (by omega)]; decide
theorem wfE_u8 {zs : List Int} (h : ∀ n ∈ zs, (Lit.int .u8 n).wf = true) (j : Nat) : 0 ≤ zs.getD j 0 ∧ zs.getD j 0 ≤ 255 := by
  by_cases hj : j < zs.length
  · have := h (zs.getD j 0) (by simp [List.getD, hj])
    exact bounds_u8 this
  · rw [List.getD, List.getElem?_eq_none (by omega)]; decide
theorem capsE {w : World} {k : IntKind} {a : Option Addr} {len cap : Nat} {zs : List Int}
    (h : (a = none ∧ len = 0 ∧ cap = 0 ∧ zs = []) ∨ ∃ x, a = some x ∧ len ≤ cap ∧ cap ≤ maxLen ∧ zs.length = cap ∧ (∀ i, i < zs.length → w.cell? (x.add i) = some (.int k (zs.getD i 0))) ∧ ∀ n ∈ zs, (Lit.int k n).wf = true) : len ≤ cap ∧ cap ≤ 9223372036854775807 := by
  rcases h with ⟨rfl, rfl, rfl, rfl⟩ | ⟨x, rfl, hl, hm, _⟩
  · exact ⟨Nat.le_refl _, by decide⟩
  · unfold maxLen at hm; exact ⟨hl, by omega⟩
end Go.Proofs.Ytdmafololcpamaa

/- What the functions of package mask give. -/
namespace Go.Proofs.Ytdmafololcpamaa
open Go.RowKit
set_option linter.unusedVariables false

end Go.Proofs.Ytdmafololcpamaa

/- What Steps of package mask gives. -/
namespace Go.Proofs.Ytdmafololcpamaa
open Go.RowKit
set_option linter.unusedVariables false

/-- What the making of steps leaves. -/
def StepsPost (l : Nat → Int) (q x : Int) (w : World) (e : Ending) (w' : World) : Prop :=
  ∃ g, e = .returned (.tuple #[.slice (some ⟨g, 0, none⟩) 21 21, .int .i64 0]) ∧ IFun w' g 3 .i64 21 (stepF l q x) ∧ w.heap.size ≤ g ∧ Below w.heap.size w w'
/-- Ceilings, a quality and a loss that may be. -/
def mayStep (zs : List Int) (q x : Int) : Prop := rightB zs = true ∧ 1 ≤ q ∧ q ≤ 10 ∧ 0 ≤ x ∧ x ≤ 31
end Go.Proofs.Ytdmafololcpamaa

/- What Told and Reach of package mask give. -/
namespace Go.Proofs.Ytdmafololcpamaa
open Go.RowKit
set_option linter.unusedVariables false

theorem mskTold_any (n s : Int) (w : World) :
    Calls Try.prog 52 #[.int .i64 n, .int .i64 s] w fun e w' => e = .returned (.bool (decide (s < n))) ∧ w = w' := by
  go_enter Try.func52, Try.ntmps52
  go_wp2
  go_ret
  exact ⟨rfl, rfl⟩
end Go.Proofs.Ytdmafololcpamaa

/- What the small functions of package quant give, and the document's own for numbers and noise. -/
namespace Go.Proofs.Ytdmafololcpamaa
open Go.RowKit
set_option linter.unusedVariables false



theorem part_new (w : World) (a b n s : Int) : Below w.heap.size w (w.alloc (.cells #[.int .i64 a, .int .i64 b, .int .i64 n, .int .i64 s] 67)) := Below.alloc_new w _
theorem qTold_any (a b n s : Int) (w : World) :
    Calls Try.prog 29 #[.agg #[.int .i64 a, .int .i64 b, .int .i64 n, .int .i64 s]] w fun e w' => e = .returned (.bool (decide (s < n))) ∧ Below w.heap.size w w' := by
  have HB := Lib.hid (part_new w a b n s)
  go_enter Try.func29, Try.ntmps29
  go_wp2_with (go_at_call 52; refine (mskTold_any _ _ _).mono ?_; rintro e1 w5 ⟨rfl, rfl⟩)
  go_ret
  exact ⟨rfl, HB.out⟩
theorem qWide_any (a b n s : Int) (k : Nat) (w : World) (hk : n - s = k) (h : k ≤ 1000) :
    Calls Try.prog 43 #[.agg #[.int .i64 a, .int .i64 b, .int .i64 n, .int .i64 s]] w fun e w' => e = .returned (.int .i64 (k : Int)) ∧ Below w.heap.size w w' := by
  have HB := Lib.hid (part_new w a b n s)
  have u1 : IntKind.i64.wrap (n - s) = (k : Int) := by rw [hk]; exact IntWalk.i64_in _ (by omega)
  clear hk
  go_enter Try.func43, Try.ntmps43
  go_wp2
  go_ret
  exact ⟨rfl, HB.out⟩
theorem qLine_any (a b n q y : Int) (s : Nat) (w : World) (hs : s ≤ 26) (hy : q * P2 s = y) (y0 : -2147483648 ≤ y) (y1 : y ≤ 2147483647) :
    Calls Try.prog 63 #[.agg #[.int .i64 a, .int .i64 b, .int .i64 n, .int .i64 (s : Int)], .int .i32 q] w fun e w' => e = .returned (.int .i32 y) ∧ Below w.heap.size w w' := by
  have HB := Lib.hid (part_new w a b n s)
  have u1 : IntKind.i32.wrap (q * 2 ^ s) = y := by rw [pow_P2, hy]; exact IntWalk.i32_in _ (by omega)
  clear hy
  go_enter Try.func63, Try.ntmps63
  go_wp2
  go_ret
  exact ⟨rfl, HB.out⟩
set_option maxRecDepth 100000 in
theorem qNumber_any (a b n s x : Int) (w : World) (s0 : 0 ≤ s) (s1 : s ≤ 62) (h : s < n) (h2 : n - s ≤ 12) (x0 : -2147483648 ≤ x) (x1 : x ≤ 2147483647) :
    Calls Try.prog 31 #[.agg #[.int .i64 a, .int .i64 b, .int .i64 n, .int .i64 s], .int .i32 x] w fun e w' => e = .returned (.int .i32 (numQ x s n)) ∧ Below w.heap.size w w' := by
  obtain ⟨k, hk⟩ : ∃ k : Nat, n - s = k := ⟨(n - s).toNat, by omega⟩
  have hk12 : k ≤ 12 := by omega
  have p0 := P2_pos k
  have p1 := P2_12 (k := k) (by omega)
  have hkn : (n - s).toNat = k := by omega
  obtain ⟨z, hz⟩ : ∃ z, z = rndP x s := ⟨_, rfl⟩
  have HE : RowKit.Hid (numQ x s n = max (-(P2 k - 1)) (min z (P2 k - 1))) := by show _ = _; unfold numQ; rw [hkn, hz]
  have HR := Lib.hid hz
  have hz64 := rndP_bd (n := x) (b := s) (by omega) (by omega)
  rw [← hz] at hz64
  have HB := Lib.hid (part_new w a b n s)
  have HK := Lib.hid hk
  have HW : RowKit.Hid (∀ wx, Calls Try.prog 57 #[.int .i32 x] wx fun e w' => e = .returned (.int .i64 x) ∧ w' = wx) := fun wx => (wide32_any x wx x0 x1).mono fun _ _ h => ⟨h.1, h.2.symm⟩
  have HRd : RowKit.Hid (∀ wx, Calls Try.prog 56 #[.int .i64 x, .int .i64 s] wx fun e w' => e = .returned (.int .i64 z) ∧ w' = wx) := fun wx => (round_any x s wx (by omega) (by omega)).mono fun _ _ h => ⟨by rw [HR.out]; exact h.1, h.2.symm⟩
  have hp : (2 : Int) ^ k = P2 k := rfl
  generalize P2 k = m at HE p0 p1 hp
  have u1 : IntKind.i64.wrap (2 ^ k) = m := by rw [hp]; exact IntWalk.i64_in _ (by omega)
  have u3 : IntKind.i64.wrap (-(m - 1)) = -(m - 1) := IntWalk.i64_in _ (by omega)
  have u2 : IntKind.i64.wrap (m - 1) = m - 1 := IntWalk.i64_in _ (by omega)
  obtain ⟨v, hv⟩ : ∃ v, v = max (-(m - 1)) (min z (m - 1)) := ⟨_, rfl⟩
  rw [← hv] at HE
  have u4 : IntKind.i32.wrap v = v := IntWalk.i32_in _ (by omega)
  rw [HE.out]
  clear hz hkn hk HR hp
  go_enter Try.func31, Try.ntmps31
  go_wp2_with (go_at_call 43; go_loud (refine (qWide_any a b n s k _ HK.out (by omega)).mono ?_); rintro e1 w5 ⟨rfl, hb⟩; have hbb := HB.out.trans (hb.mono HB.out.size); have HB5 := Lib.hid hbb; have c3 := (Cel.new w 67 #[.int .i64 a, .int .i64 b, .int .i64 n, .int .i64 s]).below hb; have hs3 := c3.cell 3; simp only [List.getElem?_toArray, List.getElem?_cons_zero, List.getElem?_cons_succ] at hs3; clear hb hbb c3)
  go_quiet (first | (go_at_call 57; exact Calls.quiet_of_same (HW.out _)) | (go_at_call 56; exact Calls.quiet_of_same (HRd.out _)))
  go_wp2
  all_goals
    go_ret
    exact ⟨ret_int (by omega), Below.drewN' HB5.out _⟩
/-! ### Which ceilings and steps may be -/
def mayQ (zs ss : List Int) : Bool := rightB zs && rightB ss && (List.range 21).all fun j => decide (zs.getD j 0 - ss.getD j 0 ≤ 12)
theorem mayQ_true {zs ss : List Int} (h : mayQ zs ss = true) : rightB zs = true ∧ rightB ss = true ∧ ∀ j, j < 21 → zs.getD j 0 - ss.getD j 0 ≤ 12 := by
  unfold mayQ at h
  rw [Bool.and_eq_true, Bool.and_eq_true, List.all_eq_true] at h
  exact ⟨h.1.1, h.1.2, fun j hj => by simpa using h.2 j (List.mem_range.2 hj)⟩
theorem mayQ_of {zs ss : List Int} (h1 : rightB zs = true) (h2 : rightB ss = true) (h3 : ∀ j, j < 21 → zs.getD j 0 - ss.getD j 0 ≤ 12) : mayQ zs ss = true := by
  unfold mayQ
  rw [Bool.and_eq_true, Bool.and_eq_true, List.all_eq_true]
  exact ⟨⟨h1, h2⟩, fun j hj => by simpa using h3 j (List.mem_range.1 hj)⟩
theorem mayQ_no1 {zs ss : List Int} (h : rightB zs = false) : mayQ zs ss = false := by unfold mayQ; simp [h]
theorem mayQ_no2 {zs ss : List Int} (h : rightB ss = false) : mayQ zs ss = false := by unfold mayQ; simp [h]
theorem mayQ_at {zs ss : List Int} {j : Nat} (hj : j < 21) (h : 12 < zs.getD j 0 - ss.getD j 0) : mayQ zs ss = false := by
  cases hm : mayQ zs ss with
  | false => rfl
  | true => have := (mayQ_true hm).2.2 j hj; omega
set_option maxRecDepth 100000 in
theorem qMay_any (a a2 : Option Addr) (len cap len2 cap2 : Nat) (zs ss : List Int) (w : World) (h : IntsAt w w.heap.size .i64 a len zs) (hm : len ≤ 9223372036854775807) (h2 : IntsAt w w.heap.size .i64 a2 len2 ss) (hm2 : len2 ≤ 9223372036854775807) :
    Calls Try.prog 26 #[.slice a len cap, .slice a2 len2 cap2] w fun e w' => e = .returned (.bool (mayQ zs ss)) ∧ w = w' := by
  have H1 := Lib.hid h
  have H2 := Lib.hid h2
  have hl1 := h.1
  have hl2 := h2.1
  clear h h2
  cases hr1 : rightB zs with
  | false =>
    have HE := Lib.hid (mayQ_no1 (ss := ss) hr1)
    have HR1 := Lib.hid hr1
    rw [HE.out]
    clear hr1 HE
    go_enter Try.func26, Try.ntmps26
    go_wp2_with (go_at_call 49; go_loud (refine (engRight_any _ _ _ _ w (by first | (with_reducible exact H1.out) | (with_reducible exact H2.out)) (by omega)).mono ?_); rintro e1 w5 ⟨rfl, rfl⟩; first | rw [HR1.out] | rw [HR2.out])
    go_ret
    exact ⟨rfl, rfl⟩
  | true =>
    cases hr2 : rightB ss with
    | false =>
      have HE := Lib.hid (mayQ_no2 (zs := zs) hr2)
      have HR1 := Lib.hid hr1
      have HR2 := Lib.hid hr2
      rw [HE.out]
      clear hr1 hr2 HE
      go_enter Try.func26, Try.ntmps26
      go_wp2_with (go_at_call 49; go_loud (refine (engRight_any _ _ _ _ w (by first | (with_reducible exact H1.out) | (with_reducible exact H2.out)) (by omega)).mono ?_); rintro e1 w5 ⟨rfl, rfl⟩; first | rw [HR1.out] | rw [HR2.out])
      go_ret
      exact ⟨rfl, rfl⟩
    | true =>
      have HB1 := Lib.hid (rightB_true hr1).2
      have HB2 := Lib.hid (rightB_true hr2).2
      have e1 := (rightB_true hr1).1
      have e2 := (rightB_true hr2).1
      obtain rfl : len = 21 := by omega
      obtain rfl : len2 = 21 := by omega
      obtain ⟨R, hR⟩ : ∃ R, R = mayQ zs ss := ⟨_, rfl⟩
      have HNo : RowKit.Hid (∀ j, j < 21 → 12 < zs.getD j 0 - ss.getD j 0 → R = false) := fun j hj hx => by rw [hR]; exact mayQ_at hj hx
      have HYes : RowKit.Hid ((∀ j, j < 21 → zs.getD j 0 - ss.getD j 0 ≤ 12) → R = true) := fun hx => by rw [hR]; exact mayQ_of hr1 hr2 hx
      rw [← hR]
      have HR1 := Lib.hid hr1
      have HR2 := Lib.hid hr2
      clear hr1 hr2 hR hl1 hl2 e1 e2
      go_enter Try.func26, Try.ntmps26
      go_wp2_with (go_at_call 49; go_loud (refine (engRight_any _ _ _ _ w (by first | (with_reducible exact H1.out) | (with_reducible exact H2.out)) (by omega)).mono ?_); rintro e1 w5 ⟨rfl, rfl⟩; first | rw [HR1.out] | rw [HR2.out])
      go_loop [5, 6, 17] (fun _ _ i => ∃ k : Nat, k ≤ 21 ∧ i = .int .i64 (k : Int) ∧ RowKit.Hid (∀ j, j < k → zs.getD j 0 - ss.getD j 0 ≤ 12)) (fun _ _ i => 21 - (intOf i).toNat)
      case atStart => exact ⟨0, by omega, rfl, fun j hj => by omega⟩
      case round =>
        obtain ⟨k, hk, rfl, HP⟩ := hrel
        by_cases hlt : k < 21
        · obtain ⟨b, off, rfl, _, _, hcell⟩ := H1.out.at_ hlt
          obtain ⟨b2, off2, rfl, _, _, hcell2⟩ := H2.out.at_ hlt
          obtain ⟨x0, x1⟩ := HB1.out k hlt
          obtain ⟨y0, y1⟩ := HB2.out k hlt
          have HN := Lib.hid (HNo.out k hlt)
          have HY : RowKit.Hid (zs.getD k 0 - ss.getD k 0 ≤ 12 → ∀ j, j < k + 1 → zs.getD j 0 - ss.getD j 0 ≤ 12) := fun c j hj => by
            by_cases e : j = k
            · rw [e]; exact c
            · exact HP.out j (by omega)
          generalize zs.getD k 0 = x at hcell x0 x1 HN HY
          generalize ss.getD k 0 = y at hcell2 y0 y1 HN HY
          have u1 : IntKind.i64.wrap (x - y) = x - y := IntWalk.i64_in _ (by omega)
          by_cases c : 12 < x - y
          · have HF := Lib.hid (HN.out c)
            go_wp2
            go_ret
            exact ⟨ret_bool HF.out.symm, rfl⟩
          · have HT := Lib.hid (HY.out (by omega))
            go_wp2
            go_round
            case rel => exact ⟨k + 1, by omega, by go_num, HT.out⟩
            case measure => simp [intOf] <;> omega
        · obtain rfl : k = 21 := by omega
          have HF := Lib.hid (HYes.out HP.out)
          go_wp2
          go_ret
          exact ⟨ret_bool HF.out.symm, rfl⟩
theorem qSizes_any (w : World) :
    Calls Try.prog 27 #[] w fun e w' => ∃ g, e = .returned (.pointer (some ⟨g, 0, none⟩)) ∧ w.heap.size ≤ g ∧ ModAt w' g (List.replicate 13 1) false ∧ Below w.heap.size w w' := by
  obtain ⟨L, hL⟩ : ∃ L : List Int, L = List.replicate 13 1 := ⟨_, rfl⟩
  have HC : RowKit.Hid (Calls Try.prog 50 #[.int .i64 13] w fun e w' => ∃ g, e = .returned (.tuple #[.pointer (some ⟨g, 0, none⟩), .int .i64 0]) ∧ w.heap.size ≤ g ∧ ModAt w' g L false ∧ Below w.heap.size w w') := by rw [hL]; exact modNew_any 13 w (by decide) (by decide)
  rw [← hL]
  clear hL
  go_enter Try.func27, Try.ntmps27
  go_wp2_with (go_at_call 50; refine HC.out.mono ?_; rintro e1 w1 ⟨g, rfl, hg, hm, hb⟩; have HM := Lib.hid hm; have HB := Lib.hid hb; have HG := Lib.hid hg; clear hm hb hg)
  go_ret
  exact ⟨g, rfl, HG.out, HM.out, HB.out⟩

/-! ### Noise -/
set_option maxRecDepth 100000 in
theorem qNoise_any (seed line n : Int) (w : World) (s0 : 0 ≤ seed) (s1 : seed ≤ 4294967295) (n0 : -9223372036854775808 ≤ n) (n1 : n ≤ 9223372036854775807) :
    Calls Try.prog 23 #[.int .u32 seed, .int .i64 line, .int .i64 n] w fun e w' => e = .returned (.int .i32 (noiseP seed line n)) ∧ w = w' := by
  by_cases h1 : n < 3
  · have HE : RowKit.Hid (noiseP seed line n = 0) := by show _ = _; rw [noiseP_in _ _ (by omega)]; exact noiseR_none _ _ h1
    rw [HE.out]
    go_enter Try.func23, Try.ntmps23
    go_wp2
    go_ret
    exact ⟨rfl, rfl⟩
  · by_cases h2 : 26 < n
    · have HE : RowKit.Hid (noiseP seed line n = 0) := if_pos h2
      rw [HE.out]
      go_enter Try.func23, Try.ntmps23
      go_wp2
      go_ret
      exact ⟨rfl, rfl⟩
    · obtain ⟨k, hk⟩ : ∃ k : Nat, n - 2 = k := ⟨(n - 2).toNat, by omega⟩
      have hk24 : k ≤ 24 := by omega
      have p0 := P2_pos k
      have p1 := P2_mono (a := k) (b := 24) hk24
      rw [show P2 24 = 16777216 by decide] at p1
      obtain ⟨m0, m1⟩ := mixW_bd seed line
      have HE : RowKit.Hid (noiseP seed line n = if mixW seed line / 2147483648 = 1 then -(P2 k) else P2 k) := by show _ = _; rw [noiseP_in _ _ (by omega), noiseR_some _ _ (by omega)]; rw [show (n - 2).toNat = k by omega]
      have hmix : (seed * 2654435761 + line % 4294967296 * 40503 + 12345) % 4294967296 * 1664525 % 4294967296 = mixW seed line := rfl
      have hp : (2 : Int) ^ k = P2 k := rfl
      generalize mixW seed line = M at HE m0 m1 hmix
      generalize P2 k = p at HE p0 p1 hp
      have u1 : IntKind.i64.wrap (n - 2) = (k : Int) := by rw [hk]; exact IntWalk.i64_in _ (by omega)
      have u2 : IntKind.i32.wrap (2 ^ k) = p := by rw [hp]; exact IntWalk.i32_in _ (by omega)
      have u3 : IntKind.i32.wrap (-p) = -p := IntWalk.i32_in _ (by omega)
      generalize noiseP seed line n = y at HE ⊢
      clear hk hp
      go_enter Try.func23, Try.ntmps23
      go_wp2
      all_goals
        rename_i hc
        go_ret
        refine ⟨ret_int ?_, rfl⟩
        rw [HE.out]
        simp at hc
        first | rw [if_pos hc] | rw [if_neg hc]
set_option maxRecDepth 100000 in
theorem ref10Noise_any (seed line n : Int) (w : World) (s0 : 0 ≤ seed) (s1 : seed ≤ 4294967295) (n0 : -9223372036854775808 ≤ n) (n1 : n ≤ 40) :
    Calls Try.prog 25 #[.int .u32 seed, .int .i64 line, .int .i64 n] w fun e w' => e = .returned (.int .i64 (noiseR seed line n)) ∧ w = w' := by
  by_cases h1 : n < 3
  · have HE : RowKit.Hid (noiseR seed line n = 0) := noiseR_none _ _ h1
    rw [HE.out]
    go_enter Try.func25, Try.ntmps25
    go_wp2
    go_ret
    exact ⟨rfl, rfl⟩
  · obtain ⟨k, hk⟩ : ∃ k : Nat, n - 2 = k := ⟨(n - 2).toNat, by omega⟩
    have hk24 : k ≤ 38 := by omega
    have p0 := P2_pos k
    have p1 := P2_mono (a := k) (b := 38) hk24
    rw [show P2 38 = 274877906944 by decide] at p1
    obtain ⟨m0, m1⟩ := mixW_bd seed line
    have HE : RowKit.Hid (noiseR seed line n = if mixW seed line / 2147483648 = 1 then -(P2 k) else P2 k) := by show _ = _; rw [noiseR_some _ _ (by omega)]; rw [show (n - 2).toNat = k by omega]
    have hmix : (seed * 2654435761 + line % 4294967296 * 40503 + 12345) % 4294967296 * 1664525 % 4294967296 = mixW seed line := rfl
    have hp : (2 : Int) ^ k = P2 k := rfl
    generalize mixW seed line = M at HE m0 m1 hmix
    generalize P2 k = p at HE p0 p1 hp
    have u1 : IntKind.i64.wrap (n - 2) = (k : Int) := by rw [hk]; exact IntWalk.i64_in _ (by omega)
    have u2 : IntKind.i64.wrap (2 ^ k) = p := by rw [hp]; exact IntWalk.i64_in _ (by omega)
    have u3 : IntKind.i64.wrap (-p) = -p := IntWalk.i64_in _ (by omega)
    generalize noiseR seed line n = y at HE ⊢
    clear hk hp
    go_enter Try.func25, Try.ntmps25
    go_wp2
    all_goals
      rename_i hc
      go_ret
      refine ⟨ret_int ?_, rfl⟩
      rw [HE.out]
      simp at hc
      first | rw [if_pos hc] | rw [if_neg hc]

/-! ### The document's numbers -/
theorem ref10Power_any (k : Nat) (w : World) (h : k ≤ 60) :
    Calls Try.prog 37 #[.int .i64 (k : Int)] w fun e w' => e = .returned (.int .i64 (P2 k)) ∧ w = w' := by
  have p0 := P2_pos k
  have p1 := P2_mono (a := k) (b := 60) h
  rw [show P2 60 = 1152921504606846976 by decide] at p1
  have hp : (2 : Int) ^ k = P2 k := rfl
  generalize P2 k = p at p0 p1 hp
  have u2 : IntKind.i64.wrap (2 ^ k) = p := by rw [hp]; exact IntWalk.i64_in _ (by omega)
  clear hp
  go_enter Try.func37, Try.ntmps37
  go_wp2
  go_ret
  exact ⟨rfl, rfl⟩
set_option maxRecDepth 100000 in
theorem refNear_any (x s n r : Int) (w : World) (s0 : 0 ≤ s) (s1 : s ≤ 62) (h : s < n) (h2 : n - s ≤ 12) (hr : n - s = r) (x0 : -2147483648 ≤ x) (x1 : x ≤ 2147483647) :
    Calls Try.prog 33 #[.int .i64 x, .int .i64 s, .int .i64 r] w fun e w' => e = .returned (.int .i64 (numQ x s n)) ∧ w = w' := by
  obtain ⟨k, hk⟩ : ∃ k : Nat, n - s = k := ⟨(n - s).toNat, by omega⟩
  have hk12 : k ≤ 12 := by omega
  obtain rfl : r = (k : Int) := by omega
  have p0 := P2_pos k
  have p1 := P2_12 (k := k) (by omega)
  have hkn : (n - s).toNat = k := by omega
  obtain ⟨z, hz⟩ : ∃ z, z = rndP x s := ⟨_, rfl⟩
  have HE : RowKit.Hid (numQ x s n = max (-(P2 k - 1)) (min z (P2 k - 1))) := by show _ = _; unfold numQ; rw [hkn, hz]
  have HR := Lib.hid hz
  have hz64 := rndP_bd (n := x) (b := s) (by omega) (by omega)
  rw [← hz] at hz64
  have hp : (2 : Int) ^ k = P2 k := rfl
  generalize P2 k = m at HE p0 p1 hp
  have u1 : IntKind.i64.wrap (2 ^ k) = m := by rw [hp]; exact IntWalk.i64_in _ (by omega)
  have u3 : IntKind.i64.wrap (-(m - 1)) = -(m - 1) := IntWalk.i64_in _ (by omega)
  have u2 : IntKind.i64.wrap (m - 1) = m - 1 := IntWalk.i64_in _ (by omega)
  generalize numQ x s n = v at HE ⊢
  clear hz hkn hk hr hp
  go_enter Try.func33, Try.ntmps33
  go_wp2_with (go_at_call 58; refine (refRound_any x s w (by omega) (by omega)).mono ?_; rintro e1 w5 ⟨rfl, rfl⟩; rw [← HR.out])
  all_goals
    go_ret
    exact ⟨ret_int (by rw [HE.out]; omega), rfl⟩
end Go.Proofs.Ytdmafololcpamaa

/- What package quant's parts of a frame give. -/
namespace Go.Proofs.Ytdmafololcpamaa
open Go.RowKit
set_option linter.unusedVariables false

/-- The parts of a frame, number by number: four to a band. -/
def partF (c s : Nat → Int) (k : Nat) : Int := if k % 4 = 0 then (edgeK (k / 4) : Int) else if k % 4 = 1 then (edgeK (k / 4 + 1) : Int) else if k % 4 = 2 then c (k / 4) else s (k / 4)
theorem partF_0 (c s : Nat → Int) (b : Nat) : partF c s (b * 4) = (edgeK b : Int) := by unfold partF; rw [if_pos (by omega), show b * 4 / 4 = b by omega]
theorem partF_1 (c s : Nat → Int) (b : Nat) : partF c s (b * 4 + 1) = (edgeK (b + 1) : Int) := by unfold partF; rw [if_neg (by omega), if_pos (by omega), show (b * 4 + 1) / 4 = b by omega]
theorem partF_2 (c s : Nat → Int) (b : Nat) : partF c s (b * 4 + 2) = c b := by unfold partF; rw [if_neg (by omega), if_neg (by omega), if_pos (by omega), show (b * 4 + 2) / 4 = b by omega]
theorem partF_3 (c s : Nat → Int) (b : Nat) : partF c s (b * 4 + 3) = s b := by unfold partF; rw [if_neg (by omega), if_neg (by omega), if_neg (by omega), show (b * 4 + 3) / 4 = b by omega]
theorem infoQ_part : (Try.prog.info? 67).map (fun i => (i.zero, i.size, i.bytes)) = some (some (.agg #[.int .i64 0, .int .i64 0, .int .i64 0, .int .i64 0]), 4, 32) := by kernel_rfl
theorem made_four (z : Value) (n : Nat) : madeCells #[z, z, z, z] n = madeCells #[z] n := by
  apply Array.ext'
  rw [toList_madeCells_one]
  apply List.ext_getElem?
  intro j
  by_cases hj : j < n
  · rcases (show j % 4 = 0 ∨ j % 4 = 1 ∨ j % 4 = 2 ∨ j % 4 = 3 by omega) with h | h | h | h <;> simp [madeCells, hj, h]
  · simp [madeCells, hj]
theorem make_parts (w : World) : (Instr.makeSlice 64 (.int .i64 21) (.int .i64 21)).run Try.prog w = .ok (.slice (some ⟨w.heap.size, 0, none⟩) 21 21) (w.alloc (.cells (madeCells #[.int .i64 0] 84) 67)) := by
  obtain ⟨i, h1, h2, h3, h4⟩ := info_parts infoQ_part
  have hr := run_make (P := Try.prog) w 64 67 i _ Try.underlying64 h1 h2 .i64 .i64 21 21 (by omega) (Int.le_refl _) (by rw [h4]; decide) (by decide)
  rw [hr, h3]
  simp [Value.cells, made_four]
/-- Four cells set. -/
theorem parts_next {w : World} {g k : Nat} {F : Nat → Int} (h : IFun w g 67 .i64 84 (preF F (k * 4))) (hk : k < 21) :
    IFun ((((w.setCell ⟨g, k * 4, none⟩ (.int .i64 (F (k * 4)))).setCell ⟨g, k * 4 + 1, none⟩ (.int .i64 (F (k * 4 + 1)))).setCell ⟨g, k * 4 + 2, none⟩ (.int .i64 (F (k * 4 + 2)))).setCell ⟨g, k * 4 + 3, none⟩ (.int .i64 (F (k * 4 + 3)))) g 67 .i64 84 (preF F ((k + 1) * 4)) := by
  refine IFun.ext ((((h.set (j := k * 4) (by omega) _).set (j := k * 4 + 1) (by omega) _).set (j := k * 4 + 2) (by omega) _).set (j := k * 4 + 3) (by omega) _) fun i _ => ?_
  rw [show (k + 1) * 4 = k * 4 + 1 + 1 + 1 + 1 by omega, ← preF_next, ← preF_next, ← preF_next, ← preF_next]

set_option maxHeartbeats 400000 in
set_option maxRecDepth 100000 in
theorem qParts_any (a a2 : Option Addr) (cap cap2 : Nat) (zs ss : List Int) (w : World) (h : IntsAt w w.heap.size .i64 a 21 zs) (h2 : IntsAt w w.heap.size .i64 a2 21 ss) :
    Calls Try.prog 28 #[.slice a 21 cap, .slice a2 21 cap2] w fun e w' =>
      ∃ g, e = .returned (.slice (some ⟨g, 0, none⟩) 21 21) ∧ IFun w' g 67 .i64 84 (partF (fun j => zs.getD j 0) (fun j => ss.getD j 0)) ∧ w.heap.size ≤ g ∧ Below w.heap.size w w' := by
  have HI := Lib.hid h
  have HI2 := Lib.hid h2
  have hmk := make_parts
  obtain ⟨F, hF⟩ : ∃ F, F = partF (fun j => zs.getD j 0) (fun j => ss.getD j 0) := ⟨_, rfl⟩
  have HF : RowKit.Hid (∀ b, F (b * 4) = (edgeK b : Int) ∧ F (b * 4 + 1) = (edgeK (b + 1) : Int) ∧ F (b * 4 + 2) = zs.getD b 0 ∧ F (b * 4 + 3) = ss.getD b 0) := fun b => by rw [hF]; exact ⟨partF_0 _ _ _, partF_1 _ _ _, partF_2 _ _ _, partF_3 _ _ _⟩
  rw [← hF]
  have HZ : RowKit.Hid (∀ wx : World, IFun (wx.alloc (.cells (madeCells #[.int .i64 0] 84) 67)) wx.heap.size 67 .i64 84 (preF F (0 * 4))) := fun wx => IFun.ext (IFun.zeros wx 67 .i64 84) fun j _ => (preF_zero F j).symm
  generalize madeCells #[.int .i64 0] 84 = mc at HZ hmk
  clear h h2 hF
  go_enter Try.func28, Try.ntmps28
  go_wp2_with (go_at_call 51; go_loud (refine (bandsEdges_any w).mono ?_); rintro e w1 ⟨ea, ec, rfl, he, hb⟩; have HE := Lib.hid he; have HB := Lib.hid hb; clear he hb)
  clear hmk
  have H0 : RowKit.Hid (IFun (w1.alloc (.cells mc 67)) w1.heap.size 67 .i64 84 (preF F (0 * 4)) ∧ Below w.heap.size w (w1.alloc (.cells mc 67)) ∧ Below w1.heap.size w1 (w1.alloc (.cells mc 67))) := ⟨HZ.out w1, HB.out.alloc HB.out.size _, Below.alloc_new w1 _⟩
  generalize (w1.alloc (.cells mc 67)) = w2 at H0 ⊢
  have HS1 := Lib.hid HB.out.size
  clear HZ HB
  obtain ⟨g, hg⟩ : ∃ g, g = w1.heap.size := ⟨_, rfl⟩
  rw [← hg] at H0 HE HS1 ⊢
  clear hg
  go_loopw [7, 8, 13] (fun _ _ i wr => ∃ k : Nat, k ≤ 21 ∧ i = .int .i64 (k : Int) ∧ RowKit.Hid (IFun wr g 67 .i64 84 (preF F (k * 4)) ∧ Below w.heap.size w wr ∧ Below g w1 wr)) (fun _ _ i _ => 21 - (intOf i).toNat)
  case atStart => exact ⟨0, by omega, rfl, H0.out⟩
  case round =>
    obtain ⟨k, hk, rfl, H⟩ := hrel
    clear H0
    by_cases hlt : k < 21
    · obtain ⟨b, off, rfl, hbl, _, hcell⟩ := HI.out.at_ hlt
      obtain ⟨b2, off2, rfl, hbl2, _, hcell2⟩ := HI2.out.at_ hlt
      have k1 := (H.out.2.1.cell (p := ⟨b, off + k, none⟩) hbl).trans hcell
      have k2 := (H.out.2.1.cell (p := ⟨b2, off2 + k, none⟩) hbl2).trans hcell2
      have HEr := Lib.hid (HE.out.below H.out.2.2)
      obtain ⟨eb, eo, rfl, hebl, _, _⟩ := HEr.out.at_ (j := 0) (by decide)
      have e1 := edges_at HEr.out (k := k) (by omega)
      have e2 := edges_at HEr.out (k := k + 1) (by omega)
      obtain ⟨f0, f1, f2, f3⟩ := HF.out k
      have HS := Lib.hid (parts_next H.out.1 hlt)
      rw [f0, f1, f2, f3] at HS
      have o0 := H.out.1.cell (j := k * 4) (by omega)
      have o1 := H.out.1.cell (j := k * 4 + 1) (by omega)
      have o2 := H.out.1.cell (j := k * 4 + 2) (by omega)
      have o3 := H.out.1.cell (j := k * 4 + 3) (by omega)
      have z0 := H.out.1.frozen (k * 4)
      have z1 := H.out.1.frozen (k * 4 + 1)
      have z2 := H.out.1.frozen (k * 4 + 2)
      have z3 := H.out.1.frozen (k * 4 + 3)
      generalize preF F (k * 4) (k * 4) = y0 at o0
      generalize preF F (k * 4) (k * 4 + 1) = y1 at o1
      generalize preF F (k * 4) (k * 4 + 2) = y2 at o2
      generalize preF F (k * 4) (k * 4 + 3) = y3 at o3
      clear f0 f1 f2 f3 hcell hcell2
      generalize zs.getD k 0 = x at k1 HS
      generalize ss.getD k 0 = y at k2 HS
      obtain ⟨q1, q2⟩ := edgeK_lt k hlt
      generalize edgeK k = p at e1 HS q1
      generalize edgeK (k + 1) = q at e2 HS q1 q2
      have l1 : (k : Int) < 21 := by omega
      go_wp2
      go_region
      clear o0 o1 o2 o3 z0 z1 z2 z3 e1 e2 k1 k2
      have HT : RowKit.Hid (IFun ((((wr.setCell ⟨g, k * 4, none⟩ (.int .i64 (p : Int))).setCell ⟨g, k * 4 + 1, none⟩ (.int .i64 (q : Int))).setCell ⟨g, k * 4 + 2, none⟩ (.int .i64 x)).setCell ⟨g, k * 4 + 3, none⟩ (.int .i64 y)).drew g 67 .i64 84 (preF F ((k + 1) * 4)) ∧ Below w.heap.size w ((((wr.setCell ⟨g, k * 4, none⟩ (.int .i64 (p : Int))).setCell ⟨g, k * 4 + 1, none⟩ (.int .i64 (q : Int))).setCell ⟨g, k * 4 + 2, none⟩ (.int .i64 x)).setCell ⟨g, k * 4 + 3, none⟩ (.int .i64 y)).drew ∧ Below g w1 ((((wr.setCell ⟨g, k * 4, none⟩ (.int .i64 (p : Int))).setCell ⟨g, k * 4 + 1, none⟩ (.int .i64 (q : Int))).setCell ⟨g, k * 4 + 2, none⟩ (.int .i64 x)).setCell ⟨g, k * 4 + 3, none⟩ (.int .i64 y)).drew) :=
        ⟨HS.out.drewN 1, Below.drewN' ((((H.out.2.1.setCell (p := ⟨g, k * 4, none⟩) HS1.out _).setCell (p := ⟨g, k * 4 + 1, none⟩) HS1.out _).setCell (p := ⟨g, k * 4 + 2, none⟩) HS1.out _).setCell (p := ⟨g, k * 4 + 3, none⟩) HS1.out _) 1, Below.drewN' ((((H.out.2.2.setCell (p := ⟨g, k * 4, none⟩) (Nat.le_refl _) _).setCell (p := ⟨g, k * 4 + 1, none⟩) (Nat.le_refl _) _).setCell (p := ⟨g, k * 4 + 2, none⟩) (Nat.le_refl _) _).setCell (p := ⟨g, k * 4 + 3, none⟩) (Nat.le_refl _) _) 1⟩
      clear HS H
      go_wp2
      go_roundw
      case rel => exact ⟨k + 1, by omega, by go_num, HT.out⟩
      case measure => simp [intOf] <;> omega
    · obtain rfl : k = 21 := by omega
      go_wp2
      go_ret
      exact ⟨g, rfl, IFun.ext H.out.1 fun i hi => preF_end _ (by omega), HS1.out, H.out.2.1⟩
end Go.Proofs.Ytdmafololcpamaa

/- What the document's Ceilings gives. -/
namespace Go.Proofs.Ytdmafololcpamaa
open Go.RowKit
set_option linter.unusedVariables false

/-- What the document's making of ceilings leaves. -/
def CeilPostR (x : Nat → Int) (w : World) (e : Ending) (w' : World) : Prop :=
  ∃ g, e = .returned (.slice (some ⟨g, 0, none⟩) 21 21) ∧ IFun w' g 3 .i64 21 (ceilF x) ∧ w.heap.size ≤ g ∧ Below w.heap.size w w'
end Go.Proofs.Ytdmafololcpamaa

/- The walks of ModelLearns and ModelFixed, by the contracts of the functions that they call. -/
namespace Go.Proofs.Ytdmafololcpamaa
open Go.RowKit
set_option linter.unusedVariables false

/-! ### ModelLearns -/
theorem refNew_at (n : Nat) (i : Int) (w : World) (hi : i = n) (h0 : 1 ≤ n) (h1 : n ≤ 64) :
    Calls Try.prog 32 #[.int .i64 i] w fun e w' => ∃ g r, e = .returned (.tuple #[.pointer (some ⟨g, 0, none⟩), .bool true]) ∧ RefMod w' w.heap.size g r (List.replicate n 1) false ∧ Below w.heap.size w w' := by
  subst hi; exact refNew_any n w h0 h1

/-! ### ModelFixed -/
theorem fixOk_dec (zs : List Int) (len : Nat) : FixOk zs len ∨ ¬ FixOk zs len := Classical.em _
theorem info_u32 : (Try.prog.info? 24).map (fun i => (i.zero, i.size, i.bytes)) = some (some (.int .u32 0), 1, 4) := by kernel_rfl

end Go.Proofs.Ytdmafololcpamaa

/- The models of differences: the program's and the document's. -/
namespace Go.Proofs.Ytdmafololcpamaa
open Go.RowKit
set_option linter.unusedVariables false

theorem IRow.ints {w : World} {g n : Nat} {t : TypeId} {k : IntKind} {zs : List Int} (h : IRow w g t k zs) (hn : zs.length = n) (hm : n ≤ 9223372036854775807) : IntsAt w w.heap.size k (some ⟨g, 0, none⟩) n zs :=
  ⟨hn, .inr ⟨g, 0, rfl, h.lt, hm, fun j hj => by rw [Nat.zero_add]; exact h.cell (by omega)⟩⟩
theorem difE_fix : FixOk difL 32 := ⟨difL_one, by rw [difL_sum]; decide⟩
theorem made32 : (#[Value.int .u32 0, Value.int .u32 0, Value.int .u32 0, Value.int .u32 0, Value.int .u32 0, Value.int .u32 0, Value.int .u32 0, Value.int .u32 0, Value.int .u32 0, Value.int .u32 0, Value.int .u32 0, Value.int .u32 0, Value.int .u32 0, Value.int .u32 0, Value.int .u32 0, Value.int .u32 0, Value.int .u32 0, Value.int .u32 0, Value.int .u32 0, Value.int .u32 0, Value.int .u32 0, Value.int .u32 0, Value.int .u32 0, Value.int .u32 0, Value.int .u32 0, Value.int .u32 0, Value.int .u32 0, Value.int .u32 0, Value.int .u32 0, Value.int .u32 0, Value.int .u32 0, Value.int .u32 0] : Array Value) = madeCells #[.int .u32 0] 32 := by rw [made_rep]; rfl
theorem dif_tab : tabF 32 (fun i => if i = 30 then 500 else if i = 2 then 500 else if i = 31 then 1500 else if i = 1 then 1500 else if i = 0 then 3000 else preF (fun _ => 10) 32 i) = difL := by decide
theorem RefMod.grow {w : World} {base base' g r : Nat} {l : List Int} {fx : Bool} (h : RefMod w base g r l fx) (hb : base' ≤ base) : RefMod w base' g r l fx := by
  obtain ⟨cm, h1, h2, h3⟩ := h
  exact ⟨cm, h1, ⟨h2.1, h2.2.imp_right fun ⟨g', cap, cur, e, h, k⟩ => ⟨g', cap, cur, e, Nat.le_trans hb h, k⟩⟩, by omega⟩
/-- How long a slice is. -/
def lenV (v : Value) : Nat := match v with | .slice _ n _ => n | _ => 0
theorem lenV_eq (a : Option Addr) (n c : Nat) : lenV (.slice a n c) = n := rfl
theorem dif_snoc0 : ∀ k : Nat, k < 30 → 3 ≤ k → difL.take k ++ [10] = difL.take (k + 1) := by decide
theorem dif_snoc (k : Nat) (h : 3 ≤ k) (h' : k < 30) : difL.take k ++ [10] = difL.take (k + 1) := dif_snoc0 k h' h
theorem infoE_u32 : (Try.prog.info? 24).map (fun i => (i.zero, i.size, i.bytes)) = some (some (.int .u32 0), 1, 4) := by kernel_rfl
end Go.Proofs.Ytdmafololcpamaa

/- The walk of RangedecAgain: what is held of memory on the way. -/
namespace Go.Proofs.Ytdmafololcpamaa
open Go.RowKit
set_option linter.unusedVariables false

theorem modCells_no8 {l : List Int} {fx : Bool} {i : Nat} {y : Int} (h : (modCells l fx)[i]? = some (.int .u8 y)) : False := by
  have := List.mem_of_getElem? h
  unfold modCells at this
  simp at this
theorem IntsAt.ne_mod {w : World} {B len r off m : Nat} {b l : List Int} {fx : Bool} (h : IntsAt w B .u8 (some ⟨r, off, none⟩) len b) (h0 : 0 < len) (k : ModAt w m l fx) : r ≠ m := by
  rintro rfl
  obtain ⟨b', off', e, _, _, hc⟩ := h.at_ h0
  injection e with e
  injection e with e1 e2
  subst e1; subst e2
  rw [k.2.cell] at hc
  simp only [List.getElem?_toArray] at hc
  exact modCells_no8 hc
theorem IntsAt.keeps {F : Nat → Prop} {w w' : World} {B len : Nat} {k : IntKind} {a : Option Addr} {zs : List Int} (h : IntsAt w B k a len zs) (hk : Keeps F w w') (hB : B ≤ w.heap.size) (hF : ∀ r off, a = some ⟨r, off, none⟩ → 0 < len → r < B → ¬ F r) : IntsAt w' B k a len zs := by
  obtain ⟨h1, h2⟩ := h
  refine ⟨h1, ?_⟩
  rcases h2 with h2 | ⟨b, off, e, h3, h4, h5⟩
  · exact .inl h2
  · by_cases h0 : 0 < len
    · exact .inr ⟨b, off, e, h3, h4, fun j hj => (World.cell?_of_block (a := ⟨b, off + j, none⟩) (hk.block b (by omega) (hF b off e h0 h3))).trans (h5 j hj)⟩
    · exact .inl (by omega)

/-! ### While it is put -/
structure StE (w0 : World) (mg og be g n : Nat) (v : Value) (w : World) (L : List Int) (E : EncS) : Prop where
  m : ModAt w mg L false
  o : ModAt w og (List.replicate n 1) false
  e : EncAt w be g v E
  gm : GoodL L
  ge : GoodE E
  lm : L.length = n
  b : Below w0.heap.size w0 w
  d : w0.heap.size ≤ mg ∧ mg ≠ og ∧ mg < be ∧ w0.heap.size ≤ og ∧ og < be
section
variable {w0 w w' : World} {mg og be g n : Nat} {v : Value} {L : List Int} {E : EncS}
theorem StE.drewN (h : StE w0 mg og be g n v w L E) (i : Nat) : StE w0 mg og be g n v (w.drewN i) L E :=
  ⟨h.m.drewN i, h.o.drewN i, h.e.drewN i, h.gm, h.ge, h.lm, Below.drewN' h.b i, h.d⟩
theorem StE.prog {L' : List Int} {E' : EncS} {v' : Value} (h : StE w0 mg og be g n v w L E) (hk : Keeps (fun j => j = g ∨ v.ownBlock = some j ∨ j = mg) w w') (he : EncAt w' be g v' E') (hm : ModAt w' mg L' false) (g1 : GoodL L') (g2 : GoodE E') (l1 : L'.length = n) : StE w0 mg og be g n v' w' L' E' := by
  obtain ⟨d1, d2, d3, d4, d5⟩ := h.d
  have hl := h.e.lt
  have ho : ∀ j, v.ownBlock = some j → be ≤ j := fun j hj => (h.e.own j hj).2.1
  refine ⟨hm, h.o.keeps hk ?_, he, g1, g2, l1, h.b.trans (hk.below h.b.size ?_), h.d⟩
  · rintro (c | c | c)
    · omega
    · have := ho _ c; omega
    · omega
  · rintro j (c | c | c)
    · omega
    · have := ho _ c; omega
    · omega
theorem StE.progE {E' : EncS} {v' : Value} (h : StE w0 mg og be g n v w L E) (hk : Keeps (fun j => j = g ∨ v.ownBlock = some j) w w') (he : EncAt w' be g v' E') (g2 : GoodE E') : StE w0 mg og be g n v' w' L E' := by
  obtain ⟨d1, d2, d3, d4, d5⟩ := h.d
  have hl := h.e.lt
  have ho : ∀ j, v.ownBlock = some j → be ≤ j := fun j hj => (h.e.own j hj).2.1
  refine h.prog (hk.mono ?_) he (h.m.keeps hk ?_) h.gm g2 h.lm
  · rintro j (c | c)
    · exact .inl c
    · exact .inr (.inl c)
  · rintro (c | c)
    · omega
    · have := ho _ c; omega
end

/-! ### While it is read -/
structure StD (w0 : World) (mg bd g n : Nat) (v : Value) (b : List Int) (w : World) (L : List Int) (D : DecS) : Prop where
  m : ModAt w mg L false
  e : DrcAt w bd g v b D
  gm : GoodL L
  lm : L.length = n
  b : Below w0.heap.size w0 w
  d : w0.heap.size ≤ mg ∧ w0.heap.size ≤ bd
section
variable {w0 w w' : World} {mg bd g n : Nat} {v : Value} {b : List Int} {L : List Int} {D : DecS}
theorem StD.drewN (h : StD w0 mg bd g n v b w L D) (i : Nat) : StD w0 mg bd g n v b (w.drewN i) L D :=
  ⟨h.m.drewN i, h.e.drewN i, h.gm, h.lm, Below.drewN' h.b i, h.d⟩
theorem StD.prog {L' : List Int} {D' : DecS} (h : StD w0 mg bd g n v b w L D) (hk : Keeps (fun j => j = g ∨ j = mg) w w') (he : DrcAt w' bd g v b D') (hm : ModAt w' mg L' false) (g1 : GoodL L') (l1 : L'.length = n) : StD w0 mg bd g n v b w' L' D' := by
  have hl := h.e.lt
  have hd := h.d
  exact ⟨hm, he, g1, l1, h.b.trans (hk.below h.b.size (by omega)), h.d⟩
theorem StD.progE {D' : DecS} (h : StD w0 mg bd g n v b w L D) (hk : Keeps (fun j => j = g) w w') (he : DrcAt w' bd g v b D') : StD w0 mg bd g n v b w' L D' :=
  h.prog (hk.mono fun j hj => .inl hj) he (h.m.keeps hk (h.e.ne_mod h.m).1) h.gm h.lm
end
/-- What is still wanted of the encoder and of its bytes. -/
structure StB (be g bd len : Nat) (v : Value) (a : Option Addr) (b : List Int) (F : EncS) (w : World) : Prop where
  e : EncAt w be g v F
  i : IntsAt w bd .u8 a len b
  s : bd ≤ w.heap.size
  o : g < bd ∧ ∀ r, v.ownBlock = some r → r < bd
section
variable {w w' : World} {be g bd len og gd : Nat} {v : Value} {a : Option Addr} {b : List Int} {F : EncS} {L : List Int} {fx : Bool}
theorem StB.drewN (h : StB be g bd len v a b F w) (i : Nat) : StB be g bd len v a b F (w.drewN i) := ⟨h.e.drewN i, h.i.drewN i, h.s, h.o⟩
theorem StB.below (h : StB be g bd len v a b F w) (hb : Below w.heap.size w w') : StB be g bd len v a b F w' :=
  ⟨h.e.below hb, h.i.below (hb.mono h.s), Nat.le_trans h.s hb.size, h.o⟩
theorem StB.read (h : StB be g bd len v a b F w) (hm : ModAt w og L fx) (hd : bd ≤ gd) (hk : Keeps (fun j => j = gd ∨ j = og) w w') : StB be g bd len v a b F w' := by
  obtain ⟨o1, o2⟩ := h.o
  obtain ⟨n1, n2⟩ := h.e.ne_mod hm
  refine ⟨h.e.keeps hk ?_ ?_, h.i.keeps hk h.s ?_, Nat.le_trans h.s hk.size, h.o⟩
  · rintro (c | c)
    · omega
    · exact n1 c.symm
  · rintro r hr (c | c)
    · have := o2 r hr; omega
    · exact n2 (c ▸ hr)
  · intro r off e h0 hr
    rintro (c | c)
    · omega
    · have hi := h.i
      rw [e] at hi
      exact hi.ne_mod h0 hm c
theorem StB.readE (h : StB be g bd len v a b F w) (hm : ModAt w og L fx) (hd : bd ≤ gd) (hk : Keeps (fun j => j = gd) w w') : StB be g bd len v a b F w' := h.read hm hd (hk.mono fun j hj => .inl hj)
end
end Go.Proofs.Ytdmafololcpamaa

/- What Put of package energy gives. -/
namespace Go.Proofs.Ytdmafololcpamaa
open Go.RowKit
set_option linter.unusedVariables false

/-- What is held while something is put: the encoder's state, and what else was written. -/
def PutSt (w : World) (base g : Nat) (v : Value) (E : EncS) (wr : World) : Prop :=
  ∃ v', EncAt wr base g v' E ∧ Keeps (fun j => j = g ∨ v.ownBlock = some j) w wr ∧ (∀ j, v'.ownBlock = some j → v.ownBlock = some j ∨ w.heap.size ≤ j)
theorem PutSt.start {w : World} {base g : Nat} {v : Value} {E : EncS} (h : EncAt w base g v E) : PutSt w base g v E w := ⟨v, h, Keeps.refl _ w, fun _ h => .inl h⟩
theorem PutSt.below {w wr w' : World} {base g : Nat} {v : Value} {E : EncS} (h : PutSt w base g v E wr) (hb : Below wr.heap.size wr w') : PutSt w base g v E w' := by
  obtain ⟨v', h1, h2, h3⟩ := h
  exact ⟨v', h1.below hb, h2.trans (.of_below hb), h3⟩
theorem PutSt.drewN {w wr : World} {base g : Nat} {v : Value} {E : EncS} (h : PutSt w base g v E wr) (n : Nat) : PutSt w base g v E (wr.drewN n) := by
  obtain ⟨v', h1, h2, h3⟩ := h
  exact ⟨v', h1.drewN n, h2.drewN n, h3⟩
/-- What stands elsewhere stays. -/
theorem PutSt.ints {w wr : World} {base g len : Nat} {v : Value} {E : EncS} {a : Option Addr} {zs : List Int} (h : PutSt w base g v E wr) (hi : IntsAt w w.heap.size .i64 a len zs) (hne : ∀ r off, a = some ⟨r, off, none⟩ → r ≠ g ∧ v.ownBlock ≠ some r) : IntsAt wr w.heap.size .i64 a len zs := by
  obtain ⟨v', h1, h2, h3⟩ := h
  exact hi.keeps h2 (Nat.le_refl _) fun r off e _ _ c => by
    obtain ⟨n1, n2⟩ := hne r off e
    rcases c with c | c
    · exact n1 c
    · exact n2 c
/-- Where something more is put. -/
theorem PutSt.step {w wr w' : World} {base g : Nat} {v v' v2 : Value} {E E' : EncS} (h1 : EncAt wr base g v' E) (h2 : Keeps (fun j => j = g ∨ v.ownBlock = some j) w wr) (h3 : ∀ j, v'.ownBlock = some j → v.ownBlock = some j ∨ w.heap.size ≤ j)
    (k1 : EncAt w' base g v2 E') (k2 : Keeps (fun j => j = g ∨ v'.ownBlock = some j ∨ w.heap.size ≤ j) wr w') (k3 : ∀ j, v2.ownBlock = some j → v'.ownBlock = some j ∨ wr.heap.size ≤ j) : PutSt w base g v E' w' := by
  refine ⟨v2, k1, h2.then_ k2 fun j hj => ?_, fun j hj => ?_⟩
  · rcases hj with hj | hj | hj
    · exact .inl (.inl hj)
    · rcases h3 j hj with c | c
      · exact .inl (.inr c)
      · exact .inr c
    · exact .inr hj
  · rcases k3 j hj with c | c
    · exact h3 j c
    · exact .inr (Nat.le_trans h2.size c)

theorem u32_5 : P2 5 = 32 := by decide
/-- Ceilings ahead: none (q), or right ones. -/
def AheadAt (w : World) (q : Bool) (a : Option Addr) (len : Nat) (ds : List Int) : Prop := IntsAt w w.heap.size .i64 a len ds ∧ len ≤ 9223372036854775807 ∧ ((q = true ∧ len = 0) ∨ (q = false ∧ rightB ds = true ∧ len = 21))
theorem AheadAt.may {w : World} {q : Bool} {a : Option Addr} {len : Nat} {ds : List Int} (h : AheadAt w q a len ds) : (decide (len = 0) || rightB ds) = true := by
  obtain ⟨_, _, ⟨_, h⟩ | ⟨_, h, _⟩⟩ := h <;> simp [h]
end Go.Proofs.Ytdmafololcpamaa

/- What the decoders give of a symbol of a model that never learns: the program's and the document's. -/
namespace Go.Proofs.Ytdmafololcpamaa
open Go.RowKit
set_option linter.unusedVariables false

def DrcSymPostF (base g : Nat) (v : Value) (b : List Int) (mg : Nat) (s : Nat) (d : DecS) (l : List Int) (w : World) (x : Ending) (w' : World) : Prop :=
  x = .returned (.tuple #[.int .i64 s, .int .i64 0]) ∧ DrcAt w' base g v b d ∧ ModAt w' mg l true ∧ Keeps (fun j => j = g) w w'
set_option maxHeartbeats 400000 in
set_option maxRecDepth 100000 in
theorem drcSymbol_fixed (base g : Nat) (v : Value) (b : List Int) (d : DecS) (mg : Nat) (l : List Int) (w : World) (hD : DrcAt w base g v b d) (hM : ModAt w mg l true) (hb : ∀ j, 0 ≤ byteF b j ∧ byteF b j ≤ 255) (hbl : b.length ≤ 1000000) (hi : d.i ≤ 5000000) (hG : GoodD d) (hL : GoodL l) :
    Calls Try.prog 64 #[.pointer (some ⟨g, 0, none⟩), .pointer (some ⟨mg, 0, none⟩)] w (DrcSymPostF base g v b mg (decWhich d l) (decSym b d l) l w) := by
  have HNe := Lib.hid (hD.ne_mod hM)
  have HD := Lib.hid hD
  have HM := Lib.hid hM
  have HG := Lib.hid hG
  have HL := Lib.hid hL
  have HBy := Lib.hid hb
  obtain ⟨v1, v2, v3, v4⟩ := decWhich_is hG hL
  have HWl := Lib.hid v2
  have HW : RowKit.Hid (findP l (decAt d l.sum) = decWhich d l) := rfl
  have HOk := Lib.hid (okP_sym hL v1)
  have HS : RowKit.Hid (decSym b d l = decTake (byteF b) d (sumN l (decWhich d l)) (l.getD (decWhich d l) 0) l.sum) := rfl
  rw [HS.out]
  have h0 : 0 < l.length := hL.1
  have hgl := hD.lt.1
  have hml := hM.lt
  have HOw : RowKit.Hid (∀ r, v.ownBlock = some r → r < w.heap.size ∧ base ≤ r ∧ r ≠ g) := fun r hr => HD.out.own r hr
  have HV0 : RowKit.Hid (partV l 0 = .agg #[.int .u32 (sumN l 0), .int .u32 (l.getD 0 0), .int .u32 l.sum]) := rfl
  have HVs : RowKit.Hid (partV l (decWhich d l) = .agg #[.int .u32 (sumN l (decWhich d l)), .int .u32 (l.getD (decWhich d l) 0), .int .u32 l.sum]) := rfl
  have H00 : RowKit.Hid ((0 : Int) = ((0 : Nat) : Int)) := rfl
  clear hD hM hb hG hL v2 HS
  generalize hs : decWhich d l = s at v1 HWl HW HOk HVs ⊢
  clear hs
  generalize l.getD s 0 = x at HOk HVs ⊢
  generalize l.getD 0 0 = x0 at HV0
  generalize l.sum = t at HOk HV0 HVs HW HWl v3 v4 ⊢
  generalize sumN l s = y at HOk HWl HVs ⊢
  generalize sumN l 0 = y0 at HV0
  go_enter Try.func64, Try.ntmps64
  go_wp2_with (first
    | (go_at_call 69; have hq := HF3.out.1; go_loud (with_reducible refine (modPart_at mg l true s _ _ _ rfl (HS2.out.2.1.drewN _) HL.out v1 HVs.out).mono ?_); rintro e4 w4 ⟨rfl, hb4⟩; have HS4 : RowKit.Hid (DrcAt w4 base g v b d ∧ ModAt w4 mg l true ∧ Cel w4 w1.heap.size 111 #[.int .u32 y0, .int .u32 x0, .int .u32 t] ∧ Below w.heap.size w w4) := ⟨(HS2.out.1.drewN n3).below hb4, (HS2.out.2.1.drewN n3).below hb4, (HS2.out.2.2.1.drewN n3).below hb4, (Below.drewN' HS2.out.2.2.2 n3).trans (hb4.mono (Below.drewN' HS2.out.2.2.2 n3).size)⟩; have q4 := HS4.out.2.2.1; have p0 := q4.cell 0; have p1 := q4.cell 1; have p2 := q4.cell 2; have f0 := q4.frozen 0; have f1 := q4.frozen 1; have f2 := q4.frozen 2; simp only [List.getElem?_toArray, List.getElem?_cons_zero, List.getElem?_cons_succ] at p0 p1 p2; have k5 : Keeps (fun j => j = w1.heap.size) w4 (((w4.setCell ⟨w1.heap.size, 0, none⟩ (.int .u32 y)).setCell ⟨w1.heap.size, 1, none⟩ (.int .u32 x)).setCell ⟨w1.heap.size, 2, none⟩ (.int .u32 t)) := Keeps.setCell (F := fun j => j = w1.heap.size) (p := ⟨w1.heap.size, 2, none⟩) (Keeps.setCell (F := fun j => j = w1.heap.size) (p := ⟨w1.heap.size, 1, none⟩) (Keeps.setCell (F := fun j => j = w1.heap.size) (p := ⟨w1.heap.size, 0, none⟩) (Keeps.refl _ _) (.inl rfl) _) (.inl rfl) _) (.inl rfl) _; have HS5 : RowKit.Hid (DrcAt (((w4.setCell ⟨w1.heap.size, 0, none⟩ (.int .u32 y)).setCell ⟨w1.heap.size, 1, none⟩ (.int .u32 x)).setCell ⟨w1.heap.size, 2, none⟩ (.int .u32 t)) base g v b d ∧ ModAt (((w4.setCell ⟨w1.heap.size, 0, none⟩ (.int .u32 y)).setCell ⟨w1.heap.size, 1, none⟩ (.int .u32 x)).setCell ⟨w1.heap.size, 2, none⟩ (.int .u32 t)) mg l true ∧ Below w.heap.size w (((w4.setCell ⟨w1.heap.size, 0, none⟩ (.int .u32 y)).setCell ⟨w1.heap.size, 1, none⟩ (.int .u32 x)).setCell ⟨w1.heap.size, 2, none⟩ (.int .u32 t))) := ⟨HS4.out.1.keeps k5 (by omega) (by intro r hr c; have := (HOw.out r hr).1; omega), HS4.out.2.1.keeps k5 (by omega), HS4.out.2.2.2.trans (k5.below HS4.out.2.2.2.size (by intro j hj; omega))⟩; clear q4 k5; clear hb4 hq)
    | (go_at_call 69; go_loud (with_reducible refine (modPart_at mg l true 0 0 _ _ H00.out HM.out HL.out h0 HV0.out).mono ?_); rintro e1 w1 ⟨rfl, hb⟩; have hb2 := hb.alloc hb.size (.cells #[.int .u32 y0, .int .u32 x0, .int .u32 t] 111); have HS2 : RowKit.Hid (DrcAt (w1.alloc (.cells #[.int .u32 y0, .int .u32 x0, .int .u32 t] 111)) base g v b d ∧ ModAt (w1.alloc (.cells #[.int .u32 y0, .int .u32 x0, .int .u32 t] 111)) mg l true ∧ Cel (w1.alloc (.cells #[.int .u32 y0, .int .u32 x0, .int .u32 t] 111)) w1.heap.size 111 #[.int .u32 y0, .int .u32 x0, .int .u32 t] ∧ Below w.heap.size w (w1.alloc (.cells #[.int .u32 y0, .int .u32 x0, .int .u32 t] 111))) := ⟨HD.out.below hb2, HM.out.below hb2, Cel.new _ _ _, hb2⟩; have hsz1 := hb.size; clear hb hb2)
    | (go_at_call 73; go_loud (with_reducible refine (drcLies_any base g v b d t _ HS2.out.1 HG.out v3 v4).mono ?_); rintro e2 w2 ⟨rfl, rfl⟩)
    | (go_at_call 72; go_loud (with_reducible refine (modFind_at mg l true _ s _ HS2.out.2.1 HL.out HW.out).mono ?_); rintro e3 w3 ⟨rfl, n3, rfl⟩; have HF3 := Lib.hid (show 0 < l.length ∧ mg < w.heap.size from ⟨h0, hml⟩))
    | (go_at_call 74; go_loud (with_reducible refine (drcTake_any base g v b d y x t _ HS5.out.1 HBy.out hbl hi HG.out HOk.out HWl.out).mono ?_); rintro e5 w5 ⟨rfl, hm, hk⟩; have HD5 := Lib.hid hm; have HK5 := Lib.hid hk; have HM5 := Lib.hid (HS5.out.2.1.keeps hk HNe.out.1); clear hm hk)
    | (go_at_call 71; go_loud (with_reducible refine (modLearn_fixed mg l s _ HM5.out v1).mono ?_); rintro e6 w6 ⟨rfl, n6, rfl⟩))
  refine bodyPost_ret (v := .tuple #[.int .i64 s, .int .i64 0]) (by simp [results, Try.results64, go_sem]) rfl ?_
  exact ⟨rfl, HD5.out.drewN n6, HM5.out.drewN n6, ((Keeps.of_below HS5.out.2.2).trans HK5.out).drewN n6⟩
set_option maxHeartbeats 1000000 in
set_option maxRecDepth 100000 in
theorem refDecSymbol_fixed (base b2 g : Nat) (v : Value) (b : List Int) (d : DecS) (mg mr : Nat) (l : List Int) (w : World) (hD : DecMem w base g v b d) (hb : ∀ j, 0 ≤ byteF b j ∧ byteF b j ≤ 255) (hbl : b.length ≤ 1000000) (hi : d.i ≤ 5000000) (hR : RefMod w b2 mg mr l true) (hG : GoodD d) (hL : GoodL l) (d1 : mg ≠ g) (d3 : mr ≠ g) (d2 : ∀ k, v.ownBlock = some k → k ≠ mg ∧ k ≠ mr) :
    Calls Try.prog 46 #[.pointer (some ⟨g, 0, none⟩), .pointer (some ⟨mg, 0, none⟩)] w (DecSymPost base b2 g v b mg mr (decWhich d l) (decSym b d l) l true w) := by
  obtain ⟨cm, h1, h2, h3⟩ := hR
  have HR := Lib.hid (show RefMod w b2 mg mr l true from ⟨cm, h1, h2, h3⟩)
  have HD := Lib.hid hD
  have HG := Lib.hid hG
  have HL := Lib.hid hL
  have HBy := Lib.hid hb
  have H2 := Lib.hid d2
  have hl0 := hL.1
  have hl := hL.2.1
  have c0 := h1.cell 0
  simp only [List.getElem?_toArray, List.getElem?_cons_zero] at c0
  obtain ⟨w1, w2, w3, w4⟩ := decWhich_is hG hL
  have HWl := Lib.hid w2
  have HW : RowKit.Hid (findP l (decAt d l.sum) = decWhich d l) := rfl
  have hbd : ∀ j, j < l.length → 0 ≤ l.getD j 0 ∧ l.getD j 0 ≤ 4294967295 := fun j hj => by have := HL.out.own hj; omega
  have HB := Lib.hid hbd
  have HOk := Lib.hid (okP_sym hL w1)
  have HT := Lib.hid (sumN_all l)
  have hcell := HR.out.at_ w1
  have HS : RowKit.Hid (decSym b d l = decTake (byteF b) d (sumN l (decWhich d l)) (l.getD (decWhich d l) 0) l.sum) := rfl
  rw [HS.out]
  clear h1 h2 h3 hD hG hL hb hbd d2 w2 HS
  generalize l.getD (decWhich d l) 0 = X2 at hcell HOk ⊢
  generalize hs : decWhich d l = s at w1 HWl HW HOk hcell ⊢
  clear hs
  have hsl : (s : Int) < (l.length : Int) := by omega
  go_enter Try.func46, Try.ntmps46
  go_wp2_with (first | (go_at_call 60; go_loud (refine (refSum_at b2 mg mr l true l.length _ _ (by omega) HR.out (by omega) hl HB.out).mono ?_); rintro e5 w5 ⟨rfl, rfl⟩; rw [HT.out]) | (go_at_call 67; go_loud (refine (refDecAt_any base g v b d _ _ HD.out HG.out w3 w4).mono ?_); rintro e5 w5 ⟨rfl, n5, rfl⟩) | (go_at_call 66; go_loud (refine (refFind_any b2 mg mr l true _ _ (HR.out.drewN _) hl0 hl HB.out).mono ?_); rintro e6 w6 ⟨rfl, rfl⟩; rw [HW.out]))
  have hcell2 : (w.drewN n5).cell? ⟨mr, s, none⟩ = some (.int .i64 X2) := hcell
  have c02 : (w.drewN n5).cell? ⟨mg, 0, none⟩ = some (.slice (some ⟨mr, 0, none⟩) l.length cm) := c0
  have HDq := Lib.hid (HD.out.drewN n5)
  have HRq := Lib.hid (HR.out.drewN n5)
  have HKq := Lib.hid ((Keeps.refl (fun j => j = g ∨ j = mr) w).drewN n5)
  clear c0 hcell
  generalize w.drewN n5 = wq at hcell2 c02 HDq HRq HKq ⊢
  go_still_tail 12, (by kernel_rfl)
  still_call ((refSum_at b2 mg mr l true s _ _ (by omega) (HRq.out.drewN 1) (by omega) hl HB.out).mono fun _ _ h => ⟨h.1, h.2.symm⟩)
  repeat still_step
  refine wpStill_nil ?_
  change wpList _ _ _ _ _ wq.drew
  clear c02 hcell2
  have HDd : RowKit.Hid (DecMem wq.drew base g v b d) := HDq.out.drewN 1
  have HRd : RowKit.Hid (RefMod wq.drew b2 mg mr l true) := HRq.out.drewN 1
  generalize hX1 : sumN l s = X1 at HWl HOk ⊢
  have HX1 := Lib.hid hX1
  clear hX1
  go_wp2_with (first | (go_at_call 68; go_loud (refine (refDecTake_any base g v b d _ _ _ _ HDd.out HBy.out hbl hi HG.out HOk.out HWl.out).mono ?_); rintro e5 w5 ⟨rfl, hm, hk⟩; have HM5 := Lib.hid hm; have HK5 := Lib.hid hk; have HR5 := Lib.hid (HRd.out.keeps hk d1 d3); clear hm hk) | (go_at_call 61; go_loud (refine (refLearn_fixed b2 mg mr l _ _ HR5.out).mono ?_); rintro e6 w6 ⟨rfl, rfl⟩))
  go_ret
  rw [HX1.out]
  exact ⟨rfl, HM5.out, HR5.out, (HKq.out.drewN 1).trans (HK5.out.mono fun k h => by omega)⟩
end Go.Proofs.Ytdmafololcpamaa

/- What Get of package energy gives. -/
namespace Go.Proofs.Ytdmafololcpamaa
open Go.RowKit
set_option linter.unusedVariables false

theorem IFun.keeps {w w' : World} {g n : Nat} {t : TypeId} {k : IntKind} {f : Nat → Int} {F : Nat → Prop} (h : IFun w g t k n f) (hk : Keeps F w w') (hn : ¬ F g) : IFun w' g t k n f := (hk.block g h.lt hn).trans h
/-- What is held while ceilings are got: the decoder's state, the row that is filled, what else was written. -/
structure GetSt (w : World) (base g : Nat) (v : Value) (b : List Int) (D : DecS) (r : Nat) (f : Nat → Int) (wr : World) : Prop where
  d : DrcAt wr base g v b D
  i : IFun wr r 3 .i64 21 f
  k : Keeps (fun j => j = g) w wr
  rs : w.heap.size ≤ r
  gs : g < w.heap.size ∧ ∀ j, v.ownBlock = some j → j < w.heap.size
section
variable {w wr w' : World} {base g r : Nat} {v : Value} {b : List Int} {D D' : DecS} {f f' : Nat → Int}
theorem GetSt.dec (h : GetSt w base g v b D r f wr) (hd : DrcAt w' base g v b D') (hk : Keeps (fun j => j = g) wr w') : GetSt w base g v b D' r f w' :=
  ⟨hd, h.i.keeps hk (by have := h.gs.1; have := h.rs; omega), h.k.trans hk, h.rs, h.gs⟩
theorem GetSt.set (h : GetSt w base g v b D r f wr) {j : Nat} (hj : j < 21) (x : Int) : GetSt w base g v b D r (fun i => if i = j then x else f i) (wr.setCell ⟨r, j, none⟩ (.int .i64 x)) :=
  ⟨h.d.keeps (F := fun k => k = r) (Keeps.setCell (F := fun k => k = r) (p := ⟨r, j, none⟩) (Keeps.refl _ wr) (.inl rfl) _) (by have := h.gs.1; have := h.rs; omega) (fun k hk c => by have := h.gs.2 k hk; have := h.rs; omega),
    h.i.set hj x, Keeps.setCell (p := ⟨r, j, none⟩) h.k (.inr h.rs) _, h.rs, h.gs⟩
theorem GetSt.ext (h : GetSt w base g v b D r f wr) (he : ∀ j, j < 21 → f j = f' j) : GetSt w base g v b D r f' wr := ⟨h.d, h.i.ext he, h.k, h.rs, h.gs⟩
theorem GetSt.below (h : GetSt w base g v b D r f wr) (hb : Below wr.heap.size wr w') : GetSt w base g v b D r f w' :=
  ⟨h.d.below hb, h.i.below hb h.i.lt, h.k.trans (.of_below hb), h.rs, h.gs⟩
end
/-- A number of each band got. -/
def GotPost (base g : Nat) (v : Value) (b : List Int) (D : DecS) (V : Nat → Int) (w : World) (e : Ending) (w' : World) : Prop :=
  ∃ r, e = .returned (.tuple #[.slice (some ⟨r, 0, none⟩) 21 21, .int .i64 0]) ∧ GetSt w base g v b D r V w'

theorem GetSt.ints {w wr : World} {base g r : Nat} {v : Value} {b : List Int} {D : DecS} {f : Nat → Int} (h : GetSt w base g v b D r f wr) : IntsAt wr wr.heap.size .i64 (some ⟨r, 0, none⟩) 21 (tabF 21 f) :=
  ⟨tabF_len _ _, .inr ⟨r, 0, rfl, h.i.lt, by decide, fun j hj => by rw [Nat.zero_add, h.i.cell hj, tabF_getD _ hj]⟩⟩
/-- What is got: ceilings, or that none are. -/
def GetPost (base g : Nat) (v : Value) (b : List Int) (D : DecS) (V : Nat → Int) (w : World) (e : Ending) (w' : World) : Prop :=
  ∃ r, GetSt w base g v b D r V w' ∧ e = .returned (if rightB (tabF 21 V) then .tuple #[.slice (some ⟨r, 0, none⟩) 21 21, .int .i64 0] else .tuple #[.slice none 0 0, .int .i64 3])
end Go.Proofs.Ytdmafololcpamaa

/- What the document's Put of ceilings gives. -/
namespace Go.Proofs.Ytdmafololcpamaa
open Go.RowKit
set_option linter.unusedVariables false

/-- What is held while the document's encoder puts: its state, what else was written; its row is the first, or one from block B on. -/
def RefSt (w : World) (B base g r : Nat) (E : EncS) (wr : World) : Prop :=
  ∃ r' c', EncMem wr base g r' c' (digL E.n (E.k + 4)) E.s E.k ∧ Keeps (fun j => j = g ∨ j = r) w wr ∧ (r' = r ∨ B ≤ r') ∧ w.heap.size ≤ B ∧ B ≤ wr.heap.size
theorem RefSt.start {w w1 : World} {base g r c : Nat} {E : EncS} (h : EncMem w base g r c (digL E.n (E.k + 4)) E.s E.k) (hb : Below w.heap.size w w1) : RefSt w w1.heap.size base g r E w1 :=
  ⟨r, c, h.below hb, .of_below hb, .inl rfl, hb.size, Nat.le_refl _⟩
theorem RefSt.ints {w wr : World} {B base g r len : Nat} {E : EncS} {a : Option Addr} {zs : List Int} (h : RefSt w B base g r E wr) (hi : IntsAt w w.heap.size .i64 a len zs) (hne : ∀ b off, a = some ⟨b, off, none⟩ → b ≠ g ∧ b ≠ r) : IntsAt wr w.heap.size .i64 a len zs := by
  obtain ⟨r', c', h1, h2, h3⟩ := h
  exact hi.keeps h2 (Nat.le_refl _) fun b off e _ _ c => by
    obtain ⟨n1, n2⟩ := hne b off e
    omega
theorem RefSt.step {w wr w' : World} {B base g r r' r2 c2 : Nat} {E' : EncS} (h2 : Keeps (fun j => j = g ∨ j = r) w wr) (h3 : (r' = r ∨ B ≤ r') ∧ w.heap.size ≤ B ∧ B ≤ wr.heap.size)
    (k1 : EncMem w' base g r2 c2 (digL E'.n (E'.k + 4)) E'.s E'.k) (k2 : Keeps (fun j => j = g ∨ j = r' ∨ w.heap.size ≤ j) wr w') (k3 : r2 = r' ∨ wr.heap.size ≤ r2) : RefSt w B base g r E' w' := by
  have hs := k2.size
  exact ⟨r2, c2, k1, h2.then_ k2 fun j hj => by omega, by omega, h3.2.1, by omega⟩
theorem RefSt.post {w wr : World} {B base g r : Nat} {E : EncS} (h : RefSt w B base g r E wr) : EncPost base g r E w (.returned (.tuple #[])) wr := by
  obtain ⟨r', c', h1, h2, h3, h4, h5⟩ := h
  exact ⟨rfl, r', c', h1, h2, by omega⟩

end Go.Proofs.Ytdmafololcpamaa

/- What the document's Get of ceilings gives. -/
namespace Go.Proofs.Ytdmafololcpamaa
open Go.RowKit
set_option linter.unusedVariables false

theorem tabE_snoc (f : Nat → Int) (n : Nat) (x : Int) (h : f n = x) : tabF n f ++ [x] = tabF (n + 1) f := by subst h; simp [tabF, List.range_succ]
/-- What is got by the document. -/
def GetPostR (base g : Nat) (v : Value) (b : List Int) (D : DecS) (V : Nat → Int) (w : World) (e : Ending) (w' : World) : Prop :=
  ∃ a c, e = .returned (.tuple #[.slice a 21 c, .bool (rightB (tabF 21 V))]) ∧ IntsAt w' w'.heap.size .i64 a 21 (tabF 21 V) ∧ DecMem w' base g v b D ∧ Keeps (fun j => j = g) w w'
/-- What is held on the way. -/
structure GotR (w : World) (B base g : Nat) (v : Value) (b : List Int) (D : DecS) (u : Value) (k : Nat) (V : Nat → Int) (wr : World) : Prop where
  d : DecMem wr base g v b D
  i : wr.ownsRow B 3 1 u k ((tabF k V).map (Value.int .i64))
  k : Keeps (fun j => j = g) w wr
  B : w.heap.size ≤ B ∧ B ≤ wr.heap.size
  gs : g < w.heap.size ∧ ∀ j, v.ownBlock = some j → j < w.heap.size
section
variable {w wr w' : World} {B base g k : Nat} {v u : Value} {b : List Int} {D D' : DecS} {V : Nat → Int}
theorem GotR.dec (h : GotR w B base g v b D u k V wr) (hd : DecMem w' base g v b D') (hk : Keeps (fun j => j = g) wr w') : GotR w B base g v b D' u k V w' :=
  ⟨hd, own_keeps h.i hk (fun j hj c => by have := own_base h.i j hj; have := h.B.1; have := h.gs.1; omega), h.k.trans hk, ⟨h.B.1, Nat.le_trans h.B.2 hk.size⟩, h.gs⟩
theorem GotR.decM {mg : Nat} (h : GotR w B base g v b D u k V wr) (hd : DecMem w' base g v b D') (hk : Keeps (fun j => j = g ∨ j = mg) wr w') (hm : w.heap.size ≤ mg ∧ mg < B) : GotR w B base g v b D' u k V w' :=
  ⟨hd, own_keeps h.i hk (fun j hj c => by have := own_base h.i j hj; have := h.B.1; have := h.gs.1; omega), h.k.then_ hk (fun j hj => by omega), ⟨h.B.1, Nat.le_trans h.B.2 hk.size⟩, h.gs⟩
theorem GotR.alloc (h : GotR w B base g v b D u k V wr) (o : Obj) : GotR w B base g v b D u k V (wr.alloc o) :=
  ⟨h.d.below (Below.alloc_new wr o), World.ownsRow.alloc h.i o, h.k.alloc o, ⟨h.B.1, Nat.le_trans h.B.2 (Below.alloc_new wr o).size⟩, h.gs⟩
theorem GotR.drewN (h : GotR w B base g v b D u k V wr) (n : Nat) : GotR w B base g v b D u k V (wr.drewN n) := ⟨h.d.drewN n, own_drewN h.i n, h.k.drewN n, h.B, h.gs⟩
theorem GotR.app (h : GotR w B base g v b D u k V wr) {u' : Value} (ho : w'.ownsRow B 3 1 u' (k + 1) ((tabF (k + 1) V).map (Value.int .i64))) (hg : wr.grownBy w' u.ownBlock) : GotR w B base g v b D u' (k + 1) V w' := by
  have hb := h.B
  have hgs := h.gs
  have hk : Keeps (fun j => u.ownBlock = some j) wr w' := Keeps.of_grown hg fun _ h => h
  exact ⟨h.d.keeps hk (fun c => by have := own_base h.i g c; omega) (fun j hj c => by have := own_base h.i j c; have := hgs.2 j hj; omega), ho,
    h.k.then_ hk (fun j hj => .inr (by have := own_base h.i j hj; omega)), ⟨hb.1, Nat.le_trans hb.2 hk.size⟩, hgs⟩
theorem GotR.post (h : GotR w B base g v b D u 21 V wr) : ∃ a c, u = .slice a 21 c ∧ IntsAt wr wr.heap.size .i64 a 21 (tabF 21 V) ∧ DecMem wr base g v b D ∧ Keeps (fun j => j = g) w wr := by
  obtain ⟨a, c, e⟩ := own_form h.i
  subst e
  exact ⟨a, c, rfl, own_ints' h.i, h.d, h.k⟩
end

end Go.Proofs.Ytdmafololcpamaa

/- What package quant's putting gives. -/
namespace Go.Proofs.Ytdmafololcpamaa
open Go.RowKit
set_option linter.unusedVariables false

/-- A block of another type is neither the encoder nor its row. -/
theorem EncAt.ne_cel {w : World} {base g m : Nat} {v : Value} {e : EncS} {t : TypeId} {cs : Array Value} (h : EncAt w base g v e) (k : Cel w m t cs) (h1 : t ≠ 58) (h2 : 5 ≠ t) : m ≠ g ∧ v.ownBlock ≠ some m := by
  obtain ⟨D, last, q1, q2⟩ := h
  exact ⟨cel_ne k q1.1 h1, fun c => own_ne_cel q1.2.1 k h2 m c rfl⟩
/-- What is held while lines are put: the encoder's and the model's state, and what else was written. -/
def PutQ (w : World) (base g mg : Nat) (v : Value) (S : EncS × List Int) (wr : World) : Prop :=
  ∃ v', EncAt wr base g v' S.1 ∧ ModAt wr mg S.2 false ∧ Keeps (fun j => j = g ∨ v.ownBlock = some j ∨ j = mg) w wr ∧ (∀ j, v'.ownBlock = some j → v.ownBlock = some j ∨ w.heap.size ≤ j)
section
variable {w wr w' : World} {base g mg : Nat} {v : Value} {S S' : EncS × List Int}
theorem PutQ.start (h : EncAt w base g v S.1) (hm : ModAt w mg S.2 false) : PutQ w base g mg v S w := ⟨v, h, hm, Keeps.refl _ w, fun _ h => .inl h⟩
theorem PutQ.below (h : PutQ w base g mg v S wr) (hb : Below wr.heap.size wr w') : PutQ w base g mg v S w' := by
  obtain ⟨v', h1, h2, h3, h4⟩ := h
  exact ⟨v', h1.below hb, h2.below hb, h3.trans (.of_below hb), h4⟩
theorem PutQ.drewN (h : PutQ w base g mg v S wr) (n : Nat) : PutQ w base g mg v S (wr.drewN n) := by
  obtain ⟨v', h1, h2, h3, h4⟩ := h
  exact ⟨v', h1.drewN n, h2.drewN n, h3.drewN n, h4⟩
theorem PutQ.step {v' v2 : Value} (h3 : Keeps (fun j => j = g ∨ v.ownBlock = some j ∨ j = mg) w wr) (h4 : ∀ j, v'.ownBlock = some j → v.ownBlock = some j ∨ w.heap.size ≤ j)
    (k1 : EncAt w' base g v2 S'.1) (km : ModAt w' mg S'.2 false) (k2 : Keeps (fun j => j = g ∨ v'.ownBlock = some j ∨ j = mg) wr w') (k3 : ∀ j, v2.ownBlock = some j → v'.ownBlock = some j ∨ wr.heap.size ≤ j) : PutQ w base g mg v S' w' := by
  refine ⟨v2, k1, km, h3.then_ k2 fun j hj => ?_, fun j hj => ?_⟩
  · rcases hj with hj | hj | hj
    · exact .inl (.inl hj)
    · rcases h4 j hj with c | c
      · exact .inl (.inr (.inl c))
      · exact .inr c
    · exact .inl (.inr (.inr hj))
  · rcases k3 j hj with c | c
    · exact h4 j c
    · exact .inr (Nat.le_trans h3.size c)
theorem PutQ.sym (hw : PutQ w base g mg v S wr) (hG : GoodE S.1) (hL : GoodL S.2) {s : Nat} (hs : s < S.2.length) (hk : S.1.k ≤ 800000) :
    Calls Try.prog 54 #[.pointer (some ⟨g, 0, none⟩), .pointer (some ⟨mg, 0, none⟩), .int .i64 s] wr fun e w' => e = .returned (.int .i64 0) ∧ PutQ w base g mg v (encSym S.1 S.2 s, learnP S.2 s) w' := by
  obtain ⟨v', h1, h2, h3, h4⟩ := hw
  refine (rncSymbol_any base g v' mg S.1 S.2 false s wr h1 h2 hG hL hs hk).mono ?_
  rintro e w2 ⟨rfl, v2, k1, km, k2, k3⟩
  exact ⟨rfl, PutQ.step (S' := (encSym S.1 S.2 s, learnP S.2 s)) h3 h4 k1 km k2 k3⟩
theorem PutQ.bits (hw : PutQ w base g mg v S wr) (hG : GoodE S.1) {n : Int} {wide : Nat} (n0 : 0 ≤ n) (hw24 : wide ≤ 24) (hn : n < P2 wide) (hk : S.1.k ≤ 800000) :
    Calls Try.prog 55 #[.pointer (some ⟨g, 0, none⟩), .int .u32 n, .int .i64 wide] wr fun e w' => e = .returned (.int .i64 0) ∧ PutQ w base g mg v (encBits S.1 n wide, S.2) w' := by
  obtain ⟨v', h1, h2, h3, h4⟩ := hw
  have hne := h1.ne_mod h2
  have hp : P2 wide ≤ 16777216 := by
    have := P2_mono (a := wide) (b := 24) hw24
    rw [show P2 24 = 16777216 by decide] at this
    exact this
  refine (rncBits_any base g v' S.1 n wide wr h1 hG n0 (by omega) hw24 hn hk).mono ?_
  rintro e w2 ⟨rfl, v2, k1, k2, k3⟩
  refine ⟨rfl, PutQ.step (S' := (encBits S.1 n wide, S.2)) h3 h4 k1 (h2.keeps k2 ?_) (k2.mono fun j hj => hj.elim .inl fun c => .inr (.inl c)) k3⟩
  rintro (c | c)
  · exact hne.1 c
  · exact hne.2 c
end

set_option maxHeartbeats 400000 in
set_option maxRecDepth 100000 in
theorem qPut1_any (w : World) (base g mg : Nat) (v : Value) (S : EncS × List Int) (q : Int) (wr : World) (h : PutQ w base g mg v S wr) (hG : GoodE S.1) (hL : GoodL S.2) (hl : S.2.length = 13) (hk : S.1.k ≤ 700000) (hq : -4095 ≤ q ∧ q ≤ 4095) :
    Calls Try.prog 30 #[.pointer (some ⟨g, 0, none⟩), .pointer (some ⟨mg, 0, none⟩), .int .i32 q] wr fun e w' => e = .returned (.int .i64 0) ∧ PutQ w base g mg v (putX S.1 S.2 q, learnP S.2 (bitsI q)) w' := by
  have hb12 := bits_12 hq
  have hbl : bitsI q < S.2.length := by omega
  have HS : RowKit.Hid (Calls Try.prog 54 #[.pointer (some ⟨g, 0, none⟩), .pointer (some ⟨mg, 0, none⟩), .int .i64 (bitsI q)] wr fun e w' => e = .returned (.int .i64 0) ∧ PutQ w base g mg v (encSym S.1 S.2 (bitsI q), learnP S.2 (bitsI q)) w') := h.sym hG hL hbl (by omega)
  have g1 := encSym_good hG hL hbl
  have k1 := encSym_k S.1 S.2 (bitsI q)
  by_cases hq0 : q = 0
  · have HE := Lib.hid (putX_none S.1 S.2 hq0)
    rw [HE.out]
    generalize encSym S.1 S.2 (bitsI q) = E1 at HS ⊢
    generalize learnP S.2 (bitsI q) = L1 at HS ⊢
    subst hq0
    have HSz : RowKit.Hid (Calls Try.prog 54 #[.pointer (some ⟨g, 0, none⟩), .pointer (some ⟨mg, 0, none⟩), .int .i64 0] wr fun e w' => e = .returned (.int .i64 0) ∧ PutQ w base g mg v (E1, L1) w') := HS.out
    have HLn : RowKit.Hid (Calls Try.prog 53 #[.int .u32 0] wr fun e w' => e = .returned (.int .i64 0) ∧ wr = w') := len32E_any 0 wr (by decide) (by decide)
    clear h hG hL hl hk hq hb12 hbl g1 k1 HE HS
    go_enter Try.func30, Try.ntmps30
    go_wp2_with (first
      | (go_at_call 53; refine HLn.out.mono ?_; rintro e1 w5 ⟨rfl, rfl⟩)
      | (go_at_call 54; refine HSz.out.mono ?_; rintro e1 w6 ⟨rfl, hp⟩; have HP := Lib.hid hp; clear hp))
    go_ret
    exact ⟨rfl, HP.out⟩
  · have HE := Lib.hid (putX_some S.1 S.2 hq0)
    obtain ⟨l0, l1⟩ := lowQ_bd hq0
    have hn0 : bitsI q ≠ 0 := fun e => hq0 (bits_none.1 e)
    obtain ⟨j, hj⟩ : ∃ j, bitsI q = j + 1 := ⟨bitsI q - 1, by omega⟩
    have hj11 : j ≤ 11 := by omega
    obtain ⟨m, hm⟩ : ∃ m : Int, (q.natAbs : Int) = m := ⟨_, rfl⟩
    have hm1 : 1 ≤ m := by omega
    have hm2 : m ≤ 4095 := by omega
    have HLn : RowKit.Hid (Calls Try.prog 53 #[.int .u32 m] wr fun e w' => e = .returned (.int .i64 ((j : Int) + 1)) ∧ wr = w') := (len32E_any m wr (by omega) (by omega)).mono fun e w' h => ⟨by rw [h.1, show ((j : Int) + 1) = ((j + 1 : Nat) : Int) by omega, ← hj]; unfold bitsI; rw [show m.toNat = q.natAbs by omega], h.2⟩
    have hlow : m - P2 j = lowQ q := by unfold lowQ; rw [hm, hj]; rfl
    have HBl : RowKit.Hid (∀ w3, PutQ w base g mg v (encBits (encSym S.1 S.2 (bitsI q)) (signQ q) 1, learnP S.2 (bitsI q)) w3 → Calls Try.prog 55 #[.pointer (some ⟨g, 0, none⟩), .int .u32 (lowQ q), .int .i64 j] w3 fun e w' => e = .returned (.int .i64 0) ∧ PutQ w base g mg v (putX S.1 S.2 q, learnP S.2 (bitsI q)) w') := fun w3 h3 => by
      rw [HE.out]
      have k2 := encBits_k (encSym S.1 S.2 (bitsI q)) (signQ q) (wide := 1) (by decide)
      rw [hj, show j + 1 - 1 = j by omega] at l1 ⊢
      rw [hj] at h3 g1 k1 k2
      exact h3.bits (encBits_good (n := signQ q) (wide := 1) g1 (by decide)) l0 (by omega) l1 (by simp only; omega)
    have HBs : RowKit.Hid (∀ w3, PutQ w base g mg v (encSym S.1 S.2 (bitsI q), learnP S.2 (bitsI q)) w3 → Calls Try.prog 55 #[.pointer (some ⟨g, 0, none⟩), .int .u32 (signQ q), .int .i64 1] w3 fun e w' => e = .returned (.int .i64 0) ∧ PutQ w base g mg v (encBits (encSym S.1 S.2 (bitsI q)) (signQ q) 1, learnP S.2 (bitsI q)) w') := fun w3 h3 =>
      h3.bits (wide := 1) g1 (signQ_bd q).1 (by decide) (by rw [show P2 1 = 2 by decide]; have := (signQ_bd q).2; omega) (by simp only; omega)
    have HSj : RowKit.Hid (Calls Try.prog 54 #[.pointer (some ⟨g, 0, none⟩), .pointer (some ⟨mg, 0, none⟩), .int .i64 ((j : Int) + 1)] wr fun e w' => e = .returned (.int .i64 0) ∧ PutQ w base g mg v (encSym S.1 S.2 (bitsI q), learnP S.2 (bitsI q)) w') := by
      have := HS.out
      rw [show ((bitsI q : Nat) : Int) = (j : Int) + 1 by omega] at this
      exact this
    have p0 := P2_pos j
    have p1 := P2_12 (k := j) (by omega)
    have hp : (2 : Int) ^ j = P2 j := rfl
    have hsg : (q < 0 → signQ q = 1) ∧ (¬ q < 0 → signQ q = 0) := ⟨fun h => if_pos h, fun h => if_neg h⟩
    rw [hj, show j + 1 - 1 = j by omega] at l1
    clear h hG hL hl hk hq hb12 hbl g1 k1 HE HS hj hn0
    generalize encBits (encSym S.1 S.2 (bitsI q)) (signQ q) 1 = E2 at HBs HBl
    generalize encSym S.1 S.2 (bitsI q) = E1 at HBs HSj
    generalize putX S.1 S.2 q = E3 at HBl ⊢
    generalize learnP S.2 (bitsI q) = L1 at HBs HBl HSj ⊢
    generalize lowQ q = y at l0 l1 hlow HBl
    generalize signQ q = sg at hsg HBs
    generalize P2 j = p at p0 p1 hp l1 hlow
    have u5 : IntKind.u32.wrap (2 ^ j) = p := by rw [hp]; exact IntWalk.u32_in _ (by omega)
    have u6 : IntKind.u32.wrap (m - p) = y := by rw [hlow]; exact IntWalk.u32_in _ (by omega)
    have u7 : IntKind.i64.wrap ((j : Int) + 1 - 1) = (j : Int) := by rw [show (j : Int) + 1 - 1 = j by omega]; exact IntWalk.i64_in _ (by omega)
    have hz : (((j : Int) + 1) == 0) = false := by simp; omega
    clear hp hlow
    by_cases hneg : q < 0
    · obtain rfl := hsg.1 hneg
      have u1 : IntKind.u32.wrap q = 4294967296 - m := by
        have e : IntKind.u32.wrap q = q % 4294967296 := by simp [IntKind.wrap, IntKind.signed, IntKind.bits]
        rw [e]; omega
      have u2 : IntKind.u32.wrap (-(4294967296 - m)) = m := by
        have e : IntKind.u32.wrap (-(4294967296 - m)) = (-(4294967296 - m)) % 4294967296 := by simp [IntKind.wrap, IntKind.signed, IntKind.bits]
        rw [e]; omega
      have d1 : decide (q < 0) = true := by simp; omega
      clear hm hsg hneg hq0
      go_enter Try.func30, Try.ntmps30
      go_wp2_with (first
        | (go_at_call 53; refine HLn.out.mono ?_; rintro e1 w5 ⟨rfl, rfl⟩)
        | (go_at_call 54; refine HSj.out.mono ?_; rintro e1 w6 ⟨rfl, hp⟩; have HP := Lib.hid hp; clear hp)
        | (go_at_call 55; have hx := HP2.out; refine (HBl.out _ hx).mono ?_; rintro e1 w8 ⟨rfl, hp⟩; have HP3 := Lib.hid hp; clear hp hx HP2)
        | (go_at_call 55; refine (HBs.out _ HP.out).mono ?_; rintro e1 w7 ⟨rfl, hp⟩; have HP2 := Lib.hid hp; clear hp))
      go_ret
      exact ⟨rfl, HP3.out⟩
    · obtain rfl := hsg.2 hneg
      have u1 : IntKind.u32.wrap q = m := by
        have e : IntKind.u32.wrap q = q % 4294967296 := by simp [IntKind.wrap, IntKind.signed, IntKind.bits]
        rw [e]; omega
      have d1 : decide (q < 0) = false := by simp; omega
      clear hm hsg hneg hq0
      go_enter Try.func30, Try.ntmps30
      go_wp2_with (first
        | (go_at_call 53; refine HLn.out.mono ?_; rintro e1 w5 ⟨rfl, rfl⟩)
        | (go_at_call 54; refine HSj.out.mono ?_; rintro e1 w6 ⟨rfl, hp⟩; have HP := Lib.hid hp; clear hp)
        | (go_at_call 55; have hx := HP2.out; refine (HBl.out _ hx).mono ?_; rintro e1 w8 ⟨rfl, hp⟩; have HP3 := Lib.hid hp; clear hp hx HP2)
        | (go_at_call 55; refine (HBs.out _ HP.out).mono ?_; rintro e1 w7 ⟨rfl, hp⟩; have HP2 := Lib.hid hp; clear hp))
      go_ret
      exact ⟨rfl, HP3.out⟩

/-! ### Put -/
/-- Which lines' bands are told, and the lines' numbers. -/
def toldT (c s : Nat → Int) (i : Nat) : Bool := decide (s (ofN i) < c (ofN i))
def lineQ (x c s : Nat → Int) (i : Nat) : Int := if i < 512 then numQ (x i) (s (ofN i)) (c (ofN i)) else 0
theorem toldT_at {c s : Nat → Int} {b i : Nat} (hb : b < 21) (h0 : edgeK b ≤ i) (h1 : i < edgeK (b + 1)) : toldT c s i = decide (s b < c b) := by unfold toldT; rw [of_band hb h0 h1]
theorem lineQ_at {x c s : Nat → Int} {b i : Nat} (hb : b < 21) (h0 : edgeK b ≤ i) (h1 : i < edgeK (b + 1)) : lineQ x c s i = numQ (x i) (s b) (c b) := by
  have := edgeK_lt b hb
  unfold lineQ; rw [if_pos (by omega), of_band hb h0 h1]
theorem lineQ_bd {x c s : Nat → Int} (h : ∀ b, b < 21 → c b - s b ≤ 12) (i : Nat) : -4095 ≤ lineQ x c s i ∧ lineQ x c s i ≤ 4095 := by
  unfold lineQ; split
  · rename_i hi
    exact numQ_12 _ (h _ (of_lt hi))
  · decide
theorem qPut_nil (l a a2 : Option Addr) (llen lcap len cap len2 cap2 : Nat) (w : World) :
    Calls Try.prog 12 #[.pointer none, .slice l llen lcap, .slice a len cap, .slice a2 len2 cap2] w fun e w' => e = .returned (.int .i64 1) ∧ w = w' := by
  go_enter Try.func12, Try.ntmps12
  go_wp2
  go_ret
  exact ⟨rfl, rfl⟩
theorem qPut_len (g : Nat) (l a a2 : Option Addr) (llen lcap len cap len2 cap2 : Nat) (w : World) (hm : llen ≤ 9223372036854775807) (h : llen ≠ 512) :
    Calls Try.prog 12 #[.pointer (some ⟨g, 0, none⟩), .slice l llen lcap, .slice a len cap, .slice a2 len2 cap2] w fun e w' => e = .returned (.int .i64 1) ∧ w = w' := by
  have q1 : ((llen : Int) == 512) = false := by simp; omega
  clear h
  go_enter Try.func12, Try.ntmps12
  go_wp2
  go_ret
  exact ⟨rfl, rfl⟩
theorem qPut_no (g : Nat) (l a a2 : Option Addr) (lcap len cap len2 cap2 : Nat) (zs ss : List Int) (w : World) (h : IntsAt w w.heap.size .i64 a len zs) (hm : len ≤ 9223372036854775807) (h2 : IntsAt w w.heap.size .i64 a2 len2 ss) (hm2 : len2 ≤ 9223372036854775807) (hno : mayQ zs ss = false) :
    Calls Try.prog 12 #[.pointer (some ⟨g, 0, none⟩), .slice l 512 lcap, .slice a len cap, .slice a2 len2 cap2] w fun e w' => e = .returned (.int .i64 1) ∧ w = w' := by
  have H1 := Lib.hid h
  have H2 := Lib.hid h2
  have HN := Lib.hid hno
  clear h h2 hno
  go_enter Try.func12, Try.ntmps12
  go_wp2_with (go_at_call 26; go_loud (refine (qMay_any _ _ _ _ _ _ _ _ _ H1.out hm H2.out hm2).mono ?_); rintro e1 w5 ⟨rfl, rfl⟩; rw [HN.out])
  go_ret
  exact ⟨rfl, rfl⟩

set_option maxHeartbeats 1000000 in
set_option maxRecDepth 100000 in
theorem qPut_any (base g : Nat) (v : Value) (E : EncS) (lb lo lcap : Nat) (x : Nat → Int) (a a2 : Option Addr) (cap cap2 : Nat) (zs ss : List Int) (w : World) (hE : EncAt w base g v E) (hG : GoodE E) (hk : E.k ≤ 600000)
    (hlb : lb < w.heap.size) (hx : ∀ i, i < 512 → w.cell? ⟨lb, lo + i, none⟩ = some (.int .i32 (x i))) (hxb : ∀ i, i < 512 → -2147483648 ≤ x i ∧ x i ≤ 2147483647) (hlc : 512 ≤ lcap) (hlc' : lcap ≤ 9223372036854775807) (hne : lb ≠ g ∧ v.ownBlock ≠ some lb)
    (h : IntsAt w w.heap.size .i64 a 21 zs) (h2 : IntsAt w w.heap.size .i64 a2 21 ss) (hmay : mayQ zs ss = true) :
    Calls Try.prog 12 #[.pointer (some ⟨g, 0, none⟩), .slice (some ⟨lb, lo, none⟩) 512 lcap, .slice a 21 cap, .slice a2 21 cap2] w
      (PutPost base g v (putL (toldT (fun j => zs.getD j 0) (fun j => ss.getD j 0)) (lineQ x (fun j => zs.getD j 0) (fun j => ss.getD j 0)) E 512).1 (.int .i64 0) w) := by
  obtain ⟨hr1, hr2, h12⟩ := mayQ_true hmay
  have HI := Lib.hid h
  have HI2 := Lib.hid h2
  have HMay := Lib.hid hmay
  have HC := Lib.hid (rightB_true hr1).2
  have HSt := Lib.hid (rightB_true hr2).2
  have H12 := Lib.hid h12
  have HE := Lib.hid hE
  have HX := Lib.hid hx
  have HXb := Lib.hid hxb
  have hgl := hE.lt.1
  have HOw : RowKit.Hid (∀ r, v.ownBlock = some r → r < w.heap.size) := fun r hr => (hE.own r hr).1
  obtain ⟨T, hT⟩ : ∃ T, T = toldT (fun j => zs.getD j 0) (fun j => ss.getD j 0) := ⟨_, rfl⟩
  obtain ⟨Q, hQ⟩ : ∃ Q, Q = lineQ x (fun j => zs.getD j 0) (fun j => ss.getD j 0) := ⟨_, rfl⟩
  have HT : RowKit.Hid (∀ b i, b < 21 → edgeK b ≤ i → i < edgeK (b + 1) → T i = decide (ss.getD b 0 < zs.getD b 0)) := fun b i hb h0 h1 => by rw [hT]; exact toldT_at hb h0 h1
  have HQ : RowKit.Hid (∀ b i, b < 21 → edgeK b ≤ i → i < edgeK (b + 1) → Q i = numQ (x i) (ss.getD b 0) (zs.getD b 0)) := fun b i hb h0 h1 => by rw [hQ]; exact lineQ_at hb h0 h1
  have HQb : RowKit.Hid (∀ i, -4095 ≤ Q i ∧ Q i ≤ 4095) := fun i => by rw [hQ]; exact lineQ_bd h12 i
  rw [← hT, ← hQ]
  have HPg : RowKit.Hid (∀ n, GoodE (putL T Q E n).1 ∧ GoodL (putL T Q E n).2 ∧ (putL T Q E n).2.length = 13 ∧ (putL T Q E n).1.k ≤ E.k + 10 * n) := putL_good hG HQb.out
  have HPt : RowKit.Hid (∀ n, T n = true → putL T Q E (n + 1) = (putX (putL T Q E n).1 (putL T Q E n).2 (Q n), learnP (putL T Q E n).2 (bitsI (Q n)))) := fun n h => putL_told Q E h
  have HPs : RowKit.Hid (∀ b, b < 21 → ¬ ss.getD b 0 < zs.getD b 0 → putL T Q E (edgeK (b + 1)) = putL T Q E (edgeK b)) := fun b hb hn => putL_skip Q E (by have := edgeK_lt b hb; omega) fun i h0 h1 => by rw [HT.out b i hb h0 h1]; simpa using hn
  have HP0 : RowKit.Hid (putL T Q E (edgeK 0) = (E, List.replicate 13 1)) := rfl
  have HPe : RowKit.Hid (putL T Q E (edgeK 21) = putL T Q E 512) := rfl
  generalize putL T Q E = P at HPg HPt HPs HP0 HPe ⊢
  clear hE hG hT hQ h h2 hmay hr1 hr2 h12 hx hxb
  go_enter Try.func12, Try.ntmps12
  go_wp2_with (first
    | (go_at_call 26; go_loud (refine (qMay_any _ _ _ _ _ _ _ _ _ HI.out (by decide) HI2.out (by decide)).mono ?_); rintro e1 w5 ⟨rfl, rfl⟩; rw [HMay.out])
    | (go_at_call 27; go_loud (refine (qSizes_any _).mono ?_); rintro e1 w1 ⟨mg, rfl, hg, hm, hb⟩; have HM1 := Lib.hid hm; have HB1 := Lib.hid hb; have hmg := hg; have hmg1 := hm.lt; clear hg hm hb)
    | (go_at_call 28; go_loud (refine (qParts_any _ _ _ _ zs ss _ (HI.out.now HB1.out (Nat.le_refl _)) (HI2.out.now HB1.out (Nat.le_refl _))).mono ?_); rintro e1 w2 ⟨pg, rfl, hp, hg, hb⟩; have HPg2 := Lib.hid hp; have HB2 := Lib.hid (chain HB1.out hb); have HM2 := Lib.hid (HM1.out.below hb); have hpg := hg; have hpg2 := hp.lt; clear hg hp hb))
  have hs1 := HB1.out.size
  have hs2 := HB2.out.size
  have H0 : RowKit.Hid (PutQ w2 base g mg v (P (edgeK 0)) w2) := by rw [HP0.out]; exact PutQ.start (S := (E, List.replicate 13 1)) (HE.out.below HB2.out) HM2.out
  have HX2 : RowKit.Hid (∀ i, i < 512 → w2.cell? ⟨lb, lo + i, none⟩ = some (.int .i32 (x i))) := fun i hi => (HB2.out.cell (p := ⟨lb, lo + i, none⟩) hlb).trans (HX.out i hi)
  have HNot : RowKit.Hid (¬ (lb = g ∨ v.ownBlock = some lb ∨ lb = mg)) := by
    rintro (c | c | c)
    · exact hne.1 c
    · exact hne.2 c
    · omega
  have HNp : RowKit.Hid (¬ (pg = g ∨ v.ownBlock = some pg ∨ pg = mg)) := by
    rintro (c | c | c)
    · omega
    · have := HOw.out _ c; omega
    · omega
  clear HM1 HB1 HM2 HX HP0 HE
  go_loopw [14, 33] (fun _ i wr => ∃ k : Nat, k ≤ 21 ∧ i = .int .i64 (k : Int) ∧ RowKit.Hid (PutQ w2 base g mg v (P (edgeK k)) wr)) (fun _ i _ => 21 - (intOf i).toNat)
  case atStart => exact ⟨0, by omega, rfl, H0.out⟩
  case round =>
    obtain ⟨k, hk, rfl, H⟩ := hrel
    clear H0
    by_cases hlt : k < 21
    · have hrow : IFun wr pg 67 .i64 84 (partF (fun j => zs.getD j 0) (fun j => ss.getD j 0)) := by
        obtain ⟨_, _, _, hke, _⟩ := H.out
        exact HPg2.out.keeps hke HNp.out
      have d0 := hrow.cell (j := k * 4) (by omega)
      have d1 := hrow.cell (j := k * 4 + 1) (by omega)
      have d2 := hrow.cell (j := k * 4 + 2) (by omega)
      have d3 := hrow.cell (j := k * 4 + 3) (by omega)
      rw [partF_0] at d0
      rw [partF_1] at d1
      rw [partF_2] at d2
      rw [partF_3] at d3
      clear hrow
      obtain ⟨c0, c1⟩ := HC.out k hlt
      obtain ⟨s0, s1⟩ := HSt.out k hlt
      have cs := H12.out k hlt
      obtain ⟨ed1, ed2⟩ := edgeK_lt k hlt
      have HTk : RowKit.Hid (∀ i, edgeK k ≤ i → i < edgeK (k + 1) → T i = decide (ss.getD k 0 < zs.getD k 0)) := fun i => HT.out k i hlt
      have HQk : RowKit.Hid (∀ i, edgeK k ≤ i → i < edgeK (k + 1) → Q i = numQ (x i) (ss.getD k 0) (zs.getD k 0)) := fun i => HQ.out k i hlt
      have HPk := Lib.hid (HPs.out k hlt)
      generalize zs.getD k 0 = c at d2 c0 c1 cs HTk HQk HPk
      generalize ss.getD k 0 = s at d3 s0 s1 cs HTk HQk HPk
      obtain ⟨B, hB⟩ : ∃ B, B = edgeK (k + 1) := ⟨_, rfl⟩
      rw [← hB] at d1 ed1 ed2 HTk HQk HPk
      have HBk := Lib.hid hB
      clear hB
      generalize edgeK k = A at d0 ed1 HTk HQk HPk H
      have l0 : (k : Int) < 21 := by omega
      by_cases htd : s < c
      · have htd2 : s < c := htd
        have ht : decide (s < c) = true := by simp; omega
        have HTd := Lib.hid ht
        have HTk2 : RowKit.Hid (∀ i, A ≤ i → i < B → T i = true) := fun i h0 h1 => by rw [HTk.out i h0 h1]; exact ht
        obtain ⟨n, hn⟩ : ∃ n, n = B - A := ⟨_, rfl⟩
        have e2 : B = A + n := by omega
        have e3 : B - A = n := hn.symm
        have hn0 : 0 < n := by omega
        have hn512 : A + n ≤ 512 := by omega
        have hca : ¬ lcap = A := by omega
        have HCl : RowKit.Hid (∀ m, m < n → w2.cell? ⟨lb, lo + A + m, none⟩ = some (.int .i32 (x (A + m)))) := fun m hm => by rw [Nat.add_assoc]; exact HX2.out (A + m) (by omega)
        have HXl : RowKit.Hid (∀ m, m < n → -2147483648 ≤ x (A + m) ∧ x (A + m) ≤ 2147483647) := fun m hm => HXb.out _ (by omega)
        have HQm : RowKit.Hid (∀ m, m < n → Q (A + m) = numQ (x (A + m)) s c) := fun m hm => HQk.out (A + m) (by omega) (by omega)
        have HPm : RowKit.Hid (∀ m, m < n → P (A + m + 1) = (putX (P (A + m)).1 (P (A + m)).2 (Q (A + m)), learnP (P (A + m)).2 (bitsI (Q (A + m))))) := fun m hm => HPt.out _ (HTk2.out (A + m) (by omega) (by omega))
        have HEnd : RowKit.Hid (edgeK (k + 1) = A + n) := by show _ = _; rw [← HBk.out]; exact e2
        have HCn := Lib.hid (Cel.new wr 67 #[.int .i64 (A : Int), .int .i64 (B : Int), .int .i64 c, .int .i64 s])
        have HWs : RowKit.Hid (w2.heap.size ≤ wr.heap.size) := by obtain ⟨_, _, _, hke, _⟩ := H.out; exact hke.size
        clear ht htd HPk HTk HTk2 HQk HBk e2 hn
        go_wp2_with (go_at_call 29; go_loud (refine (qTold_any (A : Int) (B : Int) c s _).mono ?_); rintro e w5 ⟨rfl, hb⟩; rw [HTd.out]; have HP5 := Lib.hid (H.out.below (chain (Below.alloc_new wr (.cells #[.int .i64 (A : Int), .int .i64 (B : Int), .int .i64 c, .int .i64 s] 67)) hb)); have HC5 := Lib.hid (HCn.out.below hb); have p0 := HC5.out.cell 0; have p1 := HC5.out.cell 1; simp only [List.getElem?_toArray, List.getElem?_cons_zero, List.getElem?_cons_succ] at p0 p1; clear hb)
        clear HCn H d0 d1 d2 d3 p0 p1
        obtain ⟨pb, hpb⟩ : ∃ pb, pb = wr.heap.size := ⟨_, rfl⟩
        rw [← hpb] at HC5 HWs ⊢
        clear hpb
        go_loopw [13, 14, 47] (fun _ _ i wx => ∃ m : Nat, m ≤ n ∧ i = .int .i64 (m : Int) ∧ RowKit.Hid (PutQ w2 base g mg v (P (A + m)) wx ∧ Cel wx pb 67 #[.int .i64 (A : Int), .int .i64 (B : Int), .int .i64 c, .int .i64 s])) (fun _ _ i _ => n - (intOf i).toNat)
        case atStart => exact ⟨0, by omega, rfl, HP5.out, HC5.out⟩
        case round =>
          obtain ⟨m, hm, rfl, G⟩ := hrel
          clear HP5 HC5
          by_cases hmn : m < n
          · have q0 := G.out.2.cell 0
            have q1 := G.out.2.cell 1
            have q2 := G.out.2.cell 2
            have q3 := G.out.2.cell 3
            simp only [List.getElem?_toArray, List.getElem?_cons_zero, List.getElem?_cons_succ] at q0 q1 q2 q3
            obtain ⟨v', h1, hm2, hke, hv⟩ := G.out.1
            have x3 := (World.cell?_of_block (a := ⟨lb, lo + A + m, none⟩) (hke.block lb (by omega) HNot.out)).trans (HCl.out m hmn)
            obtain ⟨x0, x1⟩ := HXl.out m hmn
            have HQe := Lib.hid (HQm.out m hmn)
            have HPn := Lib.hid (HPm.out m hmn)
            obtain ⟨pg1, pg2, pg3, pg4⟩ := HPg.out (A + m)
            have HG1 := Lib.hid pg1
            have HG2 := Lib.hid pg2
            have HG3 := Lib.hid pg3
            have hpk : (P (A + m)).1.k ≤ 700000 := by omega
            have hqb := Lib.hid (HQb.out (A + m))
            have HEn := Lib.hid h1
            have HMn := Lib.hid hm2
            have HKn := Lib.hid hke
            have HVn := Lib.hid hv
            have HPb : RowKit.Hid (pb ≠ g ∧ v'.ownBlock ≠ some pb ∧ pb ≠ mg) := ⟨(h1.ne_cel G.out.2 (by decide) (by decide)).1, (h1.ne_cel G.out.2 (by decide) (by decide)).2, cel_ne G.out.2 hm2.2 (by decide)⟩
            clear pg1 pg2 pg3 h1 hm2 hke hv pg4
            generalize x (A + m) = z at x3 x0 x1 HQe
            generalize Q (A + m) = y at HQe HPn hqb
            have l1 : (m : Int) < (n : Int) := by omega
            go_wp2_with (first
              | (go_at_call 31; go_loud (refine (qNumber_any (A : Int) (B : Int) c s z _ s0 (by omega) htd2 cs x0 x1).mono ?_); rintro e w6 ⟨rfl, hb⟩; rw [← HQe.out]; have HE6 := Lib.hid (HEn.out.below hb); have HM6 := Lib.hid (HMn.out.below hb); have HC6 := Lib.hid (G.out.2.below hb); have HB6 := Lib.hid hb; clear hb)
              | (go_at_call 30; go_loud (refine (qPut1_any w6 base g mg v' (P (A + m)) y w6 (PutQ.start HE6.out HM6.out) HG1.out HG2.out HG3.out hpk hqb.out).mono ?_); rintro e w7 ⟨rfl, hp⟩; have HT : RowKit.Hid (PutQ w2 base g mg v (P (A + m + 1)) w7 ∧ Cel w7 pb 67 #[.int .i64 (A : Int), .int .i64 (B : Int), .int .i64 c, .int .i64 s]) := (by rw [HPn.out]; obtain ⟨v2, r1, r2, r3, r4⟩ := hp; exact ⟨PutQ.step HKn.out HVn.out r1 r2 ((Keeps.of_below HB6.out).trans r3) (fun j hj => (r4 j hj).elim .inl fun c => .inr (Nat.le_trans HB6.out.size c)), HC6.out.keeps r3 (fun c => c.elim HPb.out.1 fun c => c.elim HPb.out.2.1 HPb.out.2.2)⟩); clear hp)
              | fail)
            go_roundw
            case rel => exact ⟨m + 1, by omega, by go_num, HT.out⟩
            case measure => simp [intOf] <;> omega
          · obtain rfl : m = n := by omega
            have Z : RowKit.Hid (PutQ w2 base g mg v (P (edgeK (k + 1))) wr) := by rw [HEnd.out]; exact G.out.1
            have l1 : ¬ (m : Int) < (m : Int) := by omega
            go_wp2
            go_roundw
            case rel => exact ⟨k + 1, by omega, by go_num, Z.out⟩
            case measure => simp [intOf] <;> omega
      · have ht : decide (s < c) = false := by simp; omega
        have HTd := Lib.hid ht
        have HPn : RowKit.Hid (P (edgeK (k + 1)) = P A) := by show _ = _; rw [← HBk.out]; exact HPk.out (by omega)
        clear ht htd HPk
        go_wp2_with (go_at_call 29; go_loud (refine (qTold_any (A : Int) (B : Int) c s _).mono ?_); rintro e w5 ⟨rfl, hb⟩; rw [HTd.out]; have HP5 := Lib.hid (H.out.below (chain (Below.alloc_new wr (.cells #[.int .i64 (A : Int), .int .i64 (B : Int), .int .i64 c, .int .i64 s] 67)) hb)); clear hb)
        go_roundw
        case rel => exact ⟨k + 1, by omega, by go_num, by rw [HPn.out]; exact HP5.out⟩
        case measure => simp [intOf] <;> omega
    · obtain rfl : k = 21 := by omega
      have HK := Lib.hid H.out
      rw [HPe.out] at HK
      go_wp2
      go_ret
      obtain ⟨v', e1, e2, e3, e4⟩ := HK.out
      refine ⟨rfl, v', e1, (Keeps.of_below HB2.out).then_ e3 fun j hj => ?_, fun j hj => ?_⟩
      · rcases hj with c | c | c
        · exact .inl (.inl c)
        · exact .inl (.inr c)
        · exact .inr (by omega)
      · rcases e4 j hj with c | c
        · exact .inl c
        · exact .inr (by omega)
end Go.Proofs.Ytdmafololcpamaa
