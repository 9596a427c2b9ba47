/- Plain facts, and what functions give, for the proofs of this seat: several texts in one, each with its own first remark. -/
import Derived.Test.YtkhhhejmbgloeaaGreatGg
import Derived.Test.YtkhhhejmbgloeaaGreatGh
import Derived.Test.YtkhhhejmbgloeaaGreatGk
import Derived.Test.YtkhhhejmbgloeaaGreatGc

/- Plain facts for RangedecAgain: what is put, symbol by symbol, and that it comes back. Nothing here speaks of the program. -/
namespace Go.Proofs.YtkhhhejmbgloeaaGreat
open Go
set_option linter.unusedVariables false

/-- One number's symbol, and its bits where it is divisible by three. -/
def putC (n : Nat) (E : EncS) (L : List Int) (c : Int) : EncS := if c % 3 = 0 then encBits (encSym E L (c % n).toNat) c 16 else encSym E L (c % n).toNat
def putAll (n : Nat) (zs : List Int) : Nat → EncS × List Int
  | 0 => (encNew, List.replicate n 1)
  | j + 1 => (putC n (putAll n zs j).1 (putAll n zs j).2 (zs.getD j 0), learnP (putAll n zs j).2 (zs.getD j 0 % n).toNat)
theorem putAll_succ (n : Nat) (zs : List Int) (j : Nat) : putAll n zs (j + 1) = (putC n (putAll n zs j).1 (putAll n zs j).2 (zs.getD j 0), learnP (putAll n zs j).2 (zs.getD j 0 % n).toNat) := rfl
theorem P2_16 : P2 16 = 65536 := by decide
theorem sym_lt {n : Nat} (n1 : 1 ≤ n) (c : Int) : (c % n).toNat < n := by
  have := Int.emod_lt_of_pos c (b := (n : Int)) (by omega)
  omega
theorem putC_good {n : Nat} {E : EncS} {L : List Int} {c : Int} (n1 : 1 ≤ n) (hG : GoodE E) (hL : GoodL L) (hl : L.length = n) : GoodE (putC n E L c) ∧ (putC n E L c).k ≤ E.k + 6 ∧ Inside (encSym E L (c % n).toNat) (putC n E L c) := by
  have hs : (c % n).toNat < L.length := by rw [hl]; exact sym_lt n1 c
  have g1 := encSym_good hG hL hs
  have k1 := encSym_k E L (c % n).toNat
  unfold putC
  split
  · have k2 := encBits_k (encSym E L (c % n).toNat) c (wide := 16) (by decide)
    exact ⟨encBits_good g1 (by decide), by omega, encBits_inside g1 (by decide)⟩
  · exact ⟨g1, by omega, Inside.refl _⟩
theorem putAll_good {n : Nat} {zs : List Int} (n1 : 1 ≤ n) (n2 : n ≤ 64) : ∀ j, GoodE (putAll n zs j).1 ∧ GoodL (putAll n zs j).2 ∧ (putAll n zs j).2.length = n ∧ (putAll n zs j).1.k ≤ 6 * j := by
  intro j
  induction j with
  | zero => exact ⟨goodE_new, goodL_ones n1 n2, by show (List.replicate n (1 : Int)).length = n; simp, by show (0 : Nat) ≤ _; omega⟩
  | succ j ih =>
    obtain ⟨a, b, c, d⟩ := ih
    rw [putAll_succ]
    obtain ⟨p, q, r⟩ := putC_good (c := zs.getD j 0) n1 a b c
    have hs : (zs.getD j 0 % n).toNat < (putAll n zs j).2.length := by rw [c]; exact sym_lt n1 _
    exact ⟨p, learnP_good b hs, (learnP_len _ _).trans c, by simp only; omega⟩
theorem putAll_step {n : Nat} {zs : List Int} (n1 : 1 ≤ n) (n2 : n ≤ 64) (j : Nat) : Inside (putAll n zs j).1 (putAll n zs (j + 1)).1 := by
  obtain ⟨a, b, c, d⟩ := putAll_good (zs := zs) n1 n2 j
  rw [putAll_succ]
  exact (encSym_inside a b (by rw [c]; exact sym_lt n1 _)).trans (putC_good n1 a b c).2.2
theorem putAll_inside {n : Nat} {zs : List Int} (n1 : 1 ≤ n) (n2 : n ≤ 64) (j d : Nat) : Inside (putAll n zs j).1 (putAll n zs (j + d)).1 := by
  induction d with
  | zero => exact Inside.refl _
  | succ d ih => exact ih.trans (putAll_step n1 n2 (j + d))
/-- All that was put, and five in four bits. -/
def putEnd (n : Nat) (zs : List Int) (len : Nat) : EncS := encBits (putAll n zs len).1 5 4
theorem putEnd_good {n : Nat} {zs : List Int} (n1 : 1 ≤ n) (n2 : n ≤ 64) (len : Nat) : GoodE (putEnd n zs len) ∧ (putEnd n zs len).k ≤ 6 * len + 4 ∧ 1 ≤ (putEnd n zs len).s ∧ Inside (putAll n zs len).1 (putEnd n zs len) ∧ 1 ≤ (putEnd n zs len).n := by
  obtain ⟨a, b, c, d⟩ := putAll_good (zs := zs) n1 n2 len
  have g := encBits_good (n := 5) a (show 4 ≤ 24 by decide)
  have k2 := encBits_k (putAll n zs len).1 5 (wide := 4) (by decide)
  refine ⟨g, by unfold putEnd; omega, by have := g.1; unfold putEnd; omega, encBits_inside a (by decide), ?_⟩
  unfold putEnd
  rw [encBits_low _ _ (show 0 < 4 by decide) (by decide)]
  have e5 : (5 : Int) % P2 4 = 5 := by decide
  have e16 : P2 4 = 16 := by decide
  rw [e5, e16]
  obtain ⟨_, h, _⟩ := scaleE_inside (encPre (putAll n zs len).1 5 1 16)
  have hp := P256_pos ((scaleE (encPre (putAll n zs len).1 5 1 16)).k - (encPre (putAll n zs len).1 5 1 16).k)
  unfold encPut
  rw [h]
  have : 1 ≤ (encPre (putAll n zs len).1 5 1 16).n := by
    show 1 ≤ (putAll n zs len).1.n + (putAll n zs len).1.s / 16 * 5
    have h1 := a.1
    have h2 := a.2.2.1
    omega
  have := Int.mul_le_mul this hp (by decide) (by omega)
  omega

/-! ### What comes back -/
/-- The bytes, and noughts and others behind. -/
theorem digOf_end {F : EncS} (hG : GoodE F) (m : Nat) (tail : List Int) (hm : (bytesL (digL F.n (F.k + 4))).length + m = F.k + 4) : DigOf (byteF (bytesL (digL F.n (F.k + 4)) ++ List.replicate m 0 ++ tail)) F := by
  refine digOf_bytes hG fun j hj => ?_
  have e : byteF (bytesL (digL F.n (F.k + 4))) j = digB F.n (F.k + 4) j := by
    rw [bytesL_get]; unfold byteF; exact digL_getD F.n hj
  rw [← e]
  generalize bytesL (digL F.n (F.k + 4)) = b at hm
  unfold byteF
  by_cases h1 : j < b.length
  · simp [List.getD, List.getElem?_append, h1]
  · have h2 : b.getD j 0 = 0 := by rw [List.getD, List.getElem?_eq_none (by omega)]; rfl
    rw [h2]
    have h3 : j - b.length < m := by omega
    have h4 : j < b.length + m := by omega
    simp [List.getD, List.getElem?_append, h1, h3]
theorem digOf_only {F : EncS} (hG : GoodE F) : DigOf (byteF (bytesL (digL F.n (F.k + 4)))) F := by
  refine digOf_bytes hG fun j hj => ?_
  rw [bytesL_get]; unfold byteF; exact digL_getD F.n hj
theorem bytesL_le (F : EncS) : (bytesL (digL F.n (F.k + 4))).length ≤ F.k + 4 := by
  have := lastK_bd (digL F.n (F.k + 4)) (digL F.n (F.k + 4)).length
  have hl := digL_len F.n (F.k + 4)
  rw [bytesL_len]; omega
theorem bytesL_some {F : EncS} (hG : GoodE F) (h1 : 1 ≤ F.n) : 0 < (bytesL (digL F.n (F.k + 4))).length := by
  rcases Nat.eq_zero_or_pos (bytesL (digL F.n (F.k + 4))).length with h | h
  · have hb := List.eq_nil_of_length_eq_zero h
    have hd := digOf_only hG (F.k + 4) (Nat.le_refl _)
    rw [hb, Nat.sub_self] at hd
    have hz : ∀ i, valB (byteF []) i = 0 := by
      intro i
      induction i with
      | zero => rfl
      | succ i ih => show valB (byteF []) i * 256 + byteF [] i = 0; rw [ih]; rfl
    rw [hz] at hd
    have e : P256 0 = 1 := rfl
    rw [e, Int.ediv_one] at hd
    omega
  · exact h
theorem bytesL_dig (F : EncS) : IsDig (bytesL (digL F.n (F.k + 4))) := by
  intro j hj
  have e := bytesL_get (digL F.n (F.k + 4)) j
  have hl := bytesL_le F
  unfold byteF at e
  rw [e, digL_getD F.n (by omega)]
  exact digB_bd _ _ _

/-- Where the decoder stands ahead of the j-th number: in step with the encoder. -/
def InStep (n : Nat) (zs : List Int) (b : List Int) (j : Nat) (D : DecS) : Prop := Sync (byteF b) (putAll n zs j).1 D
theorem step_i {n : Nat} {zs b : List Int} {j : Nat} {D : DecS} (n1 : 1 ≤ n) (n2 : n ≤ 64) (h : InStep n zs b j D) : D.i ≤ 6 * j + 4 := by
  have := (putAll_good (zs := zs) n1 n2 j).2.2.2
  have := h.2.1
  omega
theorem step_good {n : Nat} {zs b : List Int} {j len : Nat} {D : DecS} (n1 : 1 ≤ n) (n2 : n ≤ 64) (hj : j ≤ len) (h : InStep n zs b j D) (hd : DigOf (byteF b) (putEnd n zs len)) : GoodD D := by
  obtain ⟨a, _, _, _⟩ := putAll_good (zs := zs) n1 n2 j
  obtain ⟨_, _, p1, p2, _⟩ := putEnd_good (zs := zs) n1 n2 len
  have hi := putAll_inside (zs := zs) n1 n2 j (len - j)
  rw [show j + (len - j) = len by omega] at hi
  exact (sync_good h a (hi.trans p2) p1 hd).1
/-- A symbol comes back; and where bits were put, they too. -/
theorem step_back {n : Nat} {zs b : List Int} {j len : Nat} {D : DecS} (n1 : 1 ≤ n) (n2 : n ≤ 64) (hz : ∀ i, 0 ≤ zs.getD i 0 ∧ zs.getD i 0 ≤ 65535) (hj : j < len) (h : InStep n zs b j D) (hd : DigOf (byteF b) (putEnd n zs len)) :
    decWhich D (putAll n zs j).2 = (zs.getD j 0 % n).toNat ∧ (zs.getD j 0 % 3 ≠ 0 → InStep n zs b (j + 1) (decSym b D (putAll n zs j).2)) ∧
    (zs.getD j 0 % 3 = 0 → GoodD (decSym b D (putAll n zs j).2) ∧ (decBits b (decSym b D (putAll n zs j).2) 0 16).1 = zs.getD j 0 ∧ InStep n zs b (j + 1) (decBits b (decSym b D (putAll n zs j).2) 0 16).2) := by
  obtain ⟨a1, a2, a3, a4⟩ := putAll_good (zs := zs) n1 n2 j
  obtain ⟨_, _, p1, p2, _⟩ := putEnd_good (zs := zs) n1 n2 len
  have hi := putAll_inside (zs := zs) n1 n2 (j + 1) (len - (j + 1))
  rw [show j + 1 + (len - (j + 1)) = len by omega] at hi
  have hi2 := hi.trans p2
  have hs : (zs.getD j 0 % n).toNat < (putAll n zs j).2.length := by rw [a3]; exact sym_lt n1 _
  obtain ⟨c1, c2, c3⟩ := putC_good (c := zs.getD j 0) n1 a1 a2 a3
  rw [putAll_succ] at hi2
  simp only at hi2
  obtain ⟨s1, s2⟩ := sym_back h a1 a2 hs (c3.trans hi2) p1 hd
  have gs := encSym_good a1 a2 hs
  refine ⟨s1, fun h3 => ?_, fun h3 => ?_⟩
  · have e : putC n (putAll n zs j).1 (putAll n zs j).2 (zs.getD j 0) = encSym (putAll n zs j).1 (putAll n zs j).2 (zs.getD j 0 % n).toNat := by unfold putC; rw [if_neg h3]
    unfold InStep
    rw [putAll_succ, e]; exact s2
  · have e : putC n (putAll n zs j).1 (putAll n zs j).2 (zs.getD j 0) = encBits (encSym (putAll n zs j).1 (putAll n zs j).2 (zs.getD j 0 % n).toNat) (zs.getD j 0) 16 := by unfold putC; rw [if_pos h3]
    rw [e] at hi2
    obtain ⟨b1, b2⟩ := bits_back (wide := 16) s2 gs (by decide) (hz j).1 (by rw [P2_16]; have := (hz j).2; omega) hi2 p1 hd
    refine ⟨(sync_good s2 gs (c3.trans (by rw [e]; exact hi2)) p1 hd).1, b1, ?_⟩
    unfold InStep
    rw [putAll_succ, e]; exact b2
/-- At the end five comes. -/
theorem step_end {n : Nat} {zs b : List Int} {len : Nat} {D : DecS} (n1 : 1 ≤ n) (n2 : n ≤ 64) (h : InStep n zs b len D) (hd : DigOf (byteF b) (putEnd n zs len)) : (decBits b D 0 4).1 = 5 := by
  obtain ⟨a1, a2, a3, a4⟩ := putAll_good (zs := zs) n1 n2 len
  obtain ⟨_, _, p1, p2, _⟩ := putEnd_good (zs := zs) n1 n2 len
  exact (bits_back (wide := 4) h a1 (by decide) (by decide) (by decide) (Inside.refl (putEnd n zs len)) p1 hd).1
theorem step_first (n : Nat) (zs b : List Int) : InStep n zs b 0 (decNew (byteF b)) := sync_new _
end Go.Proofs.YtkhhhejmbgloeaaGreat

/- Plain facts of layer 10: how ceilings are put and got. Nothing here speaks of the program. -/
namespace Go.Proofs.YtkhhhejmbgloeaaGreat
open Go Go.RowKit
set_option linter.unusedVariables false

/-! ### The model of differences -/
def difL : List Int := [3000, 1500, 500, 10, 10, 10, 10, 10, 10, 10, 10, 10, 10, 10, 10, 10, 10, 10, 10, 10, 10, 10, 10, 10, 10, 10, 10, 10, 10, 10, 500, 1500]
theorem difL_good : GoodL difL := by unfold GoodL; decide
theorem difL_len : difL.length = 32 := rfl
theorem difL_bd : ∀ j, j < 32 → 0 ≤ difL.getD j 0 ∧ difL.getD j 0 ≤ 4294967295 := by decide
theorem difL_one : ∀ j, j < 32 → 1 ≤ difL.getD j 0 := by decide
theorem difL_sum : sumN difL 32 = 7270 := by decide

/-! ### Putting -/
/-- One ceiling put: by itself (q), or by the one ahead. -/
def putW (q : Bool) (e : EncS) (a d : Int) : EncS := if q then encBits e a 5 else encSym e difL ((a - d) % 32).toNat
theorem putW_alone (e : EncS) (a d : Int) : putW true e a d = encBits e a 5 := if_pos rfl
theorem putW_diff (e : EncS) (a d : Int) : putW false e a d = encSym e difL ((a - d) % 32).toNat := if_neg (by decide)
def putN (q : Bool) (e : EncS) (f d : Nat → Int) : Nat → EncS
  | 0 => e
  | n + 1 => putW q (putN q e f d n) (f n) (d n)
theorem putN_succ (q : Bool) (e : EncS) (f d : Nat → Int) (n : Nat) : putN q e f d (n + 1) = putW q (putN q e f d n) (f n) (d n) := rfl
theorem dif_lt (x : Int) : (x % 32).toNat < difL.length := by rw [difL_len]; omega
theorem putW_good {q : Bool} {e : EncS} {a d : Int} (h : GoodE e) : GoodE (putW q e a d) ∧ (putW q e a d).k ≤ e.k + 4 ∧ Inside e (putW q e a d) := by
  cases q with
  | true =>
    rw [putW_alone]
    exact ⟨encBits_good (n := a) (wide := 5) h (by decide), encBits_k e a (wide := 5) (by decide), encBits_inside (n := a) (wide := 5) h (by decide)⟩
  | false =>
    rw [putW_diff]
    have := encSym_k e difL ((a - d) % 32).toNat
    exact ⟨encSym_good h difL_good (dif_lt _), by omega, encSym_inside h difL_good (dif_lt _)⟩
theorem putN_good {q : Bool} {e : EncS} {f d : Nat → Int} (h : GoodE e) : ∀ n, GoodE (putN q e f d n) ∧ (putN q e f d n).k ≤ e.k + 4 * n ∧ Inside e (putN q e f d n) := by
  intro n
  induction n with
  | zero => exact ⟨h, Nat.le_refl _, Inside.refl e⟩
  | succ n ih =>
    obtain ⟨h1, h2, h3⟩ := ih
    obtain ⟨g1, g2, g3⟩ := putW_good (q := q) (a := f n) (d := d n) h1
    rw [putN_succ]
    exact ⟨g1, by omega, h3.trans g3⟩
theorem putN_inside {q : Bool} {e : EncS} {f d : Nat → Int} (h : GoodE e) (j n : Nat) : Inside (putN q e f d j) (putN q e f d (j + n)) := by
  induction n with
  | zero => exact Inside.refl _
  | succ n ih => exact ih.trans (putW_good (putN_good h (j + n)).1).2.2
theorem putN_ext {q : Bool} {e : EncS} {f g d d' : Nat → Int} : ∀ n, (∀ i, i < n → f i = g i ∧ d i = d' i) → putN q e f d n = putN q e g d' n := by
  intro n
  induction n with
  | zero => intro _; rfl
  | succ n ih => intro h; rw [putN_succ, putN_succ, ih fun i hi => h i (by omega), (h n (by omega)).1, (h n (by omega)).2]

/-! ### Getting -/
def getW (q : Bool) (b : List Int) (D : DecS) (d : Int) : Int × DecS := if q then decBits b D 0 5 else ((d + decWhich D difL) % 32, decSym b D difL)
theorem getW_alone (b : List Int) (D : DecS) (d : Int) : getW true b D d = decBits b D 0 5 := if_pos rfl
theorem getW_diff (b : List Int) (D : DecS) (d : Int) : getW false b D d = ((d + decWhich D difL) % 32, decSym b D difL) := if_neg (by decide)
def getN (q : Bool) (b : List Int) (D : DecS) (d : Nat → Int) : Nat → DecS
  | 0 => D
  | n + 1 => (getW q b (getN q b D d n) (d n)).2
theorem getN_succ (q : Bool) (b : List Int) (D : DecS) (d : Nat → Int) (n : Nat) : getN q b D d (n + 1) = (getW q b (getN q b D d n) (d n)).2 := rfl
/-- What is got. -/
def getV (q : Bool) (b : List Int) (D : DecS) (d : Nat → Int) (n : Nat) : Int := (getW q b (getN q b D d n) (d n)).1
theorem decBits5 (b : List Int) (D : DecS) : decBits b D 0 5 = (decAt D 32, decTake (byteF b) D (decAt D 32) 1 32) := by
  rw [decBits_low b D 0 (by decide) (by decide), show P2 5 = 32 by decide]; simp
theorem getW_good {q : Bool} {b : List Int} {D : DecS} {d : Int} (hb : ∀ j, 0 ≤ byteF b j ∧ byteF b j ≤ 255) (h : GoodD D) : GoodD (getW q b D d).2 ∧ (getW q b D d).2.i ≤ D.i + 2 ∧ 0 ≤ (getW q b D d).1 ∧ (getW q b D d).1 ≤ 31 := by
  cases q with
  | true =>
    rw [getW_alone, decBits5]
    obtain ⟨a1, a2, a3⟩ := decAt_bd (all := 32) h (by decide) (by decide)
    exact ⟨(decTake_good hb h ⟨by decide, by decide, by decide, a1, by omega⟩ a3).1, decTake_i _ _ _ _ _, a1, by show decAt D 32 ≤ 31; omega⟩
  | false =>
    rw [getW_diff]
    obtain ⟨a1, a2, a3, a4⟩ := decWhich_is h difL_good
    exact ⟨(decTake_good hb h (okP_sym difL_good a1) a2).1, decTake_i _ _ _ _ _, by show 0 ≤ (d + decWhich D difL) % 32; omega, by show (d + decWhich D difL) % 32 ≤ 31; omega⟩
theorem getN_good {q : Bool} {b : List Int} {D : DecS} {d : Nat → Int} (hb : ∀ j, 0 ≤ byteF b j ∧ byteF b j ≤ 255) (h : GoodD D) : ∀ n, GoodD (getN q b D d n) ∧ (getN q b D d n).i ≤ D.i + 2 * n := by
  intro n
  induction n with
  | zero => exact ⟨h, Nat.le_refl _⟩
  | succ n ih =>
    obtain ⟨g1, g2, _⟩ := getW_good (q := q) (d := d n) hb ih.1
    rw [getN_succ]
    exact ⟨g1, by omega⟩
theorem getV_bd {q : Bool} {b : List Int} {D : DecS} {d : Nat → Int} (hb : ∀ j, 0 ≤ byteF b j ∧ byteF b j ≤ 255) (h : GoodD D) (n : Nat) : 0 ≤ getV q b D d n ∧ getV q b D d n ≤ 31 := (getW_good hb (getN_good hb h n).1).2.2
theorem getN_ext {q : Bool} {b : List Int} {D : DecS} {d d' : Nat → Int} : ∀ n, (∀ i, i < n → d i = d' i) → getN q b D d n = getN q b D d' n := by
  intro n
  induction n with
  | zero => intro _; rfl
  | succ n ih => intro h; rw [getN_succ, getN_succ, ih fun i hi => h i (by omega), h n (by omega)]
theorem getV_ext {q : Bool} {b : List Int} {D : DecS} {d d' : Nat → Int} {n : Nat} (h : ∀ i, i < n + 1 → d i = d' i) : getV q b D d n = getV q b D d' n := by
  unfold getV; rw [getN_ext n fun i hi => h i (by omega), h n (by omega)]

/-! ### What is put is got -/
theorem one_back {q : Bool} {b : List Int} {e F : EncS} {D : DecS} {a d : Int} (hs : Sync (byteF b) e D) (hg : GoodE e) (a0 : 0 ≤ a) (a1 : a ≤ 31) (hi : Inside (putW q e a d) F) (hf : 1 ≤ F.s) (hd : DigOf (byteF b) F) :
    (getW q b D d).1 = a ∧ Sync (byteF b) (putW q e a d) (getW q b D d).2 := by
  cases q with
  | true =>
    rw [putW_alone] at hi ⊢
    rw [getW_alone]
    exact bits_back (wide := 5) hs hg (by decide) a0 (by rw [show P2 5 = 32 by decide]; omega) hi hf hd
  | false =>
    rw [putW_diff] at hi ⊢
    rw [getW_diff]
    obtain ⟨h1, h2⟩ := sym_back hs hg difL_good (dif_lt (a - d)) hi hf hd
    refine ⟨?_, h2⟩
    simp only
    rw [h1]; omega
theorem put_back {q : Bool} {b : List Int} {e F : EncS} {D : DecS} {f d : Nat → Int} {n : Nat} (hs : Sync (byteF b) e D) (hg : GoodE e) (hb : ∀ j, j < n → 0 ≤ f j ∧ f j ≤ 31) (hi : Inside (putN q e f d n) F) (hf : 1 ≤ F.s) (hd : DigOf (byteF b) F) :
    ∀ j, j ≤ n → Sync (byteF b) (putN q e f d j) (getN q b D d j) ∧ ∀ i, i < j → getV q b D d i = f i := by
  intro j
  induction j with
  | zero => intro _; exact ⟨hs, fun i hi => by omega⟩
  | succ j ih =>
    intro hj
    obtain ⟨h1, h2⟩ := ih (by omega)
    have hin := putN_inside (q := q) (f := f) (d := d) hg (j + 1) (n - (j + 1))
    rw [show j + 1 + (n - (j + 1)) = n by omega, putN_succ] at hin
    obtain ⟨h3, h4⟩ := one_back h1 (putN_good hg j).1 (hb j (by omega)).1 (hb j (by omega)).2 (hin.trans hi) hf hd
    refine ⟨by rw [putN_succ, getN_succ]; exact h4, fun i hi => ?_⟩
    by_cases e : i = j
    · rw [e]; exact h3
    · exact h2 i (by omega)
end Go.Proofs.YtkhhhejmbgloeaaGreat

/- Plain facts of layer 11: thresholds, steps, which bands are told, how far lines may be. Nothing here speaks of the program. -/
namespace Go.Proofs.YtkhhhejmbgloeaaGreat
open Go Go.RowKit
set_option linter.unusedVariables false

/-! ### Thresholds -/
/-- How many bits band j masks less in band b than in itself. -/
def fadeF (j b : Nat) : Int := if j < b then 2 * ((b : Int) - j) else 3 * ((j : Int) - b)
theorem fadeF_same (b : Nat) : fadeF b b = 0 := by unfold fadeF; rw [if_neg (by omega)]; omega
theorem fadeF_below {j b : Nat} (h : j < b) : fadeF j b = 2 * ((b : Int) - j) := if_pos h
theorem fadeF_above {j b : Nat} (h : ¬ j < b) : fadeF j b = 3 * ((j : Int) - b) := if_neg h
theorem fadeF_bd {j b : Nat} (hj : j < 21) (hb : b < 21) : 0 ≤ fadeF j b ∧ fadeF j b ≤ 60 := by unfold fadeF; split <;> omega
/-- The greatest of nought and what the first n bands mask in band b. -/
def thrTo (l : Nat → Int) (b : Nat) : Nat → Int
  | 0 => 0
  | n + 1 => max (thrTo l b n) (l n - fadeF n b)
theorem thrTo_succ (l : Nat → Int) (b n : Nat) : thrTo l b (n + 1) = max (thrTo l b n) (l n - fadeF n b) := rfl
theorem thrTo_bd {l : Nat → Int} {b : Nat} (hb : b < 21) : ∀ n, n ≤ 21 → (∀ j, j < n → 0 ≤ l j ∧ l j ≤ 26) → 0 ≤ thrTo l b n ∧ thrTo l b n ≤ 26 := by
  intro n
  induction n with
  | zero => intro _ _; exact ⟨Int.le_refl 0, by show (0 : Int) ≤ 26; decide⟩
  | succ n ih =>
    intro hn h
    have h1 := ih (by omega) fun j hj => h j (by omega)
    have h2 := h n (by omega)
    have h3 := fadeF_bd (j := n) (by omega) hb
    rw [thrTo_succ]; omega
theorem thrTo_ge {l : Nat → Int} {b : Nat} : ∀ n j, j < n → l j - fadeF j b ≤ thrTo l b n := by
  intro n
  induction n with
  | zero => intro j hj; omega
  | succ n ih =>
    intro j hj
    rw [thrTo_succ]
    by_cases e : j = n
    · subst e; omega
    · have := ih j (by omega); omega
theorem thrTo_own {l : Nat → Int} {b : Nat} (hb : b < 21) : l b ≤ thrTo l b 21 := by
  have := thrTo_ge (l := l) (b := b) 21 b hb
  rw [fadeF_same] at this; omega
theorem thrTo_ext {l m : Nat → Int} {b : Nat} : ∀ n, (∀ j, j < n → l j = m j) → thrTo l b n = thrTo m b n := by
  intro n
  induction n with
  | zero => intro _; rfl
  | succ n ih => intro h; rw [thrTo_succ, thrTo_succ, ih fun j hj => h j (by omega), h n (by omega)]

/-! ### Steps -/
/-- A band's step. -/
def stepF (l : Nat → Int) (q x : Int) (b : Nat) : Int := min (max (max (thrTo l b 21 - q + x) (l b - 12)) 0) (l b)
theorem stepF_bd {l : Nat → Int} (q x : Int) {b : Nat} (h : 0 ≤ l b) : 0 ≤ stepF l q x b ∧ stepF l q x b ≤ l b ∧ l b - 12 ≤ stepF l q x b := by unfold stepF; omega
theorem stepF_quality (l : Nat → Int) (q x : Int) (b : Nat) : stepF l (q + 1) x b ≤ stepF l q x b := by unfold stepF; omega
theorem stepF_loss (l : Nat → Int) (q x : Int) (b : Nat) : stepF l q x b ≤ stepF l q (x + 1) b := by unfold stepF; omega
theorem stepF_worst {l : Nat → Int} {q : Int} {b : Nat} (h : 0 ≤ l b) (hb : b < 21) (hq : q ≤ 10) : stepF l q 31 b = l b := by
  have := thrTo_own (l := l) hb
  unfold stepF; omega
theorem stepF_ext {l m : Nat → Int} (q x : Int) {b : Nat} (hb : b < 21) (h : ∀ j, j < 21 → l j = m j) : stepF l q x b = stepF m q x b := by
  unfold stepF; rw [thrTo_ext 21 h, h b hb]
theorem steps_right {l : Nat → Int} (q x : Int) (h : ∀ j, j < 21 → 0 ≤ l j ∧ l j ≤ 26) : rightB (tabF 21 (stepF l q x)) = true := rightB_of (tabF_len _ _) fun j hj => by
  rw [tabF_getD _ hj]
  have h1 := h j hj
  have h2 := stepF_bd (l := l) q x h1.1
  omega

/-! ### How far lines may be -/
/-- How far one line may be. -/
def oneF (n s : Int) : Int := if s < n then 2 ^ s.toNat else 2 ^ (n.toNat + 1)
theorem oneF_told {n s : Int} (h : s < n) : oneF n s = 2 ^ s.toNat := if_pos h
theorem oneF_not {n s : Int} (h : ¬ s < n) : oneF n s = 2 ^ (n.toNat + 1) := if_neg h
theorem pow_bd27 {k : Nat} (h : k ≤ 27) : (1 : Int) ≤ 2 ^ k ∧ (2 : Int) ^ k ≤ 134217728 := by
  constructor
  · exact Int.le_of_lt_add_one (by have := Int.pow_pos (n := 2) (m := k) (by decide); omega)
  · have h1 : (2 : Nat) ^ k ≤ 2 ^ 27 := Nat.pow_le_pow_right (by decide) h
    have h2 : ((2 ^ k : Nat) : Int) = (2 : Int) ^ k := by rw [Int.natCast_pow]; rfl
    have h3 : (2 : Nat) ^ 27 = 134217728 := by decide
    omega
theorem oneF_bd {n s : Int} (hn : n ≤ 26) (hs : s ≤ 26) : 1 ≤ oneF n s ∧ oneF n s ≤ 134217728 := by
  unfold oneF; split
  · exact pow_bd27 (by omega)
  · exact pow_bd27 (by omega)
/-- The first n bands' lines. -/
def reachTo (l s : Nat → Int) : Nat → Int
  | 0 => 0
  | n + 1 => reachTo l s n + ((edgeK (n + 1) : Int) - edgeK n) * oneF (l n) (s n)
theorem reachTo_succ (l s : Nat → Int) (n : Nat) : reachTo l s (n + 1) = reachTo l s n + ((edgeK (n + 1) : Int) - edgeK n) * oneF (l n) (s n) := rfl
theorem reachTo_bd {l s : Nat → Int} : ∀ n, n ≤ 21 → (∀ j, j < n → l j ≤ 26 ∧ s j ≤ 26) → 0 ≤ reachTo l s n ∧ reachTo l s n ≤ 68719476736 * n := by
  intro n
  induction n with
  | zero => intro _ _; exact ⟨Int.le_refl 0, by show (0 : Int) ≤ _; decide⟩
  | succ n ih =>
    intro hn h
    have h1 := ih (by omega) fun j hj => h j (by omega)
    have h2 := h n (by omega)
    obtain ⟨e1, e2⟩ := edgeK_lt n (by omega)
    obtain ⟨o1, o2⟩ := oneF_bd (n := l n) (s := s n) h2.1 h2.2
    rw [reachTo_succ]
    generalize oneF (l n) (s n) = y at o1 o2
    have m1 : ((edgeK (n + 1) : Int) - edgeK n) * y ≤ 512 * 134217728 := Int.mul_le_mul (by omega) o2 (by omega) (by decide)
    have m0 : 0 ≤ ((edgeK (n + 1) : Int) - edgeK n) * y := Int.mul_nonneg (by omega) (by omega)
    omega
theorem reachTo_ext {l s l' s' : Nat → Int} : ∀ n, (∀ j, j < n → l j = l' j ∧ s j = s' j) → reachTo l s n = reachTo l' s' n := by
  intro n
  induction n with
  | zero => intro _; rfl
  | succ n ih => intro h; rw [reachTo_succ, reachTo_succ, ih fun j hj => h j (by omega), (h n (by omega)).1, (h n (by omega)).2]
end Go.Proofs.YtkhhhejmbgloeaaGreat
