/- Plain facts for RangedecAgain: what is put, symbol by symbol, and that it comes back. Nothing here speaks of the program. -/
import Derived.Test.YtgnmnmjicjcffaaRngA
import Derived.Test.YtgnmnmjicjcffaaRngH
import Derived.Test.YtgnmnmjicjcffaaRdcR
namespace Go.Proofs.Ytgnmnmjicjcffaa
open Go
set_option linter.unusedVariables false

/-- One number's symbol, and its bits where it is divisible by three. -/
def putC (n : Nat) (E : EncS) (L : List Int) (c : Int) : EncS := if c % 3 = 0 then encBits (encSym E L (c % n).toNat) c 16 else encSym E L (c % n).toNat
def putAll (n : Nat) (zs : List Int) : Nat → EncS × List Int
  | 0 => (encNew, List.replicate n 1)
  | j + 1 => (putC n (putAll n zs j).1 (putAll n zs j).2 (zs.getD j 0), learnP (putAll n zs j).2 (zs.getD j 0 % n).toNat)
theorem putAll_succ (n : Nat) (zs : List Int) (j : Nat) : putAll n zs (j + 1) = (putC n (putAll n zs j).1 (putAll n zs j).2 (zs.getD j 0), learnP (putAll n zs j).2 (zs.getD j 0 % n).toNat) := rfl
theorem P2_16 : P2 16 = 65536 := by decide
theorem sym_lt {n : Nat} (n1 : 1 ≤ n) (c : Int) : (c % n).toNat < n := by
  have := Int.emod_lt_of_pos c (b := (n : Int)) (by omega)
  omega
theorem putC_good {n : Nat} {E : EncS} {L : List Int} {c : Int} (n1 : 1 ≤ n) (hG : GoodE E) (hL : GoodL L) (hl : L.length = n) : GoodE (putC n E L c) ∧ (putC n E L c).k ≤ E.k + 6 ∧ Inside (encSym E L (c % n).toNat) (putC n E L c) := by
  have hs : (c % n).toNat < L.length := by rw [hl]; exact sym_lt n1 c
  have g1 := encSym_good hG hL hs
  have k1 := encSym_k E L (c % n).toNat
  unfold putC
  split
  · have k2 := encBits_k (encSym E L (c % n).toNat) c (wide := 16) (by decide)
    exact ⟨encBits_good g1 (by decide), by omega, encBits_inside g1 (by decide)⟩
  · exact ⟨g1, by omega, Inside.refl _⟩
theorem putAll_good {n : Nat} {zs : List Int} (n1 : 1 ≤ n) (n2 : n ≤ 64) : ∀ j, GoodE (putAll n zs j).1 ∧ GoodL (putAll n zs j).2 ∧ (putAll n zs j).2.length = n ∧ (putAll n zs j).1.k ≤ 6 * j := by
  intro j
  induction j with
  | zero => exact ⟨goodE_new, goodL_ones n1 n2, by show (List.replicate n (1 : Int)).length = n; simp, by show (0 : Nat) ≤ _; omega⟩
  | succ j ih =>
    obtain ⟨a, b, c, d⟩ := ih
    rw [putAll_succ]
    obtain ⟨p, q, r⟩ := putC_good (c := zs.getD j 0) n1 a b c
    have hs : (zs.getD j 0 % n).toNat < (putAll n zs j).2.length := by rw [c]; exact sym_lt n1 _
    exact ⟨p, learnP_good b hs, (learnP_len _ _).trans c, by simp only; omega⟩
theorem putAll_step {n : Nat} {zs : List Int} (n1 : 1 ≤ n) (n2 : n ≤ 64) (j : Nat) : Inside (putAll n zs j).1 (putAll n zs (j + 1)).1 := by
  obtain ⟨a, b, c, d⟩ := putAll_good (zs := zs) n1 n2 j
  rw [putAll_succ]
  exact (encSym_inside a b (by rw [c]; exact sym_lt n1 _)).trans (putC_good n1 a b c).2.2
theorem putAll_inside {n : Nat} {zs : List Int} (n1 : 1 ≤ n) (n2 : n ≤ 64) (j d : Nat) : Inside (putAll n zs j).1 (putAll n zs (j + d)).1 := by
  induction d with
  | zero => exact Inside.refl _
  | succ d ih => exact ih.trans (putAll_step n1 n2 (j + d))
/-- All that was put, and five in four bits. -/
def putEnd (n : Nat) (zs : List Int) (len : Nat) : EncS := encBits (putAll n zs len).1 5 4
theorem putEnd_good {n : Nat} {zs : List Int} (n1 : 1 ≤ n) (n2 : n ≤ 64) (len : Nat) : GoodE (putEnd n zs len) ∧ (putEnd n zs len).k ≤ 6 * len + 4 ∧ 1 ≤ (putEnd n zs len).s ∧ Inside (putAll n zs len).1 (putEnd n zs len) ∧ 1 ≤ (putEnd n zs len).n := by
  obtain ⟨a, b, c, d⟩ := putAll_good (zs := zs) n1 n2 len
  have g := encBits_good (n := 5) a (show 4 ≤ 24 by decide)
  have k2 := encBits_k (putAll n zs len).1 5 (wide := 4) (by decide)
  refine ⟨g, by unfold putEnd; omega, by have := g.1; unfold putEnd; omega, encBits_inside a (by decide), ?_⟩
  unfold putEnd
  rw [encBits_low _ _ (show 0 < 4 by decide) (by decide)]
  have e5 : (5 : Int) % P2 4 = 5 := by decide
  have e16 : P2 4 = 16 := by decide
  rw [e5, e16]
  obtain ⟨_, h, _⟩ := scaleE_inside (encPre (putAll n zs len).1 5 1 16)
  have hp := P256_pos ((scaleE (encPre (putAll n zs len).1 5 1 16)).k - (encPre (putAll n zs len).1 5 1 16).k)
  unfold encPut
  rw [h]
  have : 1 ≤ (encPre (putAll n zs len).1 5 1 16).n := by
    show 1 ≤ (putAll n zs len).1.n + (putAll n zs len).1.s / 16 * 5
    have h1 := a.1
    have h2 := a.2.2.1
    omega
  have := Int.mul_le_mul this hp (by decide) (by omega)
  omega

/-! ### What comes back -/
/-- The bytes, and noughts and others behind. -/
theorem digOf_end {F : EncS} (hG : GoodE F) (m : Nat) (tail : List Int) (hm : (bytesL (digL F.n (F.k + 4))).length + m = F.k + 4) : DigOf (byteF (bytesL (digL F.n (F.k + 4)) ++ List.replicate m 0 ++ tail)) F := by
  refine digOf_bytes hG fun j hj => ?_
  have e : byteF (bytesL (digL F.n (F.k + 4))) j = digB F.n (F.k + 4) j := by
    rw [bytesL_get]; unfold byteF; exact digL_getD F.n hj
  rw [← e]
  generalize bytesL (digL F.n (F.k + 4)) = b at hm
  unfold byteF
  by_cases h1 : j < b.length
  · simp [List.getD, List.getElem?_append, h1]
  · have h2 : b.getD j 0 = 0 := by rw [List.getD, List.getElem?_eq_none (by omega)]; rfl
    rw [h2]
    have h3 : j - b.length < m := by omega
    have h4 : j < b.length + m := by omega
    simp [List.getD, List.getElem?_append, h1, h3]
theorem digOf_only {F : EncS} (hG : GoodE F) : DigOf (byteF (bytesL (digL F.n (F.k + 4)))) F := by
  refine digOf_bytes hG fun j hj => ?_
  rw [bytesL_get]; unfold byteF; exact digL_getD F.n hj
theorem bytesL_le (F : EncS) : (bytesL (digL F.n (F.k + 4))).length ≤ F.k + 4 := by
  have := lastK_bd (digL F.n (F.k + 4)) (digL F.n (F.k + 4)).length
  have hl := digL_len F.n (F.k + 4)
  rw [bytesL_len]; omega
theorem bytesL_some {F : EncS} (hG : GoodE F) (h1 : 1 ≤ F.n) : 0 < (bytesL (digL F.n (F.k + 4))).length := by
  rcases Nat.eq_zero_or_pos (bytesL (digL F.n (F.k + 4))).length with h | h
  · have hb := List.eq_nil_of_length_eq_zero h
    have hd := digOf_only hG (F.k + 4) (Nat.le_refl _)
    rw [hb, Nat.sub_self] at hd
    have hz : ∀ i, valB (byteF []) i = 0 := by
      intro i
      induction i with
      | zero => rfl
      | succ i ih => show valB (byteF []) i * 256 + byteF [] i = 0; rw [ih]; rfl
    rw [hz] at hd
    have e : P256 0 = 1 := rfl
    rw [e, Int.ediv_one] at hd
    omega
  · exact h
theorem bytesL_dig (F : EncS) : IsDig (bytesL (digL F.n (F.k + 4))) := by
  intro j hj
  have e := bytesL_get (digL F.n (F.k + 4)) j
  have hl := bytesL_le F
  unfold byteF at e
  rw [e, digL_getD F.n (by omega)]
  exact digB_bd _ _ _

/-- Where the decoder stands ahead of the j-th number: in step with the encoder. -/
def InStep (n : Nat) (zs : List Int) (b : List Int) (j : Nat) (D : DecS) : Prop := Sync (byteF b) (putAll n zs j).1 D
theorem step_i {n : Nat} {zs b : List Int} {j : Nat} {D : DecS} (n1 : 1 ≤ n) (n2 : n ≤ 64) (h : InStep n zs b j D) : D.i ≤ 6 * j + 4 := by
  have := (putAll_good (zs := zs) n1 n2 j).2.2.2
  have := h.2.1
  omega
theorem step_good {n : Nat} {zs b : List Int} {j len : Nat} {D : DecS} (n1 : 1 ≤ n) (n2 : n ≤ 64) (hj : j ≤ len) (h : InStep n zs b j D) (hd : DigOf (byteF b) (putEnd n zs len)) : GoodD D := by
  obtain ⟨a, _, _, _⟩ := putAll_good (zs := zs) n1 n2 j
  obtain ⟨_, _, p1, p2, _⟩ := putEnd_good (zs := zs) n1 n2 len
  have hi := putAll_inside (zs := zs) n1 n2 j (len - j)
  rw [show j + (len - j) = len by omega] at hi
  exact (sync_good h a (hi.trans p2) p1 hd).1
/-- A symbol comes back; and where bits were put, they too. -/
theorem step_back {n : Nat} {zs b : List Int} {j len : Nat} {D : DecS} (n1 : 1 ≤ n) (n2 : n ≤ 64) (hz : ∀ i, 0 ≤ zs.getD i 0 ∧ zs.getD i 0 ≤ 65535) (hj : j < len) (h : InStep n zs b j D) (hd : DigOf (byteF b) (putEnd n zs len)) :
    decWhich D (putAll n zs j).2 = (zs.getD j 0 % n).toNat ∧ (zs.getD j 0 % 3 ≠ 0 → InStep n zs b (j + 1) (decSym b D (putAll n zs j).2)) ∧
    (zs.getD j 0 % 3 = 0 → GoodD (decSym b D (putAll n zs j).2) ∧ (decBits b (decSym b D (putAll n zs j).2) 0 16).1 = zs.getD j 0 ∧ InStep n zs b (j + 1) (decBits b (decSym b D (putAll n zs j).2) 0 16).2) := by
  obtain ⟨a1, a2, a3, a4⟩ := putAll_good (zs := zs) n1 n2 j
  obtain ⟨_, _, p1, p2, _⟩ := putEnd_good (zs := zs) n1 n2 len
  have hi := putAll_inside (zs := zs) n1 n2 (j + 1) (len - (j + 1))
  rw [show j + 1 + (len - (j + 1)) = len by omega] at hi
  have hi2 := hi.trans p2
  have hs : (zs.getD j 0 % n).toNat < (putAll n zs j).2.length := by rw [a3]; exact sym_lt n1 _
  obtain ⟨c1, c2, c3⟩ := putC_good (c := zs.getD j 0) n1 a1 a2 a3
  rw [putAll_succ] at hi2
  simp only at hi2
  obtain ⟨s1, s2⟩ := sym_back h a1 a2 hs (c3.trans hi2) p1 hd
  have gs := encSym_good a1 a2 hs
  refine ⟨s1, fun h3 => ?_, fun h3 => ?_⟩
  · have e : putC n (putAll n zs j).1 (putAll n zs j).2 (zs.getD j 0) = encSym (putAll n zs j).1 (putAll n zs j).2 (zs.getD j 0 % n).toNat := by unfold putC; rw [if_neg h3]
    unfold InStep
    rw [putAll_succ, e]; exact s2
  · have e : putC n (putAll n zs j).1 (putAll n zs j).2 (zs.getD j 0) = encBits (encSym (putAll n zs j).1 (putAll n zs j).2 (zs.getD j 0 % n).toNat) (zs.getD j 0) 16 := by unfold putC; rw [if_pos h3]
    rw [e] at hi2
    obtain ⟨b1, b2⟩ := bits_back (wide := 16) s2 gs (by decide) (hz j).1 (by rw [P2_16]; have := (hz j).2; omega) hi2 p1 hd
    refine ⟨(sync_good s2 gs (c3.trans (by rw [e]; exact hi2)) p1 hd).1, b1, ?_⟩
    unfold InStep
    rw [putAll_succ, e]; exact b2
/-- At the end five comes. -/
theorem step_end {n : Nat} {zs b : List Int} {len : Nat} {D : DecS} (n1 : 1 ≤ n) (n2 : n ≤ 64) (h : InStep n zs b len D) (hd : DigOf (byteF b) (putEnd n zs len)) : (decBits b D 0 4).1 = 5 := by
  obtain ⟨a1, a2, a3, a4⟩ := putAll_good (zs := zs) n1 n2 len
  obtain ⟨_, _, p1, p2, _⟩ := putEnd_good (zs := zs) n1 n2 len
  exact (bits_back (wide := 4) h a1 (by decide) (by decide) (by decide) (Inside.refl (putEnd n zs len)) p1 hd).1
theorem step_first (n : Nat) (zs b : List Int) : InStep n zs b 0 (decNew (byteF b)) := sync_new _
end Go.Proofs.Ytgnmnmjicjcffaa
