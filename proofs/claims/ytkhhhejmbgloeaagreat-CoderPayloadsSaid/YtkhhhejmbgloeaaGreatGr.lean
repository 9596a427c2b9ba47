/- Plain facts, and what functions give, for the proofs of this seat: several texts in one, each with its own first remark. -/
import Derived.Test.YtkhhhejmbgloeaaGreatGq
import Derived.Test.YtkhhhejmbgloeaaGreatGl
import Derived.Test.YtkhhhejmbgloeaaGreatGc

/- What comes of a stream's frames, in numbers: shaped, as lines, as sound, as samples; and that what goes there and back is what it was, but for a little. -/
namespace Go.Proofs.YtkhhhejmbgloeaaGreat
open Go
set_option linter.unusedVariables false

/-! ### Cosines that are less than one -/
theorem cosN_one : cosN 1 ≤ 16777200 := by decide +kernel
theorem cosN_less : ∀ {n : Nat}, 1 ≤ n → n ≤ 1024 → cosN n ≤ 16777200
  | 0, h, _ => by omega
  | 1, _, _ => cosN_one
  | n + 2, _, h => by
    have h1 := cosN_less (n := n + 1) (by omega) (by omega)
    have h2 := cosN_falls (i := n + 1) (by omega)
    have : cosN (n + 2) < cosN (n + 1) := h2
    omega
theorem cosP_less {a : Int} (h : a % 2048 ≠ 0) : (cosP a).natAbs ≤ 16777200 := by
  rw [cosP_q]
  rcases circle_at a with ⟨n, e, l⟩ | ⟨n, e, l⟩ | ⟨n, e, l0, l⟩ | ⟨n, e, l0, l⟩
  · rw [cosQ_in e l]; have h1 := cosN_bd l; have h2 := cosN_less (n := n) (by omega) l; omega
  · rw [cosQ_2 e l]; have h1 := cosN_bd (i := n) (by omega); have h2 := cosN_less (n := n) (by omega) (by omega); omega
  · rw [cosQ_3 e l0 l]; have h1 := cosN_bd (i := n) (by omega); have h2 := cosN_less (n := n) (by omega) (by omega); omega
  · rw [cosQ_4 e l0 l]; have h1 := cosN_bd l; have h2 := cosN_less (n := n) (by omega) l; omega
theorem cosA_less {n : Nat} (hn : n = 128 ∨ n = 512) (j k : Nat) : (cosA n j k).natAbs ≤ 16777200 := by
  unfold cosA
  refine cosP_less ?_
  obtain ⟨q, hq⟩ := odd_odd j k
  rw [hq]
  rcases hn with rfl | rfl
  · rw [show 512 / 128 = 4 by decide]; omega
  · rw [show 512 / 512 = 1 by decide]; omega
theorem dotF_less {n B : Nat} (hn : n = 128 ∨ n = 512) {u : Nat → Int} (hb : ∀ j, j < n → (u j).natAbs ≤ B) (k : Nat) : (dotF n u k).natAbs ≤ n * (B * 16777200) :=
  sumF_abs fun j hj => mul_abs (hb j hj) (cosA_less hn j k)
theorem turn_bd20 {n : Nat} (hn : n = 128 ∨ n = 512) {u : Nat → Int} (hb : ∀ j, j < n → (u j).natAbs ≤ 1048576) (k : Nat) : (turnF n u k).natAbs ≤ 33554431 := by
  have h1 := dotF_less hn hb k
  rcases hn with rfl | rfl
  · have h2 := rnd27 (dotF 128 u k)
    rw [turnF_128]; omega
  · have h2 := rnd28 (dotF 512 u k)
    rw [turnF_512]; omega
theorem turn_bd_512 {u : Nat → Int} (hb : ∀ j, j < 512 → (u j).natAbs ≤ 33554432) (k : Nat) : (turnF 512 u k).natAbs ≤ 1073741000 := by
  have h1 := dotF_less (.inr rfl) hb k
  have h2 := rnd28 (dotF 512 u k)
  rw [turnF_512]; omega
theorem turn_bd_128 {u : Nat → Int} (hb : ∀ j, j < 128 → (u j).natAbs ≤ 33554432) (k : Nat) : (turnF 128 u k).natAbs ≤ 536870500 := by
  have h1 := dotF_less (.inl rfl) hb k
  have h2 := rnd27 (dotF 128 u k)
  rw [turnF_128]; omega
theorem unfoldF_le {n B : Nat} {u : Nat → Int} (h2 : n % 2 = 0) (hb : ∀ j, j < n → (u j).natAbs ≤ B) {i : Nat} (hi : i < 2 * n) : (unfoldF n u i).natAbs ≤ B := by
  unfold unfoldF
  split
  · exact hb _ (by omega)
  · split
    · have := hb (n / 2 + (n - 1 - i)) (by omega); omega
    · split
      · have := hb (3 * (n / 2) - 1 - i) (by omega); omega
      · have := hb (i - 3 * (n / 2)) (by omega); omega
theorem backF_512 {l : Nat → Int} (hb : ∀ j, j < 512 → (l j).natAbs ≤ 33554432) {i : Nat} (hi : i < 1024) : (backF 512 l i).natAbs ≤ 1073741000 :=
  unfoldF_le (by decide) (fun k _ => turn_bd_512 hb k) (by omega)
theorem backF_128 {l : Nat → Int} (hb : ∀ j, j < 128 → (l j).natAbs ≤ 33554432) {i : Nat} (hi : i < 256) : (backF 128 l i).natAbs ≤ 536870500 :=
  unfoldF_le (by decide) (fun k _ => turn_bd_128 hb k) (by omega)
/-- Forward and back, of samples of 20 bits, the least one too. -/
theorem there_back {n : Nat} (hn : n = 128 ∨ n = 512) {x : Nat → Int} (hb : ∀ j, j < 2 * n → (x j).natAbs ≤ 524288) {i : Nat} (hi : i < 2 * n) :
    (backF n (fwdF n x) i - unfoldF n (foldF n x) i).natAbs ≤ 4096 := by
  have h2 : n % 2 = 0 := by omega
  have hf : ∀ j, j < n → (foldF n x j).natAbs ≤ 1048576 := fun j hj => foldF_abs h2 hb hj
  unfold backF fwdF
  refine unfoldF_near h2 (fun j hj => ?_) hi
  rw [turnF_congr (v := turnF n (foldF n x)) fun k _ => satP_26 (turn_bd20 hn hf k)]
  exact turn_again hn hf hj
theorem alias_lo {n : Nat} (h2 : n % 2 = 0) (x : Nat → Int) {i : Nat} (hi : i < n) : unfoldF n (foldF n x) i = x i - x (n - 1 - i) := by
  unfold unfoldF
  split
  · unfold foldF
    rw [if_neg (by omega), show n / 2 + i - n / 2 = i by omega]
  · unfold foldF
    rw [if_neg (by omega), show n / 2 + (n - 1 - i) - n / 2 = n - 1 - i by omega, show n - 1 - (n - 1 - i) = i by omega]
    omega
theorem alias_hi {n : Nat} (h2 : n % 2 = 0) (x : Nat → Int) {i : Nat} (hi : n ≤ i) (hi' : i < 2 * n) : unfoldF n (foldF n x) i = x i + x (3 * n - 1 - i) := by
  unfold unfoldF
  rw [if_neg (by omega), if_neg (by omega)]
  split
  · unfold foldF
    rw [if_pos (by omega), show 3 * (n / 2) - 1 - (3 * (n / 2) - 1 - i) = i by omega, show 3 * (n / 2) + (3 * (n / 2) - 1 - i) = 3 * n - 1 - i by omega]
    omega
  · unfold foldF
    rw [if_pos (by omega), show 3 * (n / 2) - 1 - (i - 3 * (n / 2)) = 3 * n - 1 - i by omega, show 3 * (n / 2) + (i - 3 * (n / 2)) = i by omega]
    omega

/-! ### Shaping -/
theorem riseP_bd (i : Int) (h : 0 ≤ i) : 0 ≤ riseP i ∧ riseP i ≤ 16777216 := by
  by_cases h1 : 128 ≤ i
  · rw [riseP_big h1]; omega
  · rw [riseP_in h (by omega), cosP_q, cosQ_in (n := (1024 - 4 * (2 * i + 1)).toNat) (by omega) (by omega)]
    exact cosN_bd (by omega)
/-- How much of number i there is, of N. -/
noncomputable def slopeF (N i : Nat) : Int := if riseP ((N - 1 - i : Nat) : Int) < riseP (i : Int) then riseP ((N - 1 - i : Nat) : Int) else riseP (i : Int)
theorem slopeF_bd (N i : Nat) : 0 ≤ slopeF N i ∧ slopeF N i ≤ 16777216 := by
  unfold slopeF
  split
  · exact riseP_bd _ (by omega)
  · exact riseP_bd _ (by omega)
theorem slopeF_head {N q : Nat} (hN : 256 ≤ N) (hq : q < 128) : slopeF N q = riseP (q : Int) := by
  unfold slopeF
  have := riseP_bd (q : Int) (by omega)
  rw [riseP_big (i := ((N - 1 - q : Nat) : Int)) (by omega), if_neg (by omega)]
theorem slopeF_tail {N q i : Nat} (hN : 256 ≤ N) (hq : q < 128) (hi : i + 128 = N + q) : slopeF N i = riseP ((127 - q : Nat) : Int) := by
  unfold slopeF
  have := riseP_bd ((127 - q : Nat) : Int) (by omega)
  rw [riseP_big (i := (i : Int)) (by omega), show N - 1 - i = 127 - q by omega]
  split <;> omega
theorem slopeF_mid {N i : Nat} (h0 : 128 ≤ i) (h1 : i + 128 < N) : slopeF N i = 16777216 := by
  unfold slopeF
  rw [riseP_big (i := (i : Int)) (by omega), riseP_big (i := ((N - 1 - i : Nat) : Int)) (by omega), if_neg (by omega)]
noncomputable def shapeF (N : Nat) (x : Nat → Int) (i : Nat) : Int := rndP (x i * slopeF N i) 24
theorem rnd24 (x : Int) : (16777216 * rndP x 24 - x).natAbs ≤ 8388608 := by
  rw [rndP_in (by decide) (by decide), show P2 (24 : Int).toNat = 16777216 by decide]; omega
theorem rnd4 (x : Int) : (16 * rndP x 4 - x).natAbs ≤ 8 := by
  rw [rndP_in (by decide) (by decide), show P2 (4 : Int).toNat = 16 by decide]; omega
theorem shapeF_abs {N B i : Nat} {x : Nat → Int} (h : (x i).natAbs ≤ B) : (shapeF N x i).natAbs ≤ B := by
  have h0 := slopeF_bd N i
  have h1 : (x i * slopeF N i).natAbs ≤ B * 16777216 := mul_abs h (by omega)
  have h2 := rnd24 (x i * slopeF N i)
  unfold shapeF
  omega
theorem shapeF_near (N : Nat) (x : Nat → Int) (i : Nat) : (16777216 * shapeF N x i - x i * slopeF N i).natAbs ≤ 8388608 := rnd24 _
theorem shapeF_zero {N i : Nat} {x : Nat → Int} (h : x i = 0) : shapeF N x i = 0 := by
  unfold shapeF; rw [h, Int.zero_mul]; decide

/-! ### Lines, sound, samples -/
/-- All of a long frame, shaped, between noughts. -/
noncomputable def winF (all : Nat → Int) (i : Nat) : Int := if i < 192 then 0 else if i < 832 then shapeF 640 all (i - 192) else 0
/-- Block m of a brief frame, shaped. -/
noncomputable def blkF (all : Nat → Int) (m i : Nat) : Int := shapeF 256 (fun j => all (128 * m + j)) i
noncomputable def linesF (b : Bool) (all : Nat → Int) (k : Nat) : Int := if b then fwdF 128 (blkF all (k % 4)) (k / 4) else fwdF 512 (winF all) k
/-- Of the lines those of block m. -/
def pickF (l : Nat → Int) (m k : Nat) : Int := l (4 * k + m)
noncomputable def soundB (l : Nat → Int) (m i : Nat) : Int := if 128 * m ≤ i ∧ i < 128 * m + 256 then shapeF 256 (backF 128 (pickF l m)) (i - 128 * m) else 0
noncomputable def soundA (l : Nat → Int) : Nat → Nat → Int
  | 0, _ => 0
  | m + 1, i => soundA l m i + soundB l m i
noncomputable def soundL (l : Nat → Int) (i : Nat) : Int := shapeF 640 (fun j => backF 512 l (192 + j)) i
noncomputable def soundF (b : Bool) (l : Nat → Int) (i : Nat) : Int := if b then soundA l 4 i else soundL l i
noncomputable def leftF (b : Bool) (l : Nat → Int) (q : Nat) : Int := soundF b l (512 + q)
/-- Sound, and what was left. -/
noncomputable def bothF (b : Bool) (l left : Nat → Int) (i : Nat) : Int := soundF b l i + if i < 128 then left i else 0
noncomputable def samplesF (b : Bool) (l left : Nat → Int) (i : Nat) : Int := satP (rndP (bothF b l left i) 4) 16

theorem winF_abs {all : Nat → Int} {B : Nat} (h : ∀ i, i < 640 → (all i).natAbs ≤ B) (i : Nat) : (winF all i).natAbs ≤ B := by
  unfold winF
  split
  · simp
  · split
    · exact shapeF_abs (h _ (by omega))
    · simp
theorem blkF_abs {all : Nat → Int} {B m : Nat} (h : ∀ i, i < 640 → (all i).natAbs ≤ B) (hm : m < 4) {i : Nat} (hi : i < 256) : (blkF all m i).natAbs ≤ B :=
  shapeF_abs (h _ (by omega))
theorem linesF_bd (b : Bool) (all : Nat → Int) (k : Nat) : -33554432 ≤ linesF b all k ∧ linesF b all k ≤ 33554431 := by
  unfold linesF
  split
  · exact satP_26_bd _
  · exact satP_26_bd _
theorem linesF_brief (all : Nat → Int) {m : Nat} (hm : m < 4) : pickF (linesF true all) m = fwdF 128 (blkF all m) := by
  funext k
  unfold pickF linesF
  rw [if_pos rfl, show (4 * k + m) % 4 = m by omega, show (4 * k + m) / 4 = k by omega]
theorem linesF_long (all : Nat → Int) : linesF false all = fwdF 512 (winF all) := by
  funext k
  unfold linesF
  rw [if_neg (by decide)]
section
variable {l : Nat → Int}
theorem soundB_abs (h : ∀ j, j < 512 → (l j).natAbs ≤ 33554432) {m : Nat} (hm : m < 4) (i : Nat) : (soundB l m i).natAbs ≤ 536870500 := by
  unfold soundB
  split
  · exact shapeF_abs (backF_128 (fun j hj => h _ (by omega)) (by omega))
  · simp
theorem soundA_abs (h : ∀ j, j < 512 → (l j).natAbs ≤ 33554432) : ∀ {m : Nat}, m ≤ 4 → ∀ i, (soundA l m i).natAbs ≤ m * 536870500
  | 0, _, i => by simp [soundA]
  | m + 1, hm, i => by
    have h1 := soundA_abs h (m := m) (by omega) i
    have h2 := soundB_abs h (m := m) (by omega) i
    unfold soundA
    omega
theorem soundB_out {m i : Nat} (h : i < 128 * m ∨ 128 * m + 256 ≤ i) : soundB l m i = 0 := if_neg (by omega)
/-- The first numbers are the first block's alone, the last ones the last block's. -/
theorem soundA_first {i : Nat} (h : i < 128) : soundA l 4 i = soundB l 0 i := by
  show 0 + soundB l 0 i + soundB l 1 i + soundB l 2 i + soundB l 3 i = _
  rw [soundB_out (m := 1) (by omega), soundB_out (m := 2) (by omega), soundB_out (m := 3) (by omega)]; omega
theorem soundA_last {i : Nat} (h : 512 ≤ i) : soundA l 4 i = soundB l 3 i := by
  show 0 + soundB l 0 i + soundB l 1 i + soundB l 2 i + soundB l 3 i = _
  rw [soundB_out (m := 1) (by omega), soundB_out (m := 2) (by omega), soundB_out (m := 0) (by omega)]; omega
theorem soundA_amid {m i : Nat} (hm : m < 3) (h : 128 * (m + 1) ≤ i) (h' : i < 128 * (m + 1) + 128) : soundA l 4 i = soundB l m i + soundB l (m + 1) i := by
  show 0 + soundB l 0 i + soundB l 1 i + soundB l 2 i + soundB l 3 i = _
  rcases (show m = 0 ∨ m = 1 ∨ m = 2 by omega) with rfl | rfl | rfl
  · show _ = soundB l 0 i + soundB l 1 i
    rw [soundB_out (m := 2) (by omega), soundB_out (m := 3) (by omega)]; omega
  · show _ = soundB l 1 i + soundB l 2 i
    rw [soundB_out (m := 0) (by omega), soundB_out (m := 3) (by omega)]; omega
  · show _ = soundB l 2 i + soundB l 3 i
    rw [soundB_out (m := 0) (by omega), soundB_out (m := 1) (by omega)]; omega
theorem soundL_abs (h : ∀ j, j < 512 → (l j).natAbs ≤ 33554432) {i : Nat} (hi : i < 640) : (soundL l i).natAbs ≤ 1073741000 :=
  shapeF_abs (backF_512 h (by omega))
theorem soundF_abs (h : ∀ j, j < 512 → (l j).natAbs ≤ 33554432) (b : Bool) {i : Nat} (hi : i < 640) : (soundF b l i).natAbs ≤ 2147482000 := by
  unfold soundF
  split
  · have := soundA_abs h (m := 4) (by omega) i; omega
  · have := soundL_abs h hi; omega
theorem soundF_edge (h : ∀ j, j < 512 → (l j).natAbs ≤ 33554432) (b : Bool) {i : Nat} (hi : i < 128 ∨ (512 ≤ i ∧ i < 640)) : (soundF b l i).natAbs ≤ 1073741000 := by
  unfold soundF
  split
  · rcases hi with hi | hi
    · rw [soundA_first hi]; have := soundB_abs h (m := 0) (by omega) i; omega
    · rw [soundA_last hi.1]; have := soundB_abs h (m := 3) (by omega) i; omega
  · exact soundL_abs h (by omega)
theorem leftF_abs (h : ∀ j, j < 512 → (l j).natAbs ≤ 33554432) (b : Bool) {q : Nat} (hq : q < 128) : (leftF b l q).natAbs ≤ 1073741000 := soundF_edge h b (.inr ⟨by omega, by omega⟩)
theorem bothF_abs {left : Nat → Int} (h : ∀ j, j < 512 → (l j).natAbs ≤ 33554432) (hl : ∀ q, q < 128 → (left q).natAbs ≤ 1073741000) (b : Bool) {i : Nat} (hi : i < 640) : (bothF b l left i).natAbs ≤ 2147482000 := by
  unfold bothF
  split
  · have h1 := soundF_edge h b (i := i) (.inl (by assumption)); have h2 := hl i (by assumption); omega
  · have := soundF_abs h b hi; omega
end

/-! ### There and back -/
/-- A part of a slope: two numbers shaped, added, shaped. -/
theorem part_near {x y S T B s r : Int} (hS : (16777216 * S - x).natAbs ≤ 8388608) (hT : (16777216 * T - y).natAbs ≤ 8388608) (hB : (B - (S + T)).natAbs ≤ 4096) (hs : (16777216 * s - B * r).natAbs ≤ 8388608) (hr : 0 ≤ r ∧ r ≤ 16777216) :
    (281474976710656 * s - r * (x + y)).natAbs ≤ 4098 * 281474976710656 := by
  obtain ⟨e, he⟩ : ∃ e, e = 16777216 * B - (x + y) := ⟨_, rfl⟩
  have h1 : e.natAbs ≤ 4097 * 16777216 := by omega
  have h2 : (e * r).natAbs ≤ 4097 * 16777216 * 16777216 := mul_abs h1 (by omega)
  have h3 : e * r = 16777216 * (B * r) - r * (x + y) := by
    rw [he, Int.sub_mul, Int.mul_assoc, Int.mul_comm (x + y)]
  generalize B * r = p at hs h3
  generalize r * (x + y) = q at h3 ⊢
  omega
/-- What is told of the first numbers of a frame's sound. -/
def HeadAt (s a a2 : Int) (q : Nat) : Prop := (281474976710656 * s - riseP (q : Int) * (a * riseP (q : Int) + -(a2 * riseP ((127 - q : Nat) : Int)))).natAbs ≤ 4098 * 281474976710656
def TailAt (s a a2 : Int) (q : Nat) : Prop := (281474976710656 * s - riseP ((127 - q : Nat) : Int) * (a * riseP ((127 - q : Nat) : Int) + a2 * riseP (q : Int))).natAbs ≤ 4098 * 281474976710656
theorem both_near {s t a a2 : Int} {q : Nat} (hq : q < 128) (hs : HeadAt s a a2 q) (ht : TailAt t a a2 q) (ha : a.natAbs ≤ 524288) : (s + t - a).natAbs ≤ 8204 := by
  have hl := riseP_legs (q := (q : Int)) (by omega) (by omega)
  rw [show (127 : Int) - (q : Int) = ((127 - q : Nat) : Int) by omega] at hl
  unfold HeadAt at hs
  unfold TailAt at ht
  generalize riseP (q : Int) = r at hs ht hl
  generalize riseP ((127 - q : Nat) : Int) = z at hs ht hl
  obtain ⟨e, he⟩ : ∃ e, e = r * r + z * z - 281474976710656 := ⟨_, rfl⟩
  have h1 : (a * e).natAbs ≤ 524288 * 4294967296 := mul_abs ha (by omega)
  have h2 : r * (a * r + -(a2 * z)) + z * (a * z + a2 * r) = a * e + 281474976710656 * a := by
    rw [he, Int.mul_sub, Int.mul_add, Int.mul_add, Int.mul_add, Int.mul_neg, Int.mul_left_comm r a r, Int.mul_left_comm z a z, Int.mul_left_comm r a2 z, Int.mul_left_comm z a2 r, Int.mul_comm z r, Int.mul_comm a 281474976710656]
    omega
  generalize r * (a * r + -(a2 * z)) = p1 at hs h2
  generalize z * (a * z + a2 * r) = p2 at ht h2
  omega
section
variable {all : Nat → Int}
/-- A block's first half. -/
theorem blk_head (h : ∀ i, i < 640 → (all i).natAbs ≤ 524288) {m q : Nat} (hm : m < 4) (hq : q < 128) :
    HeadAt (shapeF 256 (backF 128 (fwdF 128 (blkF all m))) q) (all (128 * m + q)) (all (128 * m + (127 - q))) q := by
  have hB := there_back (.inl rfl) (x := blkF all m) (fun j hj => blkF_abs h hm (by omega)) (i := q) (by omega)
  rw [alias_lo (by decide) _ (by omega)] at hB
  have hS := shapeF_near 256 (fun j => all (128 * m + j)) q
  have hT := shapeF_near 256 (fun j => all (128 * m + j)) (128 - 1 - q)
  have hs := shapeF_near 256 (backF 128 (fwdF 128 (blkF all m))) q
  have hr := riseP_bd (q : Int) (by omega)
  rw [slopeF_head (by omega) hq] at hS hs
  rw [slopeF_head (by omega) (show 128 - 1 - q < 128 by omega)] at hT
  unfold HeadAt
  exact part_near hS (y := -(all (128 * m + (127 - q)) * riseP ((127 - q : Nat) : Int))) (T := -(blkF all m (128 - 1 - q))) (by
    rw [show 128 - 1 - q = 127 - q by omega] at hT ⊢
    unfold blkF
    generalize shapeF 256 (fun j => all (128 * m + j)) (127 - q) = T at hT ⊢
    generalize all (128 * m + (127 - q)) * riseP ((127 - q : Nat) : Int) = y at hT ⊢
    omega) (by unfold blkF at hB ⊢; omega) hs hr
theorem blk_tail (h : ∀ i, i < 640 → (all i).natAbs ≤ 524288) {m q : Nat} (hm : m < 4) (hq : q < 128) :
    TailAt (shapeF 256 (backF 128 (fwdF 128 (blkF all m))) (128 + q)) (all (128 * m + (128 + q))) (all (128 * m + (128 + (127 - q)))) q := by
  have hB := there_back (.inl rfl) (x := blkF all m) (fun j hj => blkF_abs h hm (by omega)) (i := 128 + q) (by omega)
  rw [alias_hi (by decide) _ (by omega) (by omega)] at hB
  have hS := shapeF_near 256 (fun j => all (128 * m + j)) (128 + q)
  have hT := shapeF_near 256 (fun j => all (128 * m + j)) (3 * 128 - 1 - (128 + q))
  have hs := shapeF_near 256 (backF 128 (fwdF 128 (blkF all m))) (128 + q)
  have hr := riseP_bd ((127 - q : Nat) : Int) (by omega)
  rw [slopeF_tail (q := q) (by omega) hq (by omega)] at hS hs
  rw [slopeF_tail (q := 127 - q) (by omega) (by omega) (by omega), show 127 - (127 - q) = q by omega] at hT
  unfold TailAt
  exact part_near hS (y := all (128 * m + (128 + (127 - q))) * riseP (q : Int)) (T := blkF all m (3 * 128 - 1 - (128 + q))) (by
    rw [show 3 * 128 - 1 - (128 + q) = 128 + (127 - q) by omega] at hT ⊢
    exact hT) (by unfold blkF at hB ⊢; omega) hs hr
theorem win_near (h : ∀ i, i < 640 → (all i).natAbs ≤ 524288) {i : Nat} (hi : i < 1024) : (backF 512 (fwdF 512 (winF all)) i - unfoldF 512 (foldF 512 (winF all)) i).natAbs ≤ 4096 :=
  there_back (.inr rfl) (fun j _ => winF_abs h j) (by omega)
theorem winF_in {i j : Nat} (h : i = 192 + j) (hj : j < 640) : winF all i = shapeF 640 all j := by
  unfold winF
  rw [if_neg (by omega), if_pos (by omega), show i - 192 = j by omega]
theorem winF_out {i : Nat} (h : i < 192 ∨ 832 ≤ i) : winF all i = 0 := by
  unfold winF
  split
  · rfl
  · rw [if_neg (by omega)]
theorem win_head (h : ∀ i, i < 640 → (all i).natAbs ≤ 524288) {q : Nat} (hq : q < 128) : HeadAt (soundL (fwdF 512 (winF all)) q) (all q) (all (127 - q)) q := by
  have hB := win_near h (i := 192 + q) (by omega)
  rw [alias_lo (by decide) _ (by omega), winF_in (i := 192 + q) (j := q) rfl (by omega), winF_in (i := 512 - 1 - (192 + q)) (j := 127 - q) (by omega) (by omega)] at hB
  have hS := shapeF_near 640 all q
  have hT := shapeF_near 640 all (127 - q)
  have hs := shapeF_near 640 (fun j => backF 512 (fwdF 512 (winF all)) (192 + j)) q
  have hr := riseP_bd (q : Int) (by omega)
  rw [slopeF_head (by omega) hq] at hS hs
  rw [slopeF_head (by omega) (show 127 - q < 128 by omega)] at hT
  unfold HeadAt soundL
  exact part_near hS (y := -(all (127 - q) * riseP ((127 - q : Nat) : Int))) (T := -(shapeF 640 all (127 - q))) (by
    generalize shapeF 640 all (127 - q) = T at hT ⊢
    generalize all (127 - q) * riseP ((127 - q : Nat) : Int) = y at hT ⊢
    omega) (by omega) hs hr
theorem win_tail (h : ∀ i, i < 640 → (all i).natAbs ≤ 524288) {q : Nat} (hq : q < 128) : TailAt (soundL (fwdF 512 (winF all)) (512 + q)) (all (512 + q)) (all (512 + (127 - q))) q := by
  have hB := win_near h (i := 192 + (512 + q)) (by omega)
  rw [alias_hi (by decide) _ (by omega) (by omega), winF_in (i := 192 + (512 + q)) (j := 512 + q) rfl (by omega), winF_in (i := 3 * 512 - 1 - (192 + (512 + q))) (j := 512 + (127 - q)) (by omega) (by omega)] at hB
  have hS := shapeF_near 640 all (512 + q)
  have hT := shapeF_near 640 all (512 + (127 - q))
  have hs := shapeF_near 640 (fun j => backF 512 (fwdF 512 (winF all)) (192 + j)) (512 + q)
  have hr := riseP_bd ((127 - q : Nat) : Int) (by omega)
  rw [slopeF_tail (q := q) (by omega) hq (by omega)] at hS hs
  rw [slopeF_tail (q := 127 - q) (by omega) (by omega) (by omega), show 127 - (127 - q) = q by omega] at hT
  unfold TailAt soundL
  exact part_near hS hT hB hs hr
theorem win_mid (h : ∀ i, i < 640 → (all i).natAbs ≤ 524288) {i : Nat} (h0 : 128 ≤ i) (h1 : i < 512) : (soundL (fwdF 512 (winF all)) i - all i).natAbs ≤ 8204 := by
  have hB := win_near h (i := 192 + i) (by omega)
  have hS := shapeF_near 640 all i
  have hs := shapeF_near 640 (fun j => backF 512 (fwdF 512 (winF all)) (192 + j)) i
  rw [slopeF_mid h0 (by omega)] at hS hs
  have hU : unfoldF 512 (foldF 512 (winF all)) (192 + i) = shapeF 640 all i := by
    by_cases c : i < 320
    · rw [alias_lo (by decide) _ (by omega), winF_in (j := i) rfl (by omega), winF_out (by omega)]; omega
    · rw [alias_hi (by decide) _ (by omega) (by omega), winF_in (j := i) rfl (by omega), winF_out (by omega)]; omega
  rw [hU] at hB
  unfold soundL
  omega
theorem frame_head (h : ∀ i, i < 640 → (all i).natAbs ≤ 524288) (b : Bool) {q : Nat} (hq : q < 128) : HeadAt (soundF b (linesF b all) q) (all q) (all (127 - q)) q := by
  cases b with
  | true =>
    have := blk_head h (m := 0) (by omega) hq
    unfold soundF
    rw [if_pos rfl, soundA_first hq]
    unfold soundB
    rw [if_pos (by omega), linesF_brief all (by omega)]
    simpa using this
  | false =>
    unfold soundF
    rw [if_neg (by decide), linesF_long]
    exact win_head h hq
theorem frame_tail (h : ∀ i, i < 640 → (all i).natAbs ≤ 524288) (b : Bool) {q : Nat} (hq : q < 128) : TailAt (leftF b (linesF b all) q) (all (512 + q)) (all (512 + (127 - q))) q := by
  unfold leftF
  cases b with
  | true =>
    have := blk_tail h (m := 3) (by omega) hq
    unfold soundF
    rw [if_pos rfl, soundA_last (by omega)]
    unfold soundB
    rw [if_pos (by omega), linesF_brief all (by omega), show 512 + q - 128 * 3 = 128 + q by omega]
    rw [show 128 * 3 + (128 + q) = 512 + q by omega, show 128 * 3 + (128 + (127 - q)) = 512 + (127 - q) by omega] at this
    exact this
  | false =>
    unfold soundF
    rw [if_neg (by decide), linesF_long]
    exact win_tail h hq
theorem frame_mid (h : ∀ i, i < 640 → (all i).natAbs ≤ 524288) (b : Bool) {i : Nat} (h0 : 128 ≤ i) (h1 : i < 512) : (soundF b (linesF b all) i - all i).natAbs ≤ 8204 := by
  cases b with
  | true =>
    obtain ⟨m, hm⟩ : ∃ m, m + 1 = i / 128 := ⟨i / 128 - 1, by omega⟩
    obtain ⟨q, hq⟩ : ∃ q, q = i % 128 := ⟨_, rfl⟩
    have h2 := blk_tail h (m := m) (q := q) (by omega) (by omega)
    have h3 := blk_head h (m := m + 1) (q := q) (by omega) (by omega)
    unfold soundF
    rw [if_pos rfl, soundA_amid (m := m) (by omega) (by omega) (by omega)]
    unfold soundB
    rw [if_pos (by omega), if_pos (by omega), linesF_brief all (by omega), linesF_brief all (by omega), show i - 128 * m = 128 + q by omega, show i - 128 * (m + 1) = q by omega]
    rw [show 128 * m + (128 + q) = i by omega, show 128 * m + (128 + (127 - q)) = 128 * (m + 1) + (127 - q) by omega] at h2
    rw [show 128 * (m + 1) + q = i by omega] at h3
    rw [Int.add_comm (shapeF 256 _ (128 + q))]
    exact both_near (by omega) h3 h2 (h i (by omega))
  | false =>
    unfold soundF
    rw [if_neg (by decide), linesF_long]
    exact win_mid h h0 h1
/-- A sample that comes back. -/
theorem sample_near {x s : Int} (h : (x - 16 * s).natAbs ≤ 8204) (h0 : -32768 ≤ s) (h1 : s ≤ 32767) : (satP (rndP x 4) 16 - s).natAbs ≤ 600 := by
  have h2 := rnd4 x
  rw [satP_in (by decide) (by decide), show P2 ((16 : Int).toNat - 1) = 32768 by decide]
  split
  · omega
  · split <;> omega
theorem frame_near {Z left : Nat → Int} (hz : ∀ i, -32768 ≤ Z i ∧ Z i ≤ 32767) (b : Bool) (hl : ∀ q, q < 128 → TailAt (left q) (16 * Z q) (16 * Z (127 - q)) q) {i : Nat} (hi : i < 512) :
    (samplesF b (linesF b fun j => 16 * Z j) left i - Z i).natAbs ≤ 600 := by
  have h : ∀ j, j < 640 → ((fun j => 16 * Z j) j).natAbs ≤ 524288 := by
    intro j _
    have := hz j
    show (16 * Z j).natAbs ≤ _
    omega
  have hzi := hz i
  refine sample_near ?_ hzi.1 hzi.2
  unfold bothF
  by_cases c : i < 128
  · rw [if_pos c]
    exact both_near c (frame_head h b c) (hl i c) (h i (by omega))
  · rw [if_neg c, Int.add_zero]
    exact frame_mid h b (by omega) hi
theorem tail_zero {Z : Nat → Int} (hz : ∀ i, i < 128 → Z i = 0) {q : Nat} (hq : q < 128) : TailAt 0 (16 * Z q) (16 * Z (127 - q)) q := by
  unfold TailAt
  rw [hz q hq, hz (127 - q) (by omega)]
  simp
end
end Go.Proofs.YtkhhhejmbgloeaaGreat

/- Plain facts of layer 13: how near what is heard comes to the samples. Nothing here speaks of the program. -/
namespace Go.Proofs.YtkhhhejmbgloeaaGreat
open Go
set_option linter.unusedVariables false
set_option linter.unusedSimpArgs false

/-! ### Sums of distances -/
/-- How far lines are from others, in all. -/
def farF (h l : Nat → Int) (n : Nat) : Int := sumF (fun j => ((h j - l j).natAbs : Int)) n
theorem sumF_le {f g : Nat → Int} : ∀ {n : Nat}, (∀ j, j < n → f j ≤ g j) → sumF f n ≤ sumF g n
  | 0, _ => Int.le_refl _
  | n + 1, h => by
    have h1 := sumF_le (n := n) fun j hj => h j (by omega)
    have h2 := h n (by omega)
    rw [sumF_succ, sumF_succ]
    omega
theorem farF_nonneg (h l : Nat → Int) : ∀ n, 0 ≤ farF h l n
  | 0 => Int.le_refl _
  | n + 1 => by
    have := farF_nonneg h l n
    unfold farF at this ⊢
    rw [sumF_succ]
    omega
theorem sum_parts {u v c : Nat → Int} : ∀ n, (∀ j, j < n → (c j).natAbs ≤ 16777216) → ((sumF (fun j => u j * c j) n - sumF (fun j => v j * c j) n).natAbs : Int) ≤ 16777216 * farF u v n
  | 0, _ => by simp [sumF, farF]
  | n + 1, h => by
    have h1 := sum_parts (u := u) (v := v) n fun j hj => h j (by omega)
    have h2 : ((u n - v n) * c n).natAbs ≤ (u n - v n).natAbs * 16777216 := mul_abs (Nat.le_refl _) (h n (by omega))
    rw [Int.sub_mul] at h2
    unfold farF at h1 ⊢
    rw [sumF_succ, sumF_succ, sumF_succ]
    generalize u n * c n = a at *
    generalize v n * c n = b at *
    omega
theorem dot_near (n : Nat) (u v : Nat → Int) (k : Nat) : ((dotF n u k - dotF n v k).natAbs : Int) ≤ 16777216 * farF u v n :=
  sum_parts n fun j _ => cosA_abs n j k
theorem turn_near_512 (u v : Nat → Int) (k : Nat) : 16 * ((turnF 512 u k - turnF 512 v k).natAbs : Int) ≤ farF u v 512 + 16 := by
  have h := dot_near 512 u v k
  have h1 := rnd28 (dotF 512 u k)
  have h2 := rnd28 (dotF 512 v k)
  rw [turnF_512, turnF_512]
  generalize rndP (dotF 512 u k) 28 = a at *
  generalize rndP (dotF 512 v k) 28 = b at *
  omega
theorem turn_near_128 (u v : Nat → Int) (k : Nat) : 8 * ((turnF 128 u k - turnF 128 v k).natAbs : Int) ≤ farF u v 128 + 8 := by
  have h := dot_near 128 u v k
  have h1 := rnd27 (dotF 128 u k)
  have h2 := rnd27 (dotF 128 v k)
  rw [turnF_128, turnF_128]
  generalize rndP (dotF 128 u k) 27 = a at *
  generalize rndP (dotF 128 v k) 27 = b at *
  omega
theorem back_near_512 (u v : Nat → Int) {i : Nat} (hi : i < 1024) : 8 * ((backF 512 u i - backF 512 v i).natAbs : Int) ≤ farF u v 512 + 8 := by
  have e := farF_nonneg u v 512
  have h := unfoldF_near (n := 512) (D := ((farF u v 512 + 8) / 8).toNat) (u := turnF 512 u) (v := turnF 512 v) (by decide) (fun j _ => by have := turn_near_512 u v j; omega) (i := i) (by omega)
  unfold backF
  omega
theorem back_near_128 (u v : Nat → Int) {i : Nat} (hi : i < 256) : 8 * ((backF 128 u i - backF 128 v i).natAbs : Int) ≤ farF u v 128 + 8 := by
  have e := farF_nonneg u v 128
  have h := unfoldF_near (n := 128) (D := ((farF u v 128 + 8) / 8).toNat) (u := turnF 128 u) (v := turnF 128 v) (by decide) (fun j _ => by have := turn_near_128 u v j; omega) (i := i) (by omega)
  unfold backF
  omega
theorem shape_near (N : Nat) (x y : Nat → Int) (i : Nat) : (shapeF N x i - shapeF N y i).natAbs ≤ (x i - y i).natAbs + 1 := by
  have h1 := shapeF_near N x i
  have h2 := shapeF_near N y i
  have h3 : ((x i - y i) * slopeF N i).natAbs ≤ (x i - y i).natAbs * 16777216 := mul_abs (Nat.le_refl _) (by have := slopeF_bd N i; omega)
  rw [Int.sub_mul] at h3
  generalize x i * slopeF N i = a at *
  generalize y i * slopeF N i = b at *
  omega
theorem soundL_near (h l : Nat → Int) {i : Nat} (hi : i < 640) : 8 * ((soundL h i - soundL l i).natAbs : Int) ≤ farF h l 512 + 16 := by
  have a := shape_near 640 (fun j => backF 512 h (192 + j)) (fun j => backF 512 l (192 + j)) i
  have b := back_near_512 h l (i := 192 + i) (by omega)
  unfold soundL
  omega
theorem soundB_near (h l : Nat → Int) (m i : Nat) : 8 * ((soundB h m i - soundB l m i).natAbs : Int) ≤ farF (pickF h m) (pickF l m) 128 + 16 := by
  have e := farF_nonneg (pickF h m) (pickF l m) 128
  unfold soundB
  split
  · have a := shape_near 256 (backF 128 (pickF h m)) (backF 128 (pickF l m)) (i - 128 * m)
    have b := back_near_128 (pickF h m) (pickF l m) (i := i - 128 * m) (by omega)
    omega
  · omega
theorem sum_four (f : Nat → Int) : ∀ n, sumF f (4 * n) = sumF (fun k => f (4 * k + 0)) n + sumF (fun k => f (4 * k + 1)) n + sumF (fun k => f (4 * k + 2)) n + sumF (fun k => f (4 * k + 3)) n
  | 0 => rfl
  | n + 1 => by
    rw [show 4 * (n + 1) = 4 * n + 1 + 1 + 1 + 1 by omega, sumF_succ, sumF_succ, sumF_succ, sumF_succ, sum_four f n, sumF_succ, sumF_succ, sumF_succ, sumF_succ]
    rw [show 4 * n + 1 + 1 = 4 * n + 2 by omega, show 4 * n + 2 + 1 = 4 * n + 3 by omega]
    simp only [Nat.add_zero]
    omega
theorem far_four (h l : Nat → Int) : farF h l 512 = farF (pickF h 0) (pickF l 0) 128 + farF (pickF h 1) (pickF l 1) 128 + farF (pickF h 2) (pickF l 2) 128 + farF (pickF h 3) (pickF l 3) 128 :=
  sum_four (fun j => ((h j - l j).natAbs : Int)) 128
theorem soundF_near (b : Bool) (h l : Nat → Int) {i : Nat} (hi : i < 640) : 8 * ((soundF b h i - soundF b l i).natAbs : Int) ≤ farF h l 512 + 64 := by
  unfold soundF
  cases b with
  | true =>
    rw [if_pos rfl, if_pos rfl, far_four]
    have a0 := soundB_near h l 0 i
    have a1 := soundB_near h l 1 i
    have a2 := soundB_near h l 2 i
    have a3 := soundB_near h l 3 i
    have e1 : ∀ x, soundA x 4 i = soundB x 0 i + soundB x 1 i + soundB x 2 i + soundB x 3 i := by
      intro x
      show 0 + soundB x 0 i + soundB x 1 i + soundB x 2 i + soundB x 3 i = _
      omega
    rw [e1, e1]
    omega
  | false =>
    rw [if_neg (by decide), if_neg (by decide)]
    have := soundL_near h l hi
    omega

/-! ### Frames -/
/-- What is left behind a frame, but for the lines' distance. -/
def LeftNear (left : Nat → Int) (Z : Nat → Int) (R : Int) : Prop := ∀ q, q < 128 → ∃ t, TailAt t (16 * Z q) (16 * Z (127 - q)) q ∧ 8 * ((left q - t).natAbs : Int) ≤ R + 64
theorem leftNear_zero {Z : Nat → Int} (hz : ∀ i, i < 128 → Z i = 0) : LeftNear (fun _ => 0) Z 0 := fun q hq => ⟨0, tail_zero hz hq, by simp⟩
theorem leftNear_next {Z h : Nat → Int} {R : Int} (hz : ∀ i, -32768 ≤ Z i ∧ Z i ≤ 32767) (b : Bool) (hh : farF h (linesF b fun j => 16 * Z j) 512 ≤ R) : LeftNear (leftF b h) (fun j => Z (512 + j)) R := by
  intro q hq
  refine ⟨leftF b (linesF b fun j => 16 * Z j) q, ?_, ?_⟩
  · exact frame_tail (all := fun j => 16 * Z j) (fun j _ => by have := hz j; show (16 * Z j).natAbs ≤ _; omega) b hq
  · have := soundF_near b h (linesF b fun j => 16 * Z j) (i := 512 + q) (by omega)
    unfold leftF
    omega
theorem sample_near2 {x s R : Int} (h : 8 * ((x - 16 * s).natAbs : Int) ≤ R + 66000) (hR : 0 ≤ R) (h0 : -32768 ≤ s) (h1 : s ≤ 32767) : ((satP (rndP x 4) 16 - s).natAbs : Int) ≤ R / 8 + 700 := by
  have h2 := rnd4 x
  rw [satP_in (by decide) (by decide), show P2 ((16 : Int).toNat - 1) = 32768 by decide]
  split
  · omega
  · split <;> omega
theorem frame_near2 {Z left h : Nat → Int} {R Ra : Int} (hz : ∀ i, -32768 ≤ Z i ∧ Z i ≤ 32767) (b : Bool) (hl : LeftNear left Z Ra) (hR : 0 ≤ R) (hRa : 0 ≤ Ra) (hh : farF h (linesF b fun j => 16 * Z j) 512 ≤ R) {i : Nat} (hi : i < 512) :
    ((samplesF b h left i - Z i).natAbs : Int) ≤ (Ra + R) / 8 + 700 := by
  have ha : ∀ j, j < 640 → ((fun j => 16 * Z j) j).natAbs ≤ 524288 := by
    intro j _
    have := hz j
    show (16 * Z j).natAbs ≤ _
    omega
  have hzi := hz i
  refine sample_near2 ?_ (by omega) hzi.1 hzi.2
  have hs := soundF_near b h (linesF b fun j => 16 * Z j) (i := i) (by omega)
  unfold bothF
  by_cases c : i < 128
  · rw [if_pos c]
    obtain ⟨t, t1, t2⟩ := hl i c
    have := both_near c (frame_head ha b c) t1 (ha i (by omega))
    generalize soundF b (linesF b fun j => 16 * Z j) i = y at *
    omega
  · rw [if_neg c, Int.add_zero]
    have := frame_mid ha b (by omega) hi
    generalize soundF b (linesF b fun j => 16 * Z j) i = y at *
    omega

/-! ### The reach -/
theorem sum_edges {f l s : Nat → Int} (hf : ∀ b, b < 21 → ∀ i, edgeK b ≤ i → i < edgeK (b + 1) → f i ≤ oneF (l b) (s b)) : ∀ n, n ≤ 21 → sumF f (edgeK n) ≤ reachTo l s n
  | 0, _ => by rw [show edgeK 0 = 0 by decide]; exact Int.le_refl _
  | n + 1, hn => by
    have ih := sum_edges hf n (by omega)
    have e := edgeK_lt n (by omega)
    have d : edgeK (n + 1) = edgeK n + (edgeK (n + 1) - edgeK n) := by omega
    have a : sumF (fun k => f (edgeK n + k)) (edgeK (n + 1) - edgeK n) ≤ sumF (fun _ => oneF (l n) (s n)) (edgeK (n + 1) - edgeK n) := sumF_le fun j hj => hf n (by omega) _ (by omega) (by omega)
    rw [sumF_const] at a
    rw [reachTo_succ, d, sumF_split, ← d]
    rw [show ((edgeK (n + 1) : Nat) : Int) - ((edgeK n : Nat) : Int) = ((edgeK (n + 1) - edgeK n : Nat) : Int) by omega]
    omega
theorem held_near {h x : Int} (hx : -33554432 ≤ x ∧ x ≤ 33554431) : (satP h 26 - x).natAbs ≤ (h - x).natAbs := by
  rw [satP_in (by decide) (by decide), show P2 ((26 : Int).toNat - 1) = 33554432 by decide]
  split
  · omega
  · split <;> omega
theorem far_reach {h x l s : Nat → Int} (hx : ∀ i, -33554432 ≤ x i ∧ x i ≤ 33554431) (hf : ∀ b, b < 21 → ∀ i, edgeK b ≤ i → i < edgeK (b + 1) → ((h i - x i).natAbs : Int) ≤ oneF (l b) (s b)) :
    farF (fun i => satP (h i) 26) x 512 ≤ reachTo l s 21 := by
  have := sum_edges (f := fun j => ((satP (h j) 26 - x j).natAbs : Int)) (l := l) (s := s) (fun b hb i h0 h1 => by have a := hf b hb i h0 h1; have c := held_near (h := h i) (hx i); omega) 21 (by omega)
  rw [show edgeK 21 = 512 by decide] at this
  exact this
end Go.Proofs.YtkhhhejmbgloeaaGreat
