/- Plain facts, and what functions give, for the proofs of this seat: several texts in one, each with its own first remark. -/
import Derived.Test.YtobhoecmmpijgaaGreatRc
import Derived.Test.YtobhoecmmpijgaaGreatRa
import Derived.Laws.MathBits
import Derived.Test.YtobhoecmmpijgaaGreatRb

/- What the document's answers for layer 4 give, by the table: a cosine, a place of a slope. -/
namespace Go.Proofs.YtobhoecmmpijgaaGreat
open Go.RowKit
set_option linter.unusedVariables false

theorem tmod_circle (i : Int) : (0 ≤ i.tmod 4096 ∧ i.tmod 4096 = i % 4096) ∨ (i.tmod 4096 < 0 ∧ i.tmod 4096 = i % 4096 - 4096) := by
  rcases Int.lt_or_le i 0 with h | h
  · have e : i.tmod 4096 = -((-i) % 4096) := by
      have : i = -(-i) := by omega
      rw [this, Int.neg_tmod, Int.neg_neg, Int.tmod_eq_emod_of_nonneg (by omega)]
    rw [e]
    by_cases h0 : (-i) % 4096 = 0
    · exact .inl ⟨by omega, by omega⟩
    · exact .inr ⟨by omega, by omega⟩
  · have e : i.tmod 4096 = i % 4096 := Int.tmod_eq_emod_of_nonneg h
    rw [e]
    exact .inl ⟨by omega, rfl⟩

/-- A place of the circle, and where its cosine stands in the table. -/
theorem circle_in (i : Int) : ∃ P n : Nat, i % 4096 = P ∧ P < 4096 ∧ n ≤ 1024 ∧
    ((P ≤ 1024 ∧ P = n ∧ cosQ i = cosN n) ∨ (1024 < P ∧ P ≤ 2048 ∧ 2048 - P = n ∧ cosQ i = -(cosN n)) ∨ (2048 < P ∧ P < 3072 ∧ 2048 - (4096 - P) = n ∧ cosQ i = -(cosN n)) ∨ (3072 ≤ P ∧ 4096 - P = n ∧ cosQ i = cosN n)) := by
  rcases circle_at i with ⟨n, h, l⟩ | ⟨n, h, l⟩ | ⟨n, h, l0, l⟩ | ⟨n, h, l0, l⟩
  · exact ⟨n, n, h, by omega, l, .inl ⟨l, rfl, cosQ_in h l⟩⟩
  · exact ⟨2048 - n, n, by omega, by omega, by omega, .inr (.inl ⟨by omega, by omega, by omega, cosQ_2 h l⟩)⟩
  · exact ⟨2048 + n, n, by omega, by omega, by omega, .inr (.inr (.inl ⟨by omega, by omega, by omega, cosQ_3 h l0 l⟩))⟩
  · exact ⟨4096 - n, n, by omega, by omega, by omega, .inr (.inr (.inr ⟨by omega, by omega, cosQ_4 h l0 l⟩))⟩

/-- The document's cosine. -/
theorem ref04Cos_any (g : Nat) (i : Int) (w : World) (hg : IFun w g 2 .i64 1025 cosN) (hi : -9223372036854775808 ≤ i) (hi' : i ≤ 9223372036854775807) :
    Calls Tryz.prog 128 #[.slice (some ⟨g, 0, none⟩) 1025 1025, .int .i64 i] w fun e w' => e = .returned (.int .i64 (cosP i)) ∧ w = w' := by
  have HG := Lib.hid hg; clear hg
  rw [cosP_q]
  obtain ⟨P, n, h, hP, hn, hc⟩ := circle_in i
  have hcell := HG.out.cell (j := n) (by omega)
  obtain ⟨x0, x1⟩ := cosN_bd (i := n) (by omega)
  have back : (P : Int) - 4096 + 4096 = (P : Int) := by omega
  rcases hc with ⟨a1, a2, e⟩ | ⟨a1, a2, a3, e⟩ | ⟨a1, a2, a3, e⟩ | ⟨a1, a2, e⟩
  all_goals
    rw [e]
    clear e
    generalize cosN n = x at hcell x0 x1 ⊢
    rcases tmod_circle i with ⟨ht0, ht⟩ | ⟨ht0, ht⟩
    all_goals
      rw [h] at ht
      clear ht0 h
      try subst a2
      go_enter Tryz.func128, Tryz.ntmps128
      go_wp2
      go_ret
      exact ⟨rfl, rfl⟩

theorem ref04Rise_any (g : Nat) (i : Int) (w : World) (hg : IFun w g 2 .i64 1025 cosN) (hi : -9223372036854775808 ≤ i) (hi' : i ≤ 9223372036854775807) :
    Calls Tryz.prog 87 #[.slice (some ⟨g, 0, none⟩) 1025 1025, .int .i64 i] w fun e w' => e = .returned (.int .i64 (riseP i)) ∧ w = w' := by
  have HG := Lib.hid hg; clear hg
  by_cases h0 : i < 0
  · rw [riseP_neg h0]
    go_enter Tryz.func87, Tryz.ntmps87
    go_wp2
    go_ret
    exact ⟨rfl, rfl⟩
  · by_cases h1 : 128 ≤ i
    · rw [riseP_big h1]
      go_enter Tryz.func87, Tryz.ntmps87
      go_wp2
      go_ret
      exact ⟨rfl, rfl⟩
    · rw [riseP_in (by omega) (by omega)]
      go_enter Tryz.func87, Tryz.ntmps87
      go_wp2_with (go_at_call 128; refine (ref04Cos_any g _ _ HG.out (by omega) (by omega)).mono ?_; rintro e w' ⟨rfl, rfl⟩)
      go_ret
      exact ⟨rfl, rfl⟩

/-! ### Edges -/
def edgesL : List Int := [0, 4, 8, 12, 16, 20, 24, 28, 32, 40, 48, 56, 64, 80, 96, 112, 128, 160, 192, 256, 352, 512]
def edgeN (k : Nat) : Int := edgesL.getD k 0
theorem edge_bd : ∀ k : Nat, k < 22 → 0 ≤ edgeN k ∧ edgeN k ≤ 512 := by decide
theorem edge_take : ∀ k : Nat, k < 21 → edgesL.take (k + 1 + 1) = edgesL.take (k + 1) ++ [edgeN (k + 1)] := by decide
theorem edge_4 : ∀ k : Nat, k < 8 → edgeN (k + 1) = edgeN k + 4 := by decide
theorem edge_8 : ∀ k : Nat, 8 ≤ k → k < 12 → edgeN (k + 1) = edgeN k + 8 := by
  intro k h0 h1
  have : k = 8 ∨ k = 9 ∨ k = 10 ∨ k = 11 := by omega
  rcases this with rfl | rfl | rfl | rfl <;> decide
theorem edge_16 : ∀ k : Nat, 12 ≤ k → k < 16 → edgeN (k + 1) = edgeN k + 16 := by
  intro k h0 h1
  have : k = 12 ∨ k = 13 ∨ k = 14 ∨ k = 15 := by omega
  rcases this with rfl | rfl | rfl | rfl <;> decide
theorem edge_32 : ∀ k : Nat, 16 ≤ k → k < 18 → edgeN (k + 1) = edgeN k + 32 := by
  intro k h0 h1
  have : k = 16 ∨ k = 17 := by omega
  rcases this with rfl | rfl <;> decide
theorem edge_last : edgeN 19 = edgeN 18 + 64 ∧ edgeN 20 = edgeN 19 + 96 ∧ edgeN 21 = edgeN 20 + 160 := by decide

def ofN (n : Nat) : Nat := (edgesL.filter fun e => decide (e ≤ (n : Int))).length - 1
theorem ofN_all : ∀ n : Nat, n < 512 → 1 ≤ (edgesL.filter fun e => decide (e ≤ (n : Int))).length ∧ ofN n < 21 ∧ edgeN (ofN n) ≤ n ∧ (n : Int) < edgeN (ofN n + 1) := by decide +kernel
theorem info_int04 : (Tryz.prog.info? 3).map (fun i => (i.zero, i.size, i.bytes)) = some (some (.int .i64 0), 1, 8) := by kernel_rfl

set_option maxRecDepth 100000 in
theorem ref04Edges_any (w : World) :
    Calls Tryz.prog 53 #[] w fun e w' => ∃ a c, e = .returned (.slice a 22 c) ∧ IntsAt w' w'.heap.size .i64 a 22 edgesL ∧ Below w.heap.size w w' := by
  have hO := Lib.hid (World.ownsRow_lit (base := w.heap.size) (e := 3) (size := 1) w #[.int .i64 0] 1 (Nat.le_refl _) (by decide) rfl)
  have hB := Lib.hid (Below.alloc_new w (.cells #[.int .i64 0] 3))
  go_enter Tryz.func53, Tryz.ntmps53
  go_wp2
  go_loopw [1, 2, 3, 4] (fun v a i _ wr => ∃ k : Nat, k ≤ 21 ∧ i = .int .i64 k ∧ a = .int .i64 (edgeN k) ∧ RowKit.Hid (wr.ownsRow w.heap.size 3 1 v (k + 1) ((edgesL.take (k + 1)).map (Value.int .i64)) ∧ Below w.heap.size w wr))
    (fun _ _ i _ _ => (21 - intOf i).toNat)
  case atStart => exact ⟨0, by omega, rfl, rfl, hO.out, hB.out⟩
  case round =>
    obtain ⟨k, hk, rfl, rfl, H⟩ := hrel
    clear hO hB
    by_cases hlt : k < 21
    · obtain ⟨e0, e1⟩ := edge_bd k (by omega)
      have HT := Lib.hid (edge_take k hlt)
      have hsz := H.out.2.size
      have cls : ∃ d : Int, 0 ≤ d ∧ d ≤ 160 ∧ edgeN (k + 1) = edgeN k + d ∧ ((k < 8 ∧ d = 4) ∨ (8 ≤ k ∧ k < 12 ∧ d = 8) ∨ (12 ≤ k ∧ k < 16 ∧ d = 16) ∨ (16 ≤ k ∧ k < 18 ∧ d = 32) ∨ (18 ≤ k ∧ k ≤ 18 ∧ d = 64) ∨ (19 ≤ k ∧ k ≤ 19 ∧ d = 96) ∨ (20 ≤ k ∧ k ≤ 20 ∧ d = 160)) := by
        by_cases h1 : k < 8
        · exact ⟨4, by omega, by omega, edge_4 k h1, .inl ⟨h1, rfl⟩⟩
        · by_cases h2 : k < 12
          · exact ⟨8, by omega, by omega, edge_8 k (by omega) h2, .inr (.inl ⟨by omega, h2, rfl⟩)⟩
          · by_cases h3 : k < 16
            · exact ⟨16, by omega, by omega, edge_16 k (by omega) h3, .inr (.inr (.inl ⟨by omega, h3, rfl⟩))⟩
            · by_cases h4 : k < 18
              · exact ⟨32, by omega, by omega, edge_32 k (by omega) h4, .inr (.inr (.inr (.inl ⟨by omega, h4, rfl⟩)))⟩
              · have : k = 18 ∨ k = 19 ∨ k = 20 := by omega
                rcases this with rfl | rfl | rfl
                · exact ⟨64, by omega, by omega, edge_last.1, by omega⟩
                · exact ⟨96, by omega, by omega, edge_last.2.1, by omega⟩
                · exact ⟨160, by omega, by omega, edge_last.2.2, by omega⟩
      obtain ⟨d, d0, d1, hd, cls⟩ := cls
      have HD := Lib.hid hd
      clear hd
      generalize edgeN k = x at e0 e1 HD
      have hrow := Lib.hid H.out.1
      have hbel := Lib.hid (H.out.2.alloc hsz (.cells #[.int .i64 (x + d)] 3))
      have hsrc := Lib.hid (lit_ints wr 3 .i64 [x + d] #[.int .i64 (x + d)] (0, 0) rfl (by simp))
      have hown0 := Lib.hid (World.ownsRow.alloc H.out.1 (.cells #[.int .i64 (x + d)] 3))
      have hob := Lib.hid (own_base H.out.1)
      rcases cls with ⟨k0, rfl⟩ | ⟨k0, k1, rfl⟩ | ⟨k0, k1, rfl⟩ | ⟨k0, k1, rfl⟩ | ⟨k0, k1, rfl⟩ | ⟨k0, k1, rfl⟩ | ⟨k0, k1, rfl⟩
      all_goals
        go_wp2_with (at_builtin; go_loud (refine append_ints rfl _ _ 72 rfl w.heap.size 3 .i64 8 Tryz.underlying72 info_int04 _ (k + 1) (edgesL.take (k + 1)) rfl hown0.out (some ⟨wr.heap.size, 0, none⟩) 1 1 _ [_] rfl hsrc.out (by simp) ?c1 ?c2 ?c3 ?_))
        case c1 => unfold maxLen; omega
        case c2 => omega
        case c3 => first | omega | (simp; omega)
        intro v2 w2 hown hgrow _
        have H2 : RowKit.Hid (w2.ownsRow w.heap.size 3 1 v2 (k + 1 + 1) ((edgesL.take (k + 1 + 1)).map (Value.int .i64)) ∧ Below w.heap.size w w2) := by
          refine ⟨?_, hbel.out.grown hgrow (by simp; omega) hob.out⟩
          rw [HT.out, HD.out]; simpa [List.map_take] using hown
        clear hown hgrow
        go_wp2
        go_roundw
        case rel => exact ⟨k + 1, by omega, by go_num, by rw [HD.out], H2.out⟩
        case measure => simp [intOf] <;> omega
    · obtain rfl : k = 21 := by omega
      have HI := Lib.hid (own_ints H.out.1)
      have HB := Lib.hid H.out.2
      clear H
      go_wp2
      go_ret
      obtain ⟨a, c, rfl, hi⟩ := HI.out
      exact ⟨a, c, rfl, hi, HB.out⟩
end Go.Proofs.YtobhoecmmpijgaaGreat

/- Plain facts of layer 10 that want no range coder: how many bits a number has, the ceilings of lines, which ceilings are right, lists that are filled. Nothing here speaks of the program. -/
namespace Go.Proofs.YtobhoecmmpijgaaGreat
open Go Go.RowKit
set_option linter.unusedVariables false

/-! ### Bits -/
/-- How many bits a number has, without its sign. -/
def bitsI (x : Int) : Nat := bitLen x.natAbs
theorem bitLen_zero : bitLen 0 = 0 := rfl
theorem bitLen_half {n : Nat} (h : n ≠ 0) : bitLen n = bitLen (n / 2) + 1 := by
  by_cases h1 : n / 2 = 0
  · obtain rfl : n = 1 := by omega
    decide
  · have := bitLen_shift n 1 (by simpa using h1)
    rw [this]; simp only [Nat.pow_one]; omega
theorem bitLen_le {n k : Nat} (h : n < 2 ^ k) : bitLen n ≤ k := by
  by_cases h0 : n = 0
  · subst h0; rw [bitLen_zero]; omega
  · have h1 := (bitLen_spec n).2 h0
    have h2 : 2 ^ (bitLen n - 1) < 2 ^ k := by omega
    have h3 := (Nat.pow_lt_pow_iff_right (by decide : 1 < 2)).1 h2
    omega
theorem bitsI_le {x : Int} (h0 : -2147483648 ≤ x) (h1 : x ≤ 2147483648) : bitsI x ≤ 32 := bitLen_le (by omega)
/-! ### Ceilings -/
/-- The greatest of n numbers from a on, and of nought. -/
def maxTo (f : Nat → Int) (a : Nat) : Nat → Int
  | 0 => 0
  | n + 1 => max (maxTo f a n) (f (a + n))
theorem maxTo_succ (f : Nat → Int) (a n : Nat) : maxTo f a (n + 1) = max (maxTo f a n) (f (a + n)) := rfl
theorem maxTo_bd {f : Nat → Int} {a : Nat} {m : Int} (h : 0 ≤ m) : ∀ n, (∀ i, i < n → f (a + i) ≤ m) → 0 ≤ maxTo f a n ∧ maxTo f a n ≤ m := by
  intro n
  induction n with
  | zero => intro _; exact ⟨Int.le_refl _, h⟩
  | succ n ih =>
    intro hf
    have := ih fun i hi => hf i (by omega)
    have := hf n (by omega)
    rw [maxTo_succ]; omega
/-- The edges as counts. -/
def edgeK (k : Nat) : Nat := (edgeN k).toNat
theorem edgeK_eq {k : Nat} (h : k < 22) : edgeN k = (edgeK k : Int) := by have := edge_bd k h; unfold edgeK; omega
theorem edgeK_lt : ∀ k : Nat, k < 21 → edgeK k < edgeK (k + 1) ∧ edgeK (k + 1) ≤ 512 := by decide
/-- The bits of each of some numbers. -/
def bitF (x : Nat → Int) (i : Nat) : Int := bitsI (x i)
/-- The ceilings of lines. -/
def ceilF (x : Nat → Int) (b : Nat) : Int := maxTo (bitF x) (edgeK b) (edgeK (b + 1) - edgeK b)
theorem bitF_bd {x : Nat → Int} (h : ∀ i, i < 512 → -2147483648 ≤ x i ∧ x i ≤ 2147483647) {i : Nat} (hi : i < 512) : 0 ≤ bitF x i ∧ bitF x i ≤ 32 := by
  have := bitsI_le (x := x i) (by have := h i hi; omega) (by have := h i hi; omega)
  unfold bitF; omega
/-! ### Which are right -/
def rightB (zs : List Int) : Bool := decide (zs.length = 21) && zs.all fun z => decide (0 ≤ z) && decide (z ≤ 26)
theorem rightB_true {zs : List Int} (h : rightB zs = true) : zs.length = 21 ∧ ∀ j, j < 21 → 0 ≤ zs.getD j 0 ∧ zs.getD j 0 ≤ 26 := by
  unfold rightB at h
  rw [Bool.and_eq_true, decide_eq_true_eq, List.all_eq_true] at h
  refine ⟨h.1, fun j hj => ?_⟩
  have hj' : j < zs.length := by omega
  have := h.2 (zs.getD j 0) (by simp [List.getD, hj'])
  simpa using this
theorem rightB_of {zs : List Int} (hl : zs.length = 21) (h : ∀ j, j < 21 → 0 ≤ zs.getD j 0 ∧ zs.getD j 0 ≤ 26) : rightB zs = true := by
  unfold rightB
  rw [Bool.and_eq_true, decide_eq_true_eq, List.all_eq_true]
  refine ⟨hl, fun z hz => ?_⟩
  obtain ⟨j, hj, rfl⟩ := List.getElem_of_mem hz
  have := h j (by omega)
  simpa [List.getD, hj] using this
theorem rightB_len {zs : List Int} (h : zs.length ≠ 21) : rightB zs = false := by unfold rightB; simp [h]
theorem rightB_at {zs : List Int} {j : Nat} (hj : j < zs.length) (h : zs.getD j 0 < 0 ∨ 26 < zs.getD j 0) : rightB zs = false := by
  cases hr : rightB zs with
  | false => rfl
  | true =>
    have h1 := rightB_true hr
    have := h1.2 j (by omega)
    omega

/-! ### Lists that are filled -/
/-- The first k of some numbers, noughts behind. -/
def preF (F : Nat → Int) (k i : Nat) : Int := if i < k then F i else 0
theorem preF_zero (F : Nat → Int) (i : Nat) : preF F 0 i = 0 := if_neg (by omega)
theorem preF_next (F : Nat → Int) (k i : Nat) : (if i = k then F k else preF F k i) = preF F (k + 1) i := by
  unfold preF
  by_cases h : i = k
  · subst h; rw [if_pos rfl, if_pos (by omega)]
  · rw [if_neg h]; split
    · rw [if_pos (by omega)]
    · rw [if_neg (by omega)]
theorem preF_end (F : Nat → Int) {k i : Nat} (h : i < k) : preF F k i = F i := if_pos h
/-- The ceilings of the first k bands, the greatest of m lines of the next, noughts behind. -/
def accF (x : Nat → Int) (k m i : Nat) : Int := if i < k then ceilF x i else if i = k then maxTo (bitF x) (edgeK k) m else 0
theorem accF_zero (x : Nat → Int) (k i : Nat) : accF x k 0 i = preF (ceilF x) k i := by
  unfold accF preF
  split
  · rfl
  · split <;> rfl
theorem accF_here (x : Nat → Int) (k m : Nat) : accF x k m k = maxTo (bitF x) (edgeK k) m := by unfold accF; rw [if_neg (by omega), if_pos rfl]
theorem accF_next (x : Nat → Int) (k m i : Nat) {y : Int} (h : y = maxTo (bitF x) (edgeK k) (m + 1)) : (if i = k then y else accF x k m i) = accF x k (m + 1) i := by
  subst h
  unfold accF
  by_cases h : i = k
  · subst h; rw [if_pos rfl, if_neg (by omega), if_pos rfl]
  · rw [if_neg h]; split
    · rfl
    · rfl
theorem accF_end (x : Nat → Int) {k n : Nat} (i : Nat) (h : n = edgeK (k + 1) - edgeK k) : accF x k n i = preF (ceilF x) (k + 1) i := by
  subst h
  unfold accF preF
  by_cases h : i = k
  · subst h; rw [if_neg (by omega), if_pos rfl, if_pos (by omega)]; rfl
  · split
    · rw [if_pos (by omega)]
    · rw [if_neg (by omega)]
end Go.Proofs.YtobhoecmmpijgaaGreat

/- Plain facts of models, for the statements of layers 5 to 7: parts, which symbol a number finds, what is learnt. Nothing here speaks of the program. -/
namespace Go.Proofs.YtobhoecmmpijgaaGreat
open Go
set_option linter.unusedVariables false

/-- How often the first n symbols come. -/
def sumN (l : List Int) (n : Nat) : Int := (l.take n).sum
theorem sumN_zero (l : List Int) : sumN l 0 = 0 := by simp [sumN]
theorem sumN_succ (l : List Int) (n : Nat) (h : n < l.length) : sumN l (n + 1) = sumN l n + l.getD n 0 := by
  unfold sumN; rw [take_snocI l n h]; simp
theorem sumN_all (l : List Int) : sumN l l.length = l.sum := by simp [sumN]
/-- Bounds of parts, where each number lies between a and b. -/
theorem sumN_bd {l : List Int} {a b : Int} (h : ∀ j, j < l.length → a ≤ l.getD j 0 ∧ l.getD j 0 ≤ b) : ∀ n, n ≤ l.length → a * n ≤ sumN l n ∧ sumN l n ≤ b * n := by
  intro n
  induction n with
  | zero => intro _; rw [sumN_zero]; simp
  | succ n ih =>
    intro hn
    obtain ⟨h1, h2⟩ := ih (by omega)
    obtain ⟨h3, h4⟩ := h n (by omega)
    rw [sumN_succ l n (by omega)]
    have e1 : a * ((n + 1 : Nat) : Int) = a * n + a := by rw [Int.natCast_add, Int.mul_add]; simp
    have e2 : b * ((n + 1 : Nat) : Int) = b * n + b := by rw [Int.natCast_add, Int.mul_add]; simp
    omega
theorem sumN_rise {l : List Int} (h : ∀ j, j < l.length → 0 ≤ l.getD j 0) {m n : Nat} (hmn : m ≤ n) (hn : n ≤ l.length) : sumN l m ≤ sumN l n := by
  induction n with
  | zero => obtain rfl : m = 0 := by omega
            exact Int.le_refl _
  | succ n ih =>
    rcases Nat.lt_or_ge m (n + 1) with h1 | h1
    · have := ih (by omega) (by omega)
      have := h n (by omega)
      rw [sumN_succ l n (by omega)]; omega
    · obtain rfl : m = n + 1 := by omega
      exact Int.le_refl _
/-- The symbol in whose part a number is: from the i-th one on, n of them. -/
def findGo (l : List Int) (at' : Int) : Nat → Nat → Nat
  | _, 0 => l.length - 1
  | i, n + 1 => if at' < sumN l (i + 1) then i else findGo l at' (i + 1) n
def findP (l : List Int) (at' : Int) : Nat := findGo l at' 0 l.length
/-- Who is below the i-th symbol's upper end, and not below the ones ahead, finds it. -/
theorem findGo_eq {l : List Int} {at' : Int} {i : Nat} (hi : i < l.length) (h1 : at' < sumN l (i + 1)) : ∀ n j, j + n = l.length → j ≤ i → (∀ k, j ≤ k → k < i → sumN l (k + 1) ≤ at') → findGo l at' j n = i := by
  intro n
  induction n with
  | zero => intro j hj hji _; omega
  | succ n ih =>
    intro j hj hji h
    unfold findGo
    by_cases e : j = i
    · subst e; rw [if_pos h1]
    · rw [if_neg (by have := h j (Nat.le_refl _) (by omega); omega)]
      exact ih (j + 1) (by omega) (by omega) fun k hk hki => h k (by omega) hki
theorem findP_eq {l : List Int} (hp : ∀ j, j < l.length → 1 ≤ l.getD j 0) {at' : Int} {i : Nat} (hi : i < l.length) (h0 : sumN l i ≤ at') (h1 : at' < sumN l (i + 1)) : findP l at' = i := by
  refine findGo_eq hi h1 _ 0 (by omega) (by omega) fun k _ hk => ?_
  have := sumN_rise (l := l) (fun j hj => by have := hp j hj; omega) (m := k + 1) (n := i) (by omega) (by omega)
  omega
/-- What is found is where the number lies, if it is below all. -/
theorem findP_is {l : List Int} {at' : Int} (h0 : 0 ≤ at') (h1 : at' < sumN l l.length) : findP l at' < l.length ∧ sumN l (findP l at') ≤ at' ∧ at' < sumN l (findP l at' + 1) := by
  have go : ∀ n i, i + n = l.length → sumN l i ≤ at' → findGo l at' i n < l.length ∧ sumN l (findGo l at' i n) ≤ at' ∧ at' < sumN l (findGo l at' i n + 1) := by
    intro n
    induction n with
    | zero =>
      intro i hi hs
      rw [show i = l.length by omega] at hs
      omega
    | succ n ih =>
      intro i hi hs
      unfold findGo
      by_cases h : at' < sumN l (i + 1)
      · rw [if_pos h]; exact ⟨by omega, hs, h⟩
      · rw [if_neg h]; exact ih (i + 1) (by omega) (by omega)
  exact go l.length 0 (by omega) (by rw [sumN_zero]; exact h0)

/-- A model's list: 1 to 64 symbols, each comes, together at most 8192 times. -/
def GoodL (l : List Int) : Prop := 1 ≤ l.length ∧ l.length ≤ 64 ∧ (∀ j, j < l.length → 1 ≤ l.getD j 0) ∧ l.sum ≤ 8192
theorem GoodL.sum_le {l : List Int} (h : GoodL l) {n : Nat} (hn : n ≤ l.length) : 0 ≤ sumN l n ∧ sumN l n ≤ 8192 := by
  have a := sumN_rise (l := l) (fun j hj => by have := h.2.2.1 j hj; omega) (m := 0) (n := n) (by omega) hn
  have b := sumN_rise (l := l) (fun j hj => by have := h.2.2.1 j hj; omega) (m := n) (n := l.length) hn (Nat.le_refl _)
  rw [sumN_zero] at a
  rw [sumN_all] at b
  have := h.2.2.2
  omega
theorem GoodL.own {l : List Int} (h : GoodL l) {j : Nat} (hj : j < l.length) : 1 ≤ l.getD j 0 ∧ l.getD j 0 ≤ 8192 := by
  have a := h.sum_le (n := j) (by omega)
  have b := h.sum_le (n := j + 1) (by omega)
  rw [sumN_succ l j hj] at b
  have := h.2.2.1 j hj
  omega
theorem goodL_ones {n : Nat} (h0 : 1 ≤ n) (h1 : n ≤ 64) : GoodL (List.replicate n 1) := by
  refine ⟨by simp; omega, by simp; omega, fun j hj => ?_, ?_⟩
  · simp at hj; simp [List.getD, hj]
  · have : ∀ n : Nat, (List.replicate n (1 : Int)).sum = n := by
      intro n
      induction n with
      | zero => rfl
      | succ n ih => rw [List.replicate_succ, List.sum_cons, ih]; omega
    rw [this]; omega
/-- s comes 32 times more often. -/
def riseL (l : List Int) (s : Nat) : List Int := l.set s (l.getD s 0 + 32)
/-- Each comes half as often, rounded upwards: the first k of them. -/
def halfK (l : List Int) (k : Nat) : List Int := (l.take k).map (fun x => (x + 1) / 2) ++ l.drop k
def halfL (l : List Int) : List Int := l.map fun x => (x + 1) / 2
/-- What is learnt. -/
def learnP (l : List Int) (s : Nat) : List Int := if 8192 < (riseL l s).sum then halfL (riseL l s) else riseL l s
theorem riseL_len (l : List Int) (s : Nat) : (riseL l s).length = l.length := by simp [riseL]
theorem halfL_len (l : List Int) : (halfL l).length = l.length := by simp [halfL]
theorem learnP_len (l : List Int) (s : Nat) : (learnP l s).length = l.length := by unfold learnP; split <;> simp [halfL_len, riseL_len]
theorem getD_set' (l : List Int) (j k : Nat) (x : Int) (h : j < l.length) : (l.set j x).getD k 0 = if k = j then x else l.getD k 0 := by
  simp only [List.getD, List.getElem?_set]
  by_cases e : j = k
  · subst e; simp [h]
  · rw [if_neg e, if_neg (fun c => e c.symm)]
theorem sum_set (l : List Int) (s : Nat) (x : Int) (h : s < l.length) : (l.set s x).sum = l.sum - l.getD s 0 + x := by
  induction l generalizing s with
  | nil => simp at h
  | cons a l ih =>
    cases s with
    | zero => simp [List.getD]; omega
    | succ s =>
      have := ih s (by simpa using h)
      simp only [List.set_cons_succ, List.sum_cons, List.getD_cons_succ] at this ⊢
      omega
theorem riseL_sum {l : List Int} {s : Nat} (h : s < l.length) : (riseL l s).sum = l.sum + 32 := by
  unfold riseL; rw [sum_set l s _ h]; omega
theorem halfL_sum {l : List Int} : (halfL l).sum * 2 ≤ l.sum + l.length := by
  induction l with
  | nil => simp [halfL]
  | cons a l ih =>
    unfold halfL at *
    simp only [List.map_cons, List.sum_cons, List.length_cons]
    omega
theorem halfL_getD {l : List Int} {j : Nat} (h : j < l.length) : (halfL l).getD j 0 = (l.getD j 0 + 1) / 2 := by simp [halfL, List.getD, h]
theorem riseL_own {l : List Int} (h : GoodL l) {s j : Nat} (hs : s < l.length) (hj : j < l.length) : 1 ≤ (riseL l s).getD j 0 ∧ (riseL l s).getD j 0 ≤ 8224 := by
  unfold riseL
  rw [getD_set' l s j _ hs]
  have a := h.own hs
  have b := h.own hj
  split <;> omega
theorem learnP_good {l : List Int} (h : GoodL l) {s : Nat} (hs : s < l.length) : GoodL (learnP l s) := by
  have hsum := riseL_sum hs
  have h3 := h.2.2.2
  unfold learnP
  split
  · refine ⟨by rw [halfL_len, riseL_len]; exact h.1, by rw [halfL_len, riseL_len]; exact h.2.1, fun j hj => ?_, ?_⟩
    · rw [halfL_len, riseL_len] at hj
      rw [halfL_getD (by rw [riseL_len]; exact hj)]
      have := riseL_own h hs hj
      omega
    · have := halfL_sum (l := riseL l s)
      rw [riseL_len] at this
      have := h.2.1
      omega
  · refine ⟨by rw [riseL_len]; exact h.1, by rw [riseL_len]; exact h.2.1, fun j hj => ?_, by omega⟩
    rw [riseL_len] at hj
    exact (riseL_own h hs hj).1
theorem halfK_zero (l : List Int) : halfK l 0 = l := by simp [halfK]
theorem halfK_all (l : List Int) : halfK l l.length = halfL l := by simp [halfK, halfL]
theorem halfK_len (l : List Int) {k : Nat} (h : k ≤ l.length) : (halfK l k).length = l.length := by simp [halfK]; omega
theorem halfK_at (l : List Int) {k : Nat} (h : k < l.length) : (halfK l k).getD k 0 = l.getD k 0 := by
  unfold halfK
  simp only [List.getD, List.getElem?_append]
  rw [if_neg (by simp; omega)]
  simp only [List.length_map, List.length_take, Nat.min_eq_left (Nat.le_of_lt h), Nat.sub_self, List.getElem?_drop, Nat.add_zero]
theorem halfK_next (l : List Int) {k : Nat} (h : k < l.length) : (halfK l k).set k ((l.getD k 0 + 1) / 2) = halfK l (k + 1) := by
  unfold halfK
  rw [take_snocI l k h, List.map_append, List.append_assoc, List.set_append_right _ _ (by simp; omega)]
  congr 1
  simp only [List.length_map, List.length_take, Nat.min_eq_left (Nat.le_of_lt h), Nat.sub_self]
  rw [List.drop_eq_getElem_cons h, List.set_cons_zero]
  simp [List.getD, h]
end Go.Proofs.YtobhoecmmpijgaaGreat
