/- Plain facts, and what functions give, for the proofs of this seat: several texts in one, each with its own first remark. -/
import Derived.Test.YtkhhhejmbgloeaaGreatGG
import Derived.Test.YtkhhhejmbgloeaaGreatGz
import Derived.Test.YtkhhhejmbgloeaaGreatGH
import Derived.Test.YtkhhhejmbgloeaaGreatGE
import Derived.Test.YtkhhhejmbgloeaaGreatGD

/- Plain facts of layer 13: a tone's payload has more than ten bytes, whichever loss it has. Nothing here speaks of the program. -/
namespace Go.Proofs.YtkhhhejmbgloeaaGreat
open Go Go.RowKit
set_option linter.unusedVariables false
set_option linter.unusedSimpArgs false
set_option maxRecDepth 100000

/-! ### As they may be reckoned -/
/-- The first block's samples, folded. -/
def toneU0 : List Int := [
  1249, 3748, -6247, -8745, 11240, 13735, -16227, -18717, 21204, 23688, -26168, -28644, 31117, 33584, -36047, -38503,
  40954, 43399, -45837, -48269, 50693, 53110, -55519, -57919, 60310, 62693, -65065, -67428, 69782, 72125, -74456, -76776,
  79085, 81382, -83666, -85939, 88198, 90444, -92677, -94894, 97098, 99289, -101463, -103621, 105766, 107893, -110004, -112099,
  114177, 116237, -118281, -120306, 122313, 124302, -126273, -128223, 130156, 132068, -133960, -135832, 137684, 139515, -141325, -143113,
  0, 0, 0, 0, 0, 0, 0, 0, 0, 0, 0, 0, 0, 0, 0, 0,
  0, 0, 0, 0, 0, 0, 0, 0, 0, 0, 0, 0, 0, 0, 0, 0,
  0, 0, 0, 0, 0, 0, 0, 0, 0, 0, 0, 0, 0, 0, 0, 0,
  0, 0, 0, 0, 0, 0, 0, 0, 0, 0, 0, 0, 0, 0, 0, 0]
/-- Each later block's. -/
def toneU1 : List Int := [
  1249, 3748, -6247, -8745, 11240, 13735, -16227, -18717, 21204, 23688, -26168, -28644, 31117, 33584, -36047, -38503,
  40954, 43399, -45837, -48269, 50693, 53110, -55519, -57919, 60310, 62693, -65065, -67428, 69782, 72125, -74456, -76776,
  79085, 81382, -83666, -85939, 88198, 90444, -92677, -94894, 97098, 99289, -101463, -103621, 105766, 107893, -110004, -112099,
  114177, 116237, -118281, -120306, 122313, 124302, -126273, -128223, 130156, 132068, -133960, -135832, 137684, 139515, -141325, -143113,
  144881, 146627, -148349, -150050, 151728, 153384, -155016, -156626, 158211, 159773, -161310, -162823, 164312, 165775, -167215, -168629,
  170017, 171380, -172717, -174028, 175313, 176571, -177803, -179008, 180186, 181337, -182460, -183556, 184625, 185666, -186678, -187663,
  188620, 189548, -190447, -191318, 192160, 192973, -193757, -194512, 195237, 195933, -196600, -197237, 197843, 198421, -198969, -199486,
  199973, 200431, -200858, -201255, 201622, 201958, -202264, -202540, 202785, 202999, -203183, -203336, 203459, 203551, -203612, -203643]
/-- The first block's lines. -/
def toneA0 : List Int := [
  -12730, 12731, 12753, -12754, -12801, 12800, 12870, -12870, -12965, 12965, 13086, -13086, -13234, 13234, 13411, -13412,
  -13620, 13621, 13864, -13864, -14146, 14145, 14469, -14469, -14841, 14841, 15267, -15266, -15755, 15756, 16318, -16318,
  -16966, 16965, 17716, -17716, -18591, 18592, 19621, -19621, -20842, 20842, 22310, -22310, -24100, 24101, 26327, -26327,
  -29162, 29162, 32885, -32885, -37979, 37978, 45354, -45354, -56966, 56966, 77893, -77893, -126762, 126761, 371202, 204797,
  -213798, -362202, -117756, 117755, 68877, -68876, -47933, 47932, 36299, -36299, -28896, 28896, 23769, -23770, -20008, 20008,
  17128, -17127, -14850, 14850, 13003, -13003, -11471, 11471, 10180, -10180, -9074, 9074, 8115, -8115, -7273, 7273,
  6526, -6525, -5856, 5857, 5252, -5253, -4702, 4702, 4197, -4196, -3729, 3728, 3292, -3292, -2883, 2884,
  2497, -2497, -2130, 2130, 1778, -1777, -1438, 1438, 1108, -1108, -786, 787, 470, -470, -157, 156]
/-- Each later block's. -/
def toneA1 : List Int := [
  0, 0, -1, 0, -1, 0, -1, 0, 1, -1, 0, 0, 0, -1, -1, 0,
  0, 1, 0, 0, 0, 0, 0, 0, 0, -1, 0, 1, 0, 0, 0, 0,
  -1, -1, 0, 0, 0, 0, 0, 0, 0, 0, 0, 0, 0, 0, 0, 0,
  0, 0, 0, 1, -1, 0, -1, 0, 0, 0, 0, 0, 0, 0, 0, 1152000,
  -1152000, 0, 0, 0, 0, 0, 0, -1, 0, 1, -1, 0, 0, 0, 0, 0,
  1, 0, 0, 0, 0, 0, 0, 0, 0, 0, 0, 0, 0, 0, 0, 0,
  0, 1, 0, 0, 0, 0, 0, 0, 0, 1, 0, -1, 0, 0, 1, 0,
  0, -1, 0, 0, 0, 0, 0, 0, 0, 0, 0, 0, 0, 0, -1, 0]
/-- The bands' ceilings. -/
def toneC : List Int := [
  14, 14, 14, 14, 14, 14, 14, 14, 14, 14, 14, 14, 14, 14, 14, 14, 15, 15, 21, 21, 14]
def riseQ (i : Int) : Int := if i < 0 then 0 else if 128 ≤ i then 16777216 else cosQ (1024 - 4 * (2 * i + 1))
theorem riseP_q (i : Int) : riseP i = riseQ i := by unfold riseP riseQ; rw [cosP_q]
def slopeQ (i : Nat) : Int := if riseQ ((255 - i : Nat) : Int) < riseQ (i : Int) then riseQ ((255 - i : Nat) : Int) else riseQ (i : Int)
theorem slopeF_q (i : Nat) : slopeF 256 i = slopeQ i := by
  unfold slopeF slopeQ
  rw [riseP_q, riseP_q]
def toneF (i : Nat) : Int := if i < 128 then 0 else 16 * toneL.getD ((i - 128) % 4) 0
theorem tone_all : allF (fun _ => 0) (frmF toneL 4 0) = toneF := by
  funext i
  unfold allF toneF frmF
  by_cases h : i < 128
  · rw [if_pos h, if_pos h]; rfl
  · rw [if_neg h, if_neg h, if_neg (by decide), Nat.zero_add]; omega
def blkQ (m i : Nat) : Int := (toneF (128 * m + i) * slopeQ i + 8388608) / 16777216
theorem blkF_q (m i : Nat) : blkF toneF m i = blkQ m i := by
  unfold blkF shapeF blkQ
  rw [rndP_in (by decide) (by decide), show P2 (24 : Int).toNat = 16777216 by decide, slopeF_q, show (16777216 : Int) / 2 = 8388608 by decide]
def foldOK (m : Nat) (U : List Int) : Bool := (List.range 128).all fun i => decide (foldF 128 (blkQ m) i = U.getD i 0)
theorem fold_0 : foldOK 0 toneU0 = true := by decide +kernel
theorem fold_1 : foldOK 1 toneU1 = true := by decide +kernel
theorem fold_at {m : Nat} {U : List Int} (h : foldOK m U = true) {i : Nat} (hi : i < 128) : foldF 128 (blkF toneF m) i = U.getD i 0 := by
  rw [show blkF toneF m = blkQ m from funext fun i => blkF_q m i]
  exact of_decide_eq_true (List.all_eq_true.1 h i (List.mem_range.2 hi))
/-- The cosine of four times an odd number of units. -/
def cosT (h : Nat) : Int := if h < 256 then (odd4.getD (h / 2) 0 : Nat) else if h < 512 then -((odd4.getD ((512 - h) / 2) 0 : Nat) : Int) else if h < 768 then -((odd4.getD ((h - 512) / 2) 0 : Nat) : Int) else (odd4.getD ((1024 - h) / 2) 0 : Nat)
theorem cosT_all : ((List.range 512).all fun q => decide (cosQ ((4 * (2 * q + 1) : Nat) : Int) = cosT (2 * q + 1))) = true := by decide +kernel
theorem cosT_at (h : Nat) (ho : h % 2 = 1) : cosP ((4 * h : Nat) : Int) = cosT (h % 1024) := by
  have e : cosP ((4 * h : Nat) : Int) = cosP ((4 * (h % 1024) : Nat) : Int) := cosP_mod (by omega)
  rw [e, cosP_q]
  obtain ⟨q, hq⟩ : ∃ q, h % 1024 = 2 * q + 1 := ⟨h % 1024 / 2, by omega⟩
  rw [hq]
  exact of_decide_eq_true (List.all_eq_true.1 cosT_all q (List.mem_range.2 (by omega)))
/-- A row of products, from the angle h on, each further by two times s. -/
def dotT (s : Nat) : List Int → Nat → Int
  | [], _ => 0
  | u :: us, h => u * cosT h + dotT s us ((h + 2 * s) % 1024)
theorem dotT_is (s : Nat) (hs : s % 2 = 1) : ∀ (U : List Int) (h : Nat), h % 2 = 1 → dotT s U (h % 1024) = sumF (fun j => U.getD j 0 * cosP ((4 * (h + 2 * s * j) : Nat) : Int)) U.length
  | [], h, _ => rfl
  | u :: us, h, ho => by
    have ih := dotT_is s hs us (h + 2 * s) (by omega)
    show u * cosT (h % 1024) + dotT s us ((h % 1024 + 2 * s) % 1024) = _
    rw [show (h % 1024 + 2 * s) % 1024 = (h + 2 * s) % 1024 by omega, ih, List.length_cons, sumF_front]
    rw [show h + 2 * s * 0 = h by omega, cosT_at h ho]
    congr 1
    refine sumF_congr fun j _ => ?_
    rw [show h + 2 * s + 2 * s * j = h + 2 * s * (j + 1) by rw [Nat.mul_add]; omega]
    rfl
theorem dotF_T (U : List Int) (hU : U.length = 128) (k : Nat) : dotF 128 (fun j => U.getD j 0) k = dotT (2 * k + 1) U ((2 * k + 1) % 1024) := by
  rw [dotT_is _ (by omega) U _ (by omega), hU]
  unfold dotF cosA
  refine sumF_congr fun j _ => ?_
  have e : (2 * j + 1) * (2 * k + 1) * (512 / 128) = 4 * (2 * k + 1 + 2 * (2 * k + 1) * j) := by
    rw [show 512 / 128 = 4 by decide, Nat.mul_comm _ 4]
    congr 1
    rw [Nat.add_mul, Nat.mul_comm (2 * j) (2 * k + 1), ← Nat.mul_assoc, Nat.mul_comm (2 * k + 1) 2]
    omega
  rw [e]
def rowOK (U A : List Int) : Bool := (List.range 128).all fun k => decide ((dotT (2 * k + 1) U ((2 * k + 1) % 1024) + 67108864) / 134217728 = A.getD k 0)
theorem row_0 : rowOK toneU0 toneA0 = true := by decide +kernel
theorem row_1 : rowOK toneU1 toneA1 = true := by decide +kernel
theorem small_0 : (toneA0.all fun x => decide (x.natAbs ≤ 33554431)) = true := by decide +kernel
theorem small_1 : (toneA1.all fun x => decide (x.natAbs ≤ 33554431)) = true := by decide +kernel
theorem getD_all {A : List Int} (h : (A.all fun x => decide (x.natAbs ≤ 33554431)) = true) (k : Nat) : (A.getD k 0).natAbs ≤ 33554431 := by
  by_cases hk : k < A.length
  · rw [List.getD_eq_getElem?_getD, List.getElem?_eq_getElem hk]
    exact of_decide_eq_true (List.all_eq_true.1 h _ (List.getElem_mem hk))
  · rw [List.getD_eq_getElem?_getD, List.getElem?_eq_none (by omega)]; decide
theorem fwd_at {m : Nat} {U A : List Int} (hf : foldOK m U = true) (hU : U.length = 128) (hr : rowOK U A = true) (ha : (A.all fun x => decide (x.natAbs ≤ 33554431)) = true) {k : Nat} (hk : k < 128) : fwdF 128 (blkF toneF m) k = A.getD k 0 := by
  unfold fwdF
  rw [turnF_congr (v := fun j => U.getD j 0) (fun j hj => fold_at hf hj), turnF_128, rndP_in (by decide) (by decide), show P2 (27 : Int).toNat = 134217728 by decide, dotF_T U hU,
    show (134217728 : Int) / 2 = 67108864 by decide, of_decide_eq_true (List.all_eq_true.1 hr k (List.mem_range.2 hk))]
  exact satP_26 (getD_all ha k)
theorem blk_later {m i : Nat} (h0 : 1 ≤ m) : blkQ m i = blkQ 1 i := by
  unfold blkQ toneF
  rw [if_neg (by omega), if_neg (by omega), show (128 * m + i - 128) % 4 = (128 * 1 + i - 128) % 4 by omega]
theorem blkF_later {m : Nat} (h0 : 1 ≤ m) : blkF toneF m = blkF toneF 1 := by
  funext i
  rw [blkF_q, blkF_q, blk_later h0]
/-- The tone's lines. -/
def toneX (k : Nat) : Int := if k % 4 = 0 then toneA0.getD (k / 4) 0 else toneA1.getD (k / 4) 0
theorem tone_lines {k : Nat} (hk : k < 512) : linesF true (allF (fun _ => 0) (frmF toneL 4 0)) k = toneX k := by
  rw [tone_all]
  unfold linesF toneX
  rw [if_pos rfl]
  by_cases h : k % 4 = 0
  · rw [if_pos h, h]
    exact fwd_at fold_0 (by decide) row_0 small_0 (by omega)
  · rw [if_neg h, blkF_later (by omega)]
    exact fwd_at fold_1 (by decide) row_1 small_1 (by omega)
theorem toneC_all : ((List.range 21).all fun b => decide (ceilF toneX b = toneC.getD b 0)) = true := by decide +kernel
theorem tone_ceil {b : Nat} (hb : b < 21) : ceilF (linesF true (allF (fun _ => 0) (frmF toneL 4 0))) b = toneC.getD b 0 := by
  rw [ceilF_ext (fun i hi => tone_lines hi) hb]
  exact of_decide_eq_true (List.all_eq_true.1 toneC_all b (List.mem_range.2 hb))

/-! ### Its bytes -/
theorem mod256_zero {n : Int} : ∀ m, (∀ j, j < m → n / P256 j % 256 = 0) → n % P256 m = 0
  | 0, _ => by rw [show P256 0 = 1 from rfl]; omega
  | m + 1, h => by
    have h1 := mod256_zero m fun j hj => h j (by omega)
    have h2 := h m (by omega)
    have p := P256_pos m
    have e : n = P256 m * (n / P256 m) := by have := Int.mul_ediv_add_emod n (P256 m); omega
    rw [P256_succ, e]
    obtain ⟨q, hq⟩ : ∃ q, n / P256 m = 256 * q := ⟨n / P256 m / 256, by omega⟩
    rw [hq, ← Int.mul_assoc, Int.mul_emod_right]
theorem bytesE_more {e F : EncS} (hI : Inside e F) (hs : 1 ≤ F.s) (hk : e.k = 14) (h1 : e.n / P256 8 = (e.n + e.s - 1) / P256 8) (h2 : e.n % P256 8 ≠ 0) : 10 < (bytesE F).length := by
  apply Nat.lt_of_not_le
  intro hle
  unfold bytesE at hle
  rw [bytesL_len, digL_len] at hle
  obtain ⟨i1, i2, i3⟩ := hI
  rw [hk] at i1 i2 i3
  obtain ⟨d, hd⟩ : ∃ d, F.k = 14 + d := ⟨F.k - 14, by omega⟩
  rw [hd, show 14 + d - 14 = d by omega] at i2 i3
  rw [hd] at hle
  have z : F.n % P256 (8 + d) = 0 := by
    refine mod256_zero _ fun j hj => ?_
    have o := lastK_over (D := digL F.n (14 + d + 4)) (14 + d + 4) (14 + d + 4 - 1 - j) (by omega) (by omega)
    rw [digL_getD _ (by omega)] at o
    unfold digB at o
    rw [show 14 + d + 4 - 1 - (14 + d + 4 - 1 - j) = j by omega] at o
    exact o
  have p := P256_pos d
  have hq := Int.mul_ediv_add_emod F.n (P256 (8 + d))
  rw [z, Int.add_zero, P256_add] at hq
  generalize F.n / (P256 8 * P256 d) = q at hq
  rw [← hq] at i2 i3
  have e1 : P256 8 * P256 d * q = (P256 8 * q) * P256 d := by ac_rfl
  rw [e1] at i2 i3
  have a := Int.le_of_mul_le_mul_right i2 (by omega)
  have b : P256 8 * q < e.n + e.s := Int.lt_of_mul_lt_mul_right (a := P256 d) (by omega) (by omega)
  have m := Int.mul_ediv_add_emod e.n (P256 8)
  have m0 := Int.emod_nonneg e.n (show P256 8 ≠ 0 by decide)
  have m2 := Int.mul_ediv_add_emod (e.n + e.s - 1) (P256 8)
  have m3 := Int.emod_lt_of_pos (e.n + e.s - 1) (show 0 < P256 8 by decide)
  rw [← h1] at m2
  have l1 : P256 8 * (e.n / P256 8) < P256 8 * q := by omega
  have l2 := Int.lt_of_mul_lt_mul_left l1 (by decide)
  have l3 : P256 8 * (e.n / P256 8 + 1) ≤ P256 8 * q := Int.mul_le_mul_of_nonneg_left (by omega) (by decide)
  rw [Int.mul_add, Int.mul_one] at l3
  omega
theorem ceilF_nonneg (x : Nat → Int) (b : Nat) : 0 ≤ ceilF x b := by
  have h : ∀ n a, 0 ≤ maxTo (bitF x) a n := by
    intro n
    induction n with
    | zero => intro a; exact Int.le_refl _
    | succ n ih => intro a; rw [maxTo_succ]; have := ih a; omega
  exact h _ _
theorem putN_alone {e : EncS} {f g d d' : Nat → Int} : ∀ n, (∀ j, j < n → f j = g j) → putN true e f d n = putN true e g d' n
  | 0, _ => rfl
  | n + 1, h => by rw [putN_succ, putN_succ, putW_alone, putW_alone, putN_alone n fun j hj => h j (by omega), h n (by omega)]
def lossOK (lo : Nat) : Bool :=
  let e := putN true (headE 1 1 5 lo) (fun j => toneC.getD j 0) (fun _ => 0) 21
  decide (e.k = 14) && decide (e.n / P256 8 = (e.n + e.s - 1) / P256 8) && decide (e.n % P256 8 ≠ 0)
theorem loss_all : ((List.range 32).all lossOK) = true := by decide +kernel
theorem tone_long {lo : Nat} (h : lo < 32) (ah x : Nat → Int) : 10 < (bytesE (payE true 1 5 lo (c21 (ceilF (linesF true (allF (fun _ => 0) (frmF toneL 4 0))))) ah x)).length := by
  have c := List.all_eq_true.1 loss_all lo (List.mem_range.2 h)
  unfold lossOK at c
  rw [Bool.and_eq_true, Bool.and_eq_true] at c
  obtain ⟨⟨c1, c2⟩, c3⟩ := c
  have e : ceilE true 1 5 lo (c21 (ceilF (linesF true (allF (fun _ => 0) (frmF toneL 4 0))))) ah = putN true (headE 1 1 5 lo) (fun j => toneC.getD j 0) (fun _ => 0) 21 := by
    unfold ceilE
    rw [if_pos rfl]
    exact putN_alone 21 fun j hj => by rw [c21_at _ hj]; exact tone_ceil hj
  obtain ⟨g, _, i⟩ := payE_good (wh := true) (br := 1) (qu := 5) (lo := lo) (ah := ah) (x := x) (l := c21 (ceilF (linesF true (allF (fun _ => 0) (frmF toneL 4 0))))) (fun b => by
    unfold c21
    split
    · exact ceilF_nonneg _ b
    · exact Int.le_refl _)
  rw [e] at i
  exact bytesE_more i (by have := g.1; omega) (of_decide_eq_true c1) (of_decide_eq_true c2) (of_decide_eq_true c3)
end Go.Proofs.YtkhhhejmbgloeaaGreat

/- The law's own functions: frames, the same samples; a tone's payload. -/
namespace Go.Proofs.YtkhhhejmbgloeaaGreat
open Go Go.RowKit
set_option linter.unusedVariables false
set_option linter.unusedSimpArgs false
set_option maxRecDepth 100000

set_option maxRecDepth 100000 in
theorem frame13_any (a : Option Addr) (len cap fr : Nat) (zs : List Int) (w : World) (hl : IntsAt w w.heap.size .i16 a len zs) (hlen : len ≤ 3000) (hf : fr ≤ 100000) :
    Calls Tryz.prog 11 #[.slice a len cap, .int .i64 fr] w (RowPost .i16 48 512 (frmF zs len fr) w) := by
  have HL := Lib.hid hl
  have hmk : ∀ w : World, (Instr.makeSlice 22 (.int .i64 512) (.int .i64 512)).run Tryz.prog w = .ok (.slice (some ⟨w.heap.size, 0, none⟩) 512 512) (w.alloc (.cells (madeCells #[.int .i16 0] 512) 48)) :=
    fun w => make_zeros (P := Tryz.prog) Tryz.underlying22 infoC_i16 512 (by decide) (by decide) w
  have H0 : RowKit.Hid (IFun (w.alloc (.cells (madeCells #[.int .i16 0] 512) 48)) w.heap.size 48 .i16 512 (upTo (frmF zs len fr) (fun _ => 0) 0) ∧ Below w.heap.size w (w.alloc (.cells (madeCells #[.int .i16 0] 512) 48))) :=
    ⟨IFun.ext (IFun.zeros w 48 .i16 512) fun j _ => (upTo_start (frmF zs len fr) (fun _ => 0) j).symm, Below.alloc_new w _⟩
  clear hl
  generalize madeCells #[Value.int .i16 0] 512 = mc at H0 hmk
  go_enter Tryz.func11, Tryz.ntmps11
  go_wp2
  clear hmk
  generalize hg : w.heap.size = g at H0 ⊢
  generalize (w.alloc (.cells mc 48)) = w1 at H0 ⊢
  go_loopw [10] (fun i wr => ∃ k : Nat, k ≤ 512 ∧ i = .int .i64 (k : Int) ∧ RowKit.Hid (IFun wr g 48 .i16 512 (upTo (frmF zs len fr) (fun _ => 0) k) ∧ Below g w wr)) (fun i _ => 512 - (intOf i).toNat)
  case atStart => exact ⟨0, by omega, rfl, H0.out⟩
  case round =>
    obtain ⟨k, hk, rfl, HI⟩ := hrel
    clear H0
    by_cases hlt : k < 512
    · have o1 := HI.out.1.cell (j := k) (by omega)
      rw [upTo_here] at o1
      have f1 := HI.out.1.frozen k
      have HS : RowKit.Hid (IFun (wr.setCell ⟨g, k, none⟩ (.int .i16 (frmF zs len fr k))) g 48 .i16 512 (upTo (frmF zs len fr) (fun _ => 0) (k + 1)) ∧ Below g w (wr.setCell ⟨g, k, none⟩ (.int .i16 (frmF zs len fr k)))) :=
        ⟨IFun.ext (HI.out.1.set (j := k) (by omega) (frmF zs len fr k)) fun j _ => upTo_next _ _ k j, Below.setCell (p := ⟨g, k, none⟩) HI.out.2 (Nat.le_refl _) _⟩
      have l1 : (k : Int) < 512 := by omega
      by_cases hl0 : len = 0
      · have HN : RowKit.Hid (IFun wr g 48 .i16 512 (upTo (frmF zs len fr) (fun _ => 0) (k + 1)) ∧ Below g w wr) := ⟨IFun.ext HI.out.1 fun i _ => by
          unfold upTo frmF
          rw [if_pos hl0]
          split <;> split <;> rfl, HI.out.2⟩
        have ll : ¬ 0 < (len : Int) := by omega
        clear HI HS hl0
        go_wp2
        go_roundw
        case rel => exact ⟨k + 1, by omega, by go_num, HN.out⟩
        case measure => simp [intOf] <;> omega
      · obtain ⟨m, hm⟩ : ∃ m, m = (fr + k) % len := ⟨_, rfl⟩
        have hml : m < len := by rw [hm]; exact Nat.mod_lt _ (by omega)
        have f3 : ((fr : Int) + (k : Int)) % (len : Int) = (m : Int) := by rw [hm]; simp
        have f4 : ((fr : Int) + (k : Int)).tmod (len : Int) = (m : Int) := by rw [Int.tmod_eq_emod_of_nonneg (by omega)]; exact f3
        obtain ⟨b, off, rfl, hbl, _, hc⟩ := HL.out.at_ hml
        have k1 := (HI.out.2.cell (p := ⟨b, off + m, none⟩) (by rw [← hg]; exact hbl)).trans hc
        have HE : RowKit.Hid (zs.getD m 0 = frmF zs len fr k) := by show _ = _; unfold frmF; rw [if_neg hl0, hm]
        rw [← HE.out] at HS
        clear HI hm hc HE
        generalize zs.getD m 0 = y at k1 HS
        have l2 : (m : Int) < (len : Int) := by omega
        have l3 : ¬ (len : Int) = 0 := by omega
        have l4 : 0 < (len : Int) := by omega
        clear hl0
        go_wp2
        go_roundw
        case rel => exact ⟨k + 1, by omega, by go_num, HS.out⟩
        case measure => simp [intOf] <;> omega
    · obtain rfl : k = 512 := by omega
      have Z : RowKit.Hid (IFun wr g 48 .i16 512 (frmF zs len fr) ∧ Below g w wr) := ⟨IFun.ext HI.out.1 fun i hi => upTo_end _ _ 512 i hi, HI.out.2⟩
      go_wp2
      go_ret
      exact ⟨g, rfl, Z.out.1, by omega, by rw [hg]; exact Z.out.2⟩

set_option maxRecDepth 100000 in
theorem same13_any (a a2 : Option Addr) (n cap cap2 : Nat) (xs ys : List Int) (w : World) (h : IntsAt w w.heap.size .i16 a n xs) (h2 : IntsAt w w.heap.size .i64 a2 n ys) (he : ∀ j, j < n → ys.getD j 0 = xs.getD j 0) (hb : ∀ j, j < n → -32768 ≤ xs.getD j 0 ∧ xs.getD j 0 ≤ 32767) (hn : n ≤ 1000000) :
    Calls Tryz.prog 14 #[.slice a n cap, .slice a2 n cap2] w fun e w' => e = .returned (.bool true) ∧ ∃ i, w' = w.drewN i := by
  have HX := Lib.hid h
  have HY := Lib.hid h2
  have HE := Lib.hid he
  have HB := Lib.hid hb
  have hq : ((n : Int) == (n : Int)) = true := by simp
  clear h h2 he hb
  go_enter Tryz.func14, Tryz.ntmps14
  go_wp2
  go_loopw [5, 13] (fun _ i wr => ∃ k q : Nat, k ≤ n ∧ i = .int .i64 (k : Int) ∧ wr = w.drewN q) (fun _ i _ => n - (intOf i).toNat)
  case atStart => exact ⟨0, 0, by omega, rfl, rfl⟩
  case round =>
    obtain ⟨k, q, hk, rfl, hw⟩ := hrel
    have HW := Lib.hid hw
    clear hw
    by_cases hlt : k < n
    · obtain ⟨b, off, rfl, _, _, hcell⟩ := HX.out.at_ hlt
      obtain ⟨b2, off2, rfl, _, _, hcell2⟩ := HY.out.at_ hlt
      rw [HE.out k hlt] at hcell2
      obtain ⟨x0, x1⟩ := HB.out k hlt
      generalize xs.getD k 0 = x at hcell hcell2 x0 x1
      have c1 : wr.cell? ⟨b, off + k, none⟩ = some (.int .i16 x) := by rw [HW.out]; exact hcell
      have c2 : wr.cell? ⟨b2, off2 + k, none⟩ = some (.int .i64 x) := by rw [HW.out]; exact hcell2
      have u1 : IntKind.i64.wrap x = x := IntWalk.i64_in _ (by omega)
      have l1 : (k : Int) < (n : Int) := by omega
      clear hcell hcell2
      go_wp2
      go_quiet (fail)
      have HW2 : RowKit.Hid (wr.drewN nq = w.drewN (q + nq)) := by show _ = _; rw [HW.out, drewE_add]
      go_wp2
      go_roundw
      case rel => exact ⟨k + 1, q + nq, by omega, by go_num, HW2.out⟩
      case measure => simp [intOf] <;> omega
    · obtain rfl : k = n := by omega
      have l1 : ¬ (k : Int) < (k : Int) := by omega
      go_wp2
      go_ret
      exact ⟨rfl, q, HW.out⟩
/-! ### A tone -/
theorem tone_brief : briefF 0 (frmF toneL 4 0) = true := by decide +kernel
theorem reach_pos {l s : Nat → Int} (h : ∀ j, l j ≤ 26 ∧ s j ≤ 26) : ∀ n, n ≤ 21 → (edgeK n : Int) ≤ reachTo l s n
  | 0, _ => by rw [show edgeK 0 = 0 by decide]; exact Int.le_refl _
  | n + 1, hn => by
    have ih := reach_pos h n (by omega)
    have e := edgeK_lt n (by omega)
    have o := oneF_bd (h n).1 (h n).2
    rw [reachTo_succ]
    have : ((edgeK (n + 1) : Int) - edgeK n) * 1 ≤ ((edgeK (n + 1) : Int) - edgeK n) * oneF (l n) (s n) := Int.mul_le_mul_of_nonneg_left o.1 (by omega)
    omega
theorem Frm.Ok.reach_pos {F : Frm} (h : F.Ok) : 512 ≤ F.reach := by
  have := Go.Proofs.YtkhhhejmbgloeaaGreat.reach_pos (l := F.l) (s := F.steps) (fun j => ⟨(h.l.bd j).2, ((h.st F.lo).bd j).2⟩) 21 (by decide)
  rw [show edgeK 21 = 512 by decide] at this
  exact this
theorem tone_bytes : 10 < (s13Zero.F 5 300 (frmF toneL 4 0) false).bytes.length := by
  have ok := s13Zero.F_ok (Q := 5) (B := 300) (by decide) (by decide) (frmF toneL 4 0) false
  have hl := ok.loss.1
  unfold Frm.bytes
  generalize (s13Zero.F 5 300 (frmF toneL 4 0) false).lo = k at hl
  unfold Frm.E S13.F
  rw [show s13Zero.P = 0 from rfl, tone_brief]
  exact tone_long hl _ _
theorem lives13_any (w : World) : Calls Tryz.prog 6 #[] w fun e w' => e = .returned (.bool true) ∧ Below w.heap.size w w' := by
  have HLit : RowKit.Hid (∀ w : World, IntsAt (w.alloc (.cells #[.int .i16 9000, .int .i16 9000, .int .i16 (-9000), .int .i16 (-9000)] 48)) (w.alloc (.cells #[.int .i16 9000, .int .i16 9000, .int .i16 (-9000), .int .i16 (-9000)] 48)).heap.size .i16 (some ⟨w.heap.size, 0, none⟩) 4 toneL) := fun w => lit_ints w 48 .i16 toneL _ (0, 0) rfl (by decide)
  have HL := Lib.hid tone_bytes
  have HOk : RowKit.Hid ((s13Zero.F 5 300 (frmF toneL 4 0) false).Ok) := s13Zero.F_ok (by decide) (by decide) _ _
  have HR : RowKit.Hid (512 ≤ (s13Zero.next 5 300 (frmF toneL 4 0) 0 false).R) := HOk.out.reach_pos
  obtain ⟨nb, hnb⟩ : ∃ nb, nb = (s13Zero.F 5 300 (frmF toneL 4 0) false).bytes.length := ⟨_, rfl⟩
  have HNB : RowKit.Hid ((s13Zero.F 5 300 (frmF toneL 4 0) false).bytes.length = nb) := hnb.symm
  have lnb : 10 < (nb : Int) := by have := HL.out; omega
  obtain ⟨R, hR⟩ : ∃ R, R = (s13Zero.next 5 300 (frmF toneL 4 0) 0 false).R := ⟨_, rfl⟩
  have HRR : RowKit.Hid ((s13Zero.next 5 300 (frmF toneL 4 0) 0 false).R = R) := hR.symm
  have lR : 0 < R := by have := HR.out; omega
  clear hnb hR
  go_enter Tryz.func6, Tryz.ntmps6
  go_wp2_with (first
    | (go_at_call 7; go_loud (refine (cNew_any 5 300 _ (by decide) (by decide) (by decide) (by decide)).mono ?_); rintro e w1 ⟨g, a, s, rfl, h1, s1, s2, s3, b1⟩; have H1 := Lib.hid h1; have HS1 := Lib.hid (And.intro s1 (And.intro s2 s3)); have HB1 := Lib.hid b1; clear h1 s1 s2 s3 b1)
    | (go_at_call 11; have HB2 := Lib.hid (chain HB1.out (Below.alloc_new w1 (.cells #[.int .i16 9000, .int .i16 9000, .int .i16 (-9000), .int .i16 (-9000)] 48))); have H2 := Lib.hid (H1.out.below (Below.alloc_new w1 (.cells #[.int .i16 9000, .int .i16 9000, .int .i16 (-9000), .int .i16 (-9000)] 48))); go_loud (refine (frame13_any (some ⟨w1.heap.size, 0, none⟩) 4 4 0 toneL _ (HLit.out w1) (by decide) (by decide)).mono ?_); rintro e w3 ⟨x, rfl, i3, s3, b3⟩; have H3 := Lib.hid (H2.out.below b3); have HX3 := Lib.hid i3; have HB3 := Lib.hid (chain HB2.out b3); clear i3 s3 b3)
    | (go_at_call 12; go_loud (refine (cEncode_any g a s x 5 300 s13Zero (frmF toneL 4 0) 0 false _ H3.out s13Zero_ok (by decide) (by decide) HX3.out (fun i _ => frmF_bd tone_bd _ _) (by decide) (by decide)).mono ?_); rintro e w4 ⟨rr, cp, rfl, i4, h4, k4⟩; rw [HNB.out]; have H4 := Lib.hid h4; have HB4 : RowKit.Hid (Below w.heap.size w w4) := HB3.out.trans (k4.below HB3.out.size (fun j hj => by have := HS1.out; rcases hj with e | e | e <;> omega)); clear i4 h4 k4)
    | (go_at_call 9; go_loud (refine (heardC_some H4.out rfl).mono ?_); rintro e w5 ⟨a5, c5, rfl, _, b5⟩; have H5 := Lib.hid (H4.out.below b5); have HB5 := Lib.hid (chain HB4.out b5); clear b5)
    | (go_at_call 10; go_loud (refine (reachC_any H5.out).mono ?_); rintro e w6 ⟨rfl, rfl⟩; rw [HRR.out]))
  go_ret
  exact ⟨rfl, HB5.out⟩
end Go.Proofs.YtkhhhejmbgloeaaGreat

/- Layer 13's statements, walked: how near what is heard comes. -/
namespace Go.Proofs.YtkhhhejmbgloeaaGreat
open Go Go.RowKit
set_option linter.unusedVariables false
set_option linter.unusedSimpArgs false
set_option maxRecDepth 100000

/-! ### Frame by frame -/
structure NearSt (zs : List Int) (len t : Nat) (S : S13) : Prop where
  ok : S.Ok
  al : ∀ j, j < 128 → S.al j = strF zs len (512 * t + j)
  near : LeftNear S.left (fun q => strF zs len (512 * t + q)) S.R
  fs : S.fs = decide (t = 0)
  R : 0 ≤ S.R ∧ S.R ≤ 1443109011456
theorem NearSt.zero (zs : List Int) (len : Nat) : NearSt zs len 0 s13Zero :=
  ⟨s13Zero_ok, fun j hj => (str_first hj).symm, leftNear_zero fun i hi => str_first hi, rfl, by show (0 : Int) ≤ 0 ∧ (0 : Int) ≤ 1443109011456; decide⟩
theorem NearSt.all {zs : List Int} {len t : Nat} {S : S13} (h : NearSt zs len t S) : allF S.al (frmF zs len (512 * t)) = fun i => 16 * strF zs len (512 * t + i) := by
  rw [← all_str t]
  funext i
  unfold allF
  by_cases hi : i < 128
  · rw [if_pos hi, if_pos hi, h.al i hi]
  · rw [if_neg hi, if_neg hi]
theorem NearSt.far {zs : List Int} {len t : Nat} {S : S13} (h : NearSt zs len t S) {Q : Int} {B : Nat} (hq : 1 ≤ Q ∧ Q ≤ 10) (hB : 32 ≤ B ∧ B ≤ 600) (n : Int) (r : Bool) :
    farF ((S.F Q B (frmF zs len (512 * t)) r).held n) (linesF (briefF S.P (frmF zs len (512 * t))) fun j => 16 * strF zs len (512 * t + j)) 512 ≤ (S.F Q B (frmF zs len (512 * t)) r).reach := by
  have := (S.F_ok hq hB (frmF zs len (512 * t)) r).near n
  rw [← h.all]
  exact this
theorem NearSt.next {zs : List Int} {len t : Nat} {S : S13} (hz : ∀ j, -32768 ≤ zs.getD j 0 ∧ zs.getD j 0 ≤ 32767) (h : NearSt zs len t S) {Q : Int} {B : Nat} (hq : 1 ≤ Q ∧ Q ≤ 10) (hB : 32 ≤ B ∧ B ≤ 600) (n : Int) (r : Bool) : NearSt zs len (t + 1) (S.next Q B (frmF zs len (512 * t)) n r) := by
  refine ⟨S13.Ok.next Q B (fun i _ => frmF_bd hz _ _) n r, fun j hj => str_next t j, ?_, by simp [S13.next], (S.F_ok hq hB _ r).reach⟩
  have := leftNear_next (Z := fun i => strF zs len (512 * t + i)) (fun i => strF_bd hz _) (briefF S.P (frmF zs len (512 * t))) (h.far hq hB n r)
  rw [show (fun q => strF zs len (512 * (t + 1) + q)) = fun j => strF zs len (512 * t + (512 + j)) from funext fun q => by rw [show 512 * (t + 1) + q = 512 * t + (512 + q) by omega]]
  exact this
theorem NearSt.heard {zs : List Int} {len t : Nat} {S : S13} (hz : ∀ j, -32768 ≤ zs.getD j 0 ∧ zs.getD j 0 ≤ 32767) (h : NearSt zs len t S) {Q : Int} {B : Nat} (hq : 1 ≤ Q ∧ Q ≤ 10) (hB : 32 ≤ B ∧ B ≤ 600) (n : Int) (r : Bool) {i : Nat} (hi : i < 512) :
    ((samplesF (briefF S.P (frmF zs len (512 * t))) ((S.F Q B (frmF zs len (512 * t)) r).held n) S.left i - strF zs len (512 * t + i)).natAbs : Int) ≤ (S.R + (S.next Q B (frmF zs len (512 * t)) n r).R) / 8 + 700 :=
  frame_near2 (Z := fun i => strF zs len (512 * t + i)) (fun i => strF_bd hz _) _ h.near (S.F_ok hq hB _ r).reach.1 h.R.1 (h.far hq hB n r) hi
theorem samples_16 (b : Bool) (l left : Nat → Int) (i : Nat) : -32768 ≤ samplesF b l left i ∧ samplesF b l left i ≤ 32767 := smpP_bd _
/-- More numbers, or more frames, than are tried: only whether it lives. -/
theorem coderNear_many (a a2 : Option Addr) (len cap len2 cap2 : Nat) (x0 x1 : Int) (w : World) (hm : len ≤ 9223372036854775807) (hm2 : len2 ≤ 9223372036854775807) (h : 3000 < len ∨ 6 < len2) :
    Calls Tryz.prog 4 #[.slice a len cap, .agg #[.int .i64 x0, .int .i64 x1], .slice a2 len2 cap2] w fun e w' => e = .returned (.bool true) ∧ Below w.heap.size w w' := by
  have HB := Lib.hid (Below.alloc_new w (.cells #[.int .i64 x0, .int .i64 x1] 23))
  by_cases h1 : 3000 < len
  · have hd : decide ((3000 : Int) < (len : Int)) = true := by simp; omega
    go_enter Tryz.func4, Tryz.ntmps4
    go_wp2_with (go_at_call 6; go_loud (refine (lives13_any _).mono ?_); rintro e w1 ⟨rfl, hb⟩; replace HB := Lib.hid (chain HB.out hb); clear hb)
    go_ret
    exact ⟨rfl, HB.out⟩
  · have hd : decide ((3000 : Int) < (len : Int)) = false := by simp; omega
    have hd2 : decide ((6 : Int) < (len2 : Int)) = true := by simp; omega
    clear h
    go_enter Tryz.func4, Tryz.ntmps4
    go_wp2_with (go_at_call 6; go_loud (refine (lives13_any _).mono ?_); rintro e w1 ⟨rfl, hb⟩; replace HB := Lib.hid (chain HB.out hb); clear hb)
    go_ret
    exact ⟨rfl, HB.out⟩
theorem set_wrap (x m c : Int) (m0 : 0 < m) (m1 : m ≤ 1000) (c0 : 0 ≤ c) (c1 : c ≤ 1000) : ∃ y, wrap64 (c + wrap64 ((IntKind.u64.wrap x).tmod m)) = y ∧ c ≤ y ∧ y < c + m := by
  have h : IntKind.u64.wrap x = x % 18446744073709551616 := rfl
  have h0 : 0 ≤ x % 18446744073709551616 := Int.emod_nonneg _ (by decide)
  have e : (IntKind.u64.wrap x).tmod m = x % 18446744073709551616 % m := by rw [h, Int.tmod_eq_emod_of_nonneg h0]
  have a := Int.emod_nonneg (x % 18446744073709551616) (show m ≠ 0 by omega)
  have b := Int.emod_lt_of_pos (x % 18446744073709551616) m0
  have e1 : wrap64 (x % 18446744073709551616 % m) = x % 18446744073709551616 % m := IntWalk.wrap64_in _ (by omega)
  have e2 : wrap64 (c + x % 18446744073709551616 % m) = c + x % 18446744073709551616 % m := IntWalk.wrap64_in _ (by omega)
  exact ⟨c + x % 18446744073709551616 % m, by rw [e, e1, e2], by omega, by omega⟩
/-- What is held on the way. -/
structure St13 (zs : List Int) (len : Nat) (w : World) (g a s : Nat) (Q : Int) (B t : Nat) (S : S13) (wr : World) : Prop where
  b : Below w.heap.size w wr
  c : CodAt wr g a s Q B S
  n : NearSt zs len t S
  o : w.heap.size ≤ g ∧ w.heap.size ≤ a ∧ w.heap.size ≤ s
theorem St13.now {zs : List Int} {len : Nat} {w : World} {g a s : Nat} {Q : Int} {B t : Nat} {S : S13} {wr w' : World} (h : St13 zs len w g a s Q B t S wr) (b : Below wr.heap.size wr w') : St13 zs len w g a s Q B t S w' := ⟨chain h.b b, h.c.below b, h.n, h.o⟩
end Go.Proofs.YtkhhhejmbgloeaaGreat

/- When a frame knocks, by the document; lines held, by the document. -/
namespace Go.Proofs.YtkhhhejmbgloeaaGreat
open Go Go.RowKit
set_option linter.unusedVariables false
set_option linter.unusedSimpArgs false

/-- The greatest of the quarter ahead. -/
def prevQ (P : Int) (f : Nat → Int) : Nat → Int
  | 0 => P
  | q + 1 => peakQ f q
def outQ (P : Int) (f : Nat → Int) : Nat → Bool
  | 0 => false
  | q + 1 => outQ P f q || knB (prevQ P f q) (peakQ f q)
theorem outQ_all (P : Int) (f : Nat → Int) : outQ P f 4 = briefF P f := by
  unfold briefF briefB
  simp [outQ, prevQ]
theorem outQ_succ (P : Int) (f : Nat → Int) (q : Nat) : outQ P f (q + 1) = (outQ P f q || knB (prevQ P f q) (peakQ f q)) := rfl
/-- An encoder's cells, by the document. -/
def rfC (C : Nat) (va vl : Value) (Q B P : Int) (cv vh : Value) (R : Int) : Array Value := #[.slice (some ⟨C, 0, none⟩) 1025 1025, va, vl, .int .i64 Q, .int .i64 B, .int .i64 P, cv, vh, .int .i64 R]
def BriefPost (g C : Nat) (va vl cv vh : Value) (Q B P R : Int) (f : Nat → Int) (w : World) (e : Ending) (w' : World) : Prop :=
  e = .returned (.bool (briefF P f)) ∧ Cel w' g 46 (rfC C va vl Q B (peakQ f 3) cv vh R) ∧ Keeps (· = g) w w'
set_option maxHeartbeats 1000000 in
set_option maxRecDepth 100000 in
theorem rBrief_any (g C x : Nat) (va vl cv vh : Value) (Q B P R : Int) (f : Nat → Int) (w : World) (hE : Cel w g 46 (rfC C va vl Q B P cv vh R)) (hf : IFun w x 48 .i16 512 f) (hP : 0 ≤ P ∧ P ≤ 32768) (hb : ∀ i, i < 512 → -32768 ≤ f i ∧ f i ≤ 32767) :
    Calls Tryz.prog 26 #[.pointer (some ⟨g, 0, none⟩), .slice (some ⟨x, 0, none⟩) 512 512] w (BriefPost g C va vl cv vh Q B P R f w) := by
  have H0 : RowKit.Hid (Cel w g 46 (rfC C va vl Q B (prevQ P f 0) cv vh R) ∧ Keeps (· = g) w w) := ⟨hE, Keeps.refl _ _⟩
  have HX := Lib.hid hf
  have HXb := Lib.hid hb
  have HP := Lib.hid hP
  have hgx := Lib.hid (Cel.ne hf hE (by decide))
  have HO := Lib.hid (outQ_all P f)
  rw [show BriefPost g C va vl cv vh Q B P R f w = fun e w' => e = .returned (.bool (briefF P f)) ∧ Cel w' g 46 (rfC C va vl Q B (prevQ P f 4) cv vh R) ∧ Keeps (· = g) w w' from rfl, ← HO.out]
  clear hE hf hP hb
  go_enter Tryz.func26, Tryz.ntmps26
  go_wp2
  go_loopw [5, 6] (fun o i wr => ∃ q : Nat, q ≤ 4 ∧ i = .int .i64 (q : Int) ∧ o = .bool (outQ P f q) ∧ RowKit.Hid (Cel wr g 46 (rfC C va vl Q B (prevQ P f q) cv vh R) ∧ Keeps (· = g) w wr)) (fun _ i _ => 4 - (intOf i).toNat)
  case atStart => exact ⟨0, by omega, rfl, rfl, H0.out⟩
  case round =>
    obtain ⟨q, hq, rfl, rfl, H⟩ := hrel
    clear H0
    by_cases hlt : q < 4
    · have lq : (q : Int) < 4 := by omega
      have HXr : RowKit.Hid (IFun wr x 48 .i16 512 f) := Cel.keeps HX.out H.out.2 hgx.out
      go_wp2
      go_loopw [7, 8] (fun p i wr' => ∃ k : Nat, k ≤ 128 ∧ i = .int .i64 (k : Int) ∧ p = .int .i64 (peakTo f (128 * q) k) ∧ wr' = wr) (fun _ i _ => 128 - (intOf i).toNat)
      case atStart => exact ⟨0, by omega, rfl, rfl, rfl⟩
      case round =>
        obtain ⟨k, hk, rfl, rfl, rfl⟩ := hrel
        by_cases hlk : k < 128
        · have lk : (k : Int) < 128 := by omega
          have k1 := HXr.out.cell (j := 128 * q + k) (by omega)
          obtain ⟨y0, y1⟩ := HXb.out (128 * q + k) (by omega)
          have HPk : RowKit.Hid (peakTo f (128 * q) (k + 1) = max (peakTo f (128 * q) k) (absI (f (128 * q + k)))) := peakTo_succ _ _ _
          obtain ⟨z0, z1⟩ := peakTo_bd (f := f) (a := 128 * q) (n := k) fun i hi => HXb.out _ (by omega)
          generalize f (128 * q + k) = y at k1 y0 y1 HPk
          generalize peakTo f (128 * q) k = z at z0 z1 HPk
          have u1 : IntKind.i64.wrap (-y) = -y := IntWalk.i64_in _ (by omega)
          have u2 : IntKind.i64.wrap y = y := IntWalk.i64_in _ (by omega)
          have u3 : IntKind.i64.wrap (128 * (q : Int)) = 128 * (q : Int) := IntWalk.i64_in _ (by omega)
          have u4 : IntKind.i64.wrap (128 * (q : Int) + (k : Int)) = ((128 * q + k : Nat) : Int) := by rw [IntWalk.i64_in _ (by omega)]; omega
          by_cases c1 : y < 0
          · by_cases c2 : z < -y
            · go_wp2
              go_roundw
              case rel => exact ⟨k + 1, by omega, by go_num, congrArg (Value.int .i64) (by rw [HPk.out]; unfold absI; rw [if_pos c1]; omega), trivial⟩
              case measure => simp [intOf] <;> omega
            · go_wp2
              go_roundw
              case rel => exact ⟨k + 1, by omega, by go_num, congrArg (Value.int .i64) (by rw [HPk.out]; unfold absI; rw [if_pos c1]; omega), trivial⟩
              case measure => simp [intOf] <;> omega
          · by_cases c2 : z < y
            · go_wp2
              go_roundw
              case rel => exact ⟨k + 1, by omega, by go_num, congrArg (Value.int .i64) (by rw [HPk.out]; unfold absI; rw [if_neg c1]; omega), trivial⟩
              case measure => simp [intOf] <;> omega
            · go_wp2
              go_roundw
              case rel => exact ⟨k + 1, by omega, by go_num, congrArg (Value.int .i64) (by rw [HPk.out]; unfold absI; rw [if_neg c1]; omega), trivial⟩
              case measure => simp [intOf] <;> omega
        · obtain rfl : k = 128 := by omega
          obtain ⟨pk, hpk⟩ : ∃ pk, pk = peakTo f (128 * q) 128 := ⟨_, rfl⟩
          have HPK : RowKit.Hid (peakQ f q = pk) := hpk.symm
          have HPR : RowKit.Hid (0 ≤ prevQ P f q ∧ prevQ P f q ≤ 32768) := by
            cases q with
            | zero => exact HP.out
            | succ q => exact peakQ_bd HXb.out (by omega)
          have HKN : RowKit.Hid (outQ P f (q + 1) = (outQ P f q || knB (prevQ P f q) pk)) := by show _ = _; rw [outQ_succ, HPK.out]
          have HNX : RowKit.Hid (prevQ P f (q + 1) = pk) := HPK.out
          have d5 : wr.cell? ⟨g, 5, none⟩ = some (.int .i64 (prevQ P f q)) := H.out.1.cell 5
          have z5 := H.out.1.frozen 5
          have HE : RowKit.Hid (Cel (wr.setCell ⟨g, 5, none⟩ (.int .i64 pk)) g 46 (rfC C va vl Q B pk cv vh R) ∧ Keeps (· = g) w (wr.setCell ⟨g, 5, none⟩ (.int .i64 pk))) := ⟨H.out.1.set_ 5 _, H.out.2.trans (Keeps.set1 _)⟩
          obtain ⟨kn, hkn⟩ : ∃ kn, knB (prevQ P f q) pk = kn := ⟨_, rfl⟩
          rw [hkn] at HKN
          obtain ⟨v0, v1⟩ := HPR.out
          rw [← hpk]
          have hkc := kn_cases hkn
          clear hpk hkn H HPR
          generalize prevQ P f q = pr at d5 v0 v1 hkc
          have u8 : IntKind.i64.wrap (8 * pr) = 8 * pr := IntWalk.i64_in _ (by omega)
          rcases hkc with ⟨t1, t2, e⟩ | ⟨t1, e⟩ | ⟨t1, t2, e⟩
          all_goals
            go_wp2
            go_roundw
            case rel => exact ⟨q + 1, by omega, by go_num, congrArg Value.bool (by rw [HKN.out, e]; simp), by rw [HNX.out]; exact HE.out⟩
            case measure => simp [intOf] <;> omega
    · obtain rfl : q = 4 := by omega
      go_wp2
      go_ret
      exact ⟨rfl, H.out⟩
end Go.Proofs.YtkhhhejmbgloeaaGreat
