/- Plain facts, and what functions give, for the proofs of this seat: several texts in one, each with its own first remark. -/
import Derived.Test.YtmgfkdmjgjlkjaaGreatCo

namespace Go.Proofs.YtmgfkdmjgjlkjaaGreat
open Go
set_option linter.unusedVariables false
theorem cosN_one : cosN 1 ≤ 16777200 := by decide +kernel
theorem cosN_less : ∀ {n : Nat}, 1 ≤ n → n ≤ 1024 → cosN n ≤ 16777200
  | 0, h, _ => by omega
  | 1, _, _ => cosN_one
  | n + 2, _, h => by
    have h1 := cosN_less (n := n + 1) (by omega) (by omega)
    have h2 := cosN_falls (i := n + 1) (by omega)
    have : cosN (n + 2) < cosN (n + 1) := h2
    omega
theorem cosP_less {a : Int} (h : a % 2048 ≠ 0) : (cosP a).natAbs ≤ 16777200 := by
  rw [cosP_q]
  rcases circle_at a with ⟨n, e, l⟩ | ⟨n, e, l⟩ | ⟨n, e, l0, l⟩ | ⟨n, e, l0, l⟩
  · rw [cosQ_in e l]; have h1 := cosN_bd l; have h2 := cosN_less (n := n) (by omega) l; omega
  · rw [cosQ_2 e l]; have h1 := cosN_bd (i := n) (by omega); have h2 := cosN_less (n := n) (by omega) (by omega); omega
  · rw [cosQ_3 e l0 l]; have h1 := cosN_bd (i := n) (by omega); have h2 := cosN_less (n := n) (by omega) (by omega); omega
  · rw [cosQ_4 e l0 l]; have h1 := cosN_bd l; have h2 := cosN_less (n := n) (by omega) l; omega
theorem cosA_less {n : Nat} (hn : n = 128 ∨ n = 512) (j k : Nat) : (cosA n j k).natAbs ≤ 16777200 := by
  unfold cosA
  refine cosP_less ?_
  obtain ⟨q, hq⟩ := odd_odd j k
  rw [hq]
  rcases hn with rfl | rfl
  · rw [show 512 / 128 = 4 by decide]; omega
  · rw [show 512 / 512 = 1 by decide]; omega
theorem dotF_less {n B : Nat} (hn : n = 128 ∨ n = 512) {u : Nat → Int} (hb : ∀ j, j < n → (u j).natAbs ≤ B) (k : Nat) : (dotF n u k).natAbs ≤ n * (B * 16777200) :=
  sumF_abs fun j hj => mul_abs (hb j hj) (cosA_less hn j k)
theorem turn_bd_512 {u : Nat → Int} (hb : ∀ j, j < 512 → (u j).natAbs ≤ 33554432) (k : Nat) : (turnF 512 u k).natAbs ≤ 1073741000 := by
  have h1 := dotF_less (.inr rfl) hb k
  have h2 := rnd28 (dotF 512 u k)
  rw [turnF_512]; omega
theorem turn_bd_128 {u : Nat → Int} (hb : ∀ j, j < 128 → (u j).natAbs ≤ 33554432) (k : Nat) : (turnF 128 u k).natAbs ≤ 536870500 := by
  have h1 := dotF_less (.inl rfl) hb k
  have h2 := rnd27 (dotF 128 u k)
  rw [turnF_128]; omega
theorem unfoldF_le {n B : Nat} {u : Nat → Int} (h2 : n % 2 = 0) (hb : ∀ j, j < n → (u j).natAbs ≤ B) {i : Nat} (hi : i < 2 * n) : (unfoldF n u i).natAbs ≤ B := by
  unfold unfoldF
  split
  · exact hb _ (by omega)
  · split
    · have := hb (n / 2 + (n - 1 - i)) (by omega); omega
    · split
      · have := hb (3 * (n / 2) - 1 - i) (by omega); omega
      · have := hb (i - 3 * (n / 2)) (by omega); omega
theorem backF_512 {l : Nat → Int} (hb : ∀ j, j < 512 → (l j).natAbs ≤ 33554432) {i : Nat} (hi : i < 1024) : (backF 512 l i).natAbs ≤ 1073741000 :=
  unfoldF_le (by decide) (fun k _ => turn_bd_512 hb k) (by omega)
theorem backF_128 {l : Nat → Int} (hb : ∀ j, j < 128 → (l j).natAbs ≤ 33554432) {i : Nat} (hi : i < 256) : (backF 128 l i).natAbs ≤ 536870500 :=
  unfoldF_le (by decide) (fun k _ => turn_bd_128 hb k) (by omega)
theorem riseP_bd (i : Int) (h : 0 ≤ i) : 0 ≤ riseP i ∧ riseP i ≤ 16777216 := by
  by_cases h1 : 128 ≤ i
  · rw [riseP_big h1]; omega
  · rw [riseP_in h (by omega), cosP_q, cosQ_in (n := (1024 - 4 * (2 * i + 1)).toNat) (by omega) (by omega)]
    exact cosN_bd (by omega)
noncomputable def slopeF (N i : Nat) : Int := if riseP ((N - 1 - i : Nat) : Int) < riseP (i : Int) then riseP ((N - 1 - i : Nat) : Int) else riseP (i : Int)
theorem slopeF_bd (N i : Nat) : 0 ≤ slopeF N i ∧ slopeF N i ≤ 16777216 := by
  unfold slopeF
  split
  · exact riseP_bd _ (by omega)
  · exact riseP_bd _ (by omega)
noncomputable def shapeF (N : Nat) (x : Nat → Int) (i : Nat) : Int := rndP (x i * slopeF N i) 24
theorem rnd24 (x : Int) : (16777216 * rndP x 24 - x).natAbs ≤ 8388608 := by
  rw [rndP_in (by decide) (by decide), show P2 (24 : Int).toNat = 16777216 by decide]; omega
theorem rnd4 (x : Int) : (16 * rndP x 4 - x).natAbs ≤ 8 := by
  rw [rndP_in (by decide) (by decide), show P2 (4 : Int).toNat = 16 by decide]; omega
theorem shapeF_abs {N B i : Nat} {x : Nat → Int} (h : (x i).natAbs ≤ B) : (shapeF N x i).natAbs ≤ B := by
  have h0 := slopeF_bd N i
  have h1 : (x i * slopeF N i).natAbs ≤ B * 16777216 := mul_abs h (by omega)
  have h2 := rnd24 (x i * slopeF N i)
  unfold shapeF
  omega
noncomputable def winF (all : Nat → Int) (i : Nat) : Int := if i < 192 then 0 else if i < 832 then shapeF 640 all (i - 192) else 0
noncomputable def blkF (all : Nat → Int) (m i : Nat) : Int := shapeF 256 (fun j => all (128 * m + j)) i
noncomputable def linesF (b : Bool) (all : Nat → Int) (k : Nat) : Int := if b then fwdF 128 (blkF all (k % 4)) (k / 4) else fwdF 512 (winF all) k
def pickF (l : Nat → Int) (m k : Nat) : Int := l (4 * k + m)
noncomputable def soundB (l : Nat → Int) (m i : Nat) : Int := if 128 * m ≤ i ∧ i < 128 * m + 256 then shapeF 256 (backF 128 (pickF l m)) (i - 128 * m) else 0
noncomputable def soundA (l : Nat → Int) : Nat → Nat → Int
  | 0, _ => 0
  | m + 1, i => soundA l m i + soundB l m i
noncomputable def soundL (l : Nat → Int) (i : Nat) : Int := shapeF 640 (fun j => backF 512 l (192 + j)) i
noncomputable def soundF (b : Bool) (l : Nat → Int) (i : Nat) : Int := if b then soundA l 4 i else soundL l i
noncomputable def leftF (b : Bool) (l : Nat → Int) (q : Nat) : Int := soundF b l (512 + q)
noncomputable def bothF (b : Bool) (l left : Nat → Int) (i : Nat) : Int := soundF b l i + if i < 128 then left i else 0
noncomputable def samplesF (b : Bool) (l left : Nat → Int) (i : Nat) : Int := satP (rndP (bothF b l left i) 4) 16
theorem winF_abs {all : Nat → Int} {B : Nat} (h : ∀ i, i < 640 → (all i).natAbs ≤ B) (i : Nat) : (winF all i).natAbs ≤ B := by
  unfold winF
  split
  · simp
  · split
    · exact shapeF_abs (h _ (by omega))
    · simp
theorem blkF_abs {all : Nat → Int} {B m : Nat} (h : ∀ i, i < 640 → (all i).natAbs ≤ B) (hm : m < 4) {i : Nat} (hi : i < 256) : (blkF all m i).natAbs ≤ B :=
  shapeF_abs (h _ (by omega))
theorem linesF_bd (b : Bool) (all : Nat → Int) (k : Nat) : -33554432 ≤ linesF b all k ∧ linesF b all k ≤ 33554431 := by
  unfold linesF
  split
  · exact satP_26_bd _
  · exact satP_26_bd _
theorem linesF_brief (all : Nat → Int) {m : Nat} (hm : m < 4) : pickF (linesF true all) m = fwdF 128 (blkF all m) := by
  funext k
  unfold pickF linesF
  rw [if_pos rfl, show (4 * k + m) % 4 = m by omega, show (4 * k + m) / 4 = k by omega]
theorem linesF_long (all : Nat → Int) : linesF false all = fwdF 512 (winF all) := by
  funext k
  unfold linesF
  rw [if_neg (by decide)]
section
variable {l : Nat → Int}
theorem soundB_abs (h : ∀ j, j < 512 → (l j).natAbs ≤ 33554432) {m : Nat} (hm : m < 4) (i : Nat) : (soundB l m i).natAbs ≤ 536870500 := by
  unfold soundB
  split
  · exact shapeF_abs (backF_128 (fun j hj => h _ (by omega)) (by omega))
  · simp
theorem soundA_abs (h : ∀ j, j < 512 → (l j).natAbs ≤ 33554432) : ∀ {m : Nat}, m ≤ 4 → ∀ i, (soundA l m i).natAbs ≤ m * 536870500
  | 0, _, i => by simp [soundA]
  | m + 1, hm, i => by
    have h1 := soundA_abs h (m := m) (by omega) i
    have h2 := soundB_abs h (m := m) (by omega) i
    unfold soundA
    omega
theorem soundB_out {m i : Nat} (h : i < 128 * m ∨ 128 * m + 256 ≤ i) : soundB l m i = 0 := if_neg (by omega)
theorem soundA_first {i : Nat} (h : i < 128) : soundA l 4 i = soundB l 0 i := by
  show 0 + soundB l 0 i + soundB l 1 i + soundB l 2 i + soundB l 3 i = _
  rw [soundB_out (m := 1) (by omega), soundB_out (m := 2) (by omega), soundB_out (m := 3) (by omega)]; omega
theorem soundA_last {i : Nat} (h : 512 ≤ i) : soundA l 4 i = soundB l 3 i := by
  show 0 + soundB l 0 i + soundB l 1 i + soundB l 2 i + soundB l 3 i = _
  rw [soundB_out (m := 1) (by omega), soundB_out (m := 2) (by omega), soundB_out (m := 0) (by omega)]; omega
theorem soundL_abs (h : ∀ j, j < 512 → (l j).natAbs ≤ 33554432) {i : Nat} (hi : i < 640) : (soundL l i).natAbs ≤ 1073741000 :=
  shapeF_abs (backF_512 h (by omega))
theorem soundF_abs (h : ∀ j, j < 512 → (l j).natAbs ≤ 33554432) (b : Bool) {i : Nat} (hi : i < 640) : (soundF b l i).natAbs ≤ 2147482000 := by
  unfold soundF
  split
  · have := soundA_abs h (m := 4) (by omega) i; omega
  · have := soundL_abs h hi; omega
theorem soundF_edge (h : ∀ j, j < 512 → (l j).natAbs ≤ 33554432) (b : Bool) {i : Nat} (hi : i < 128 ∨ (512 ≤ i ∧ i < 640)) : (soundF b l i).natAbs ≤ 1073741000 := by
  unfold soundF
  split
  · rcases hi with hi | hi
    · rw [soundA_first hi]; have := soundB_abs h (m := 0) (by omega) i; omega
    · rw [soundA_last hi.1]; have := soundB_abs h (m := 3) (by omega) i; omega
  · exact soundL_abs h (by omega)
theorem leftF_abs (h : ∀ j, j < 512 → (l j).natAbs ≤ 33554432) (b : Bool) {q : Nat} (hq : q < 128) : (leftF b l q).natAbs ≤ 1073741000 := soundF_edge h b (.inr ⟨by omega, by omega⟩)
theorem bothF_abs {left : Nat → Int} (h : ∀ j, j < 512 → (l j).natAbs ≤ 33554432) (hl : ∀ q, q < 128 → (left q).natAbs ≤ 1073741000) (b : Bool) {i : Nat} (hi : i < 640) : (bothF b l left i).natAbs ≤ 2147482000 := by
  unfold bothF
  split
  · have h1 := soundF_edge h b (i := i) (.inl (by assumption)); have h2 := hl i (by assumption); omega
  · have := soundF_abs h b hi; omega
end
section
variable {all : Nat → Int}
end
end Go.Proofs.YtmgfkdmjgjlkjaaGreat

namespace Go.Proofs.YtmgfkdmjgjlkjaaGreat
open Go.RowKit
set_option linter.unusedVariables false
theorem lenE_shift {n : Int} {x b : Nat} (hn : 0 ≤ n) (hx : (x : Int) = n / 2 ^ b) (h : x ≠ 0) : bitLen n.toNat = b + bitLen x := by
  have e : n.toNat / 2 ^ b = x := by
    have : ((n.toNat / 2 ^ b : Nat) : Int) = x := by rw [Int.natCast_ediv, Int.toNat_of_nonneg hn, hx]; simp
    omega
  have := bitLen_shift n.toNat b (by omega)
  rw [e] at this; exact this
set_option maxRecDepth 100000 in
theorem len32E_any (n : Int) (w : World) (hn : 0 ≤ n) (hn' : n ≤ 4294967295) :
    Calls Tryz.prog 156 #[.int .u32 n] w fun e w' => e = .returned (.int .i64 (bitLen n.toNat)) ∧ w = w' := by
  go_enter Tryz.func156, Tryz.ntmps156
  go_wp2
  · go_ret
    refine ⟨ret_int ?_, rfl⟩
    rw [len8tab_get]
    have := bitLen_le8 (n / 65536 / 256).toNat (by omega)
    rw [lenE_shift (x := (n / 65536 / 256).toNat) (b := 24) hn (by rw [Int.toNat_of_nonneg (by omega), Int.ediv_ediv_of_nonneg (by decide)]; rfl) (by omega)]
    simp only [wrap64]; omega
  · go_ret
    refine ⟨ret_int ?_, rfl⟩
    rw [len8tab_get]
    have := bitLen_le8 (n / 65536).toNat (by omega)
    rw [lenE_shift (x := (n / 65536).toNat) (b := 16) hn (by rw [Int.toNat_of_nonneg (by omega)]; rfl) (by omega)]
    simp only [wrap64]; omega
  · go_ret
    refine ⟨ret_int ?_, rfl⟩
    rw [len8tab_get]
    have := bitLen_le8 (n / 256).toNat (by omega)
    rw [lenE_shift (x := (n / 256).toNat) (b := 8) hn (by rw [Int.toNat_of_nonneg (by omega)]; rfl) (by omega)]
    simp only [wrap64]; omega
  · go_ret
    refine ⟨ret_int ?_, rfl⟩
    rw [len8tab_get]
    have := bitLen_le8 n.toNat (by omega)
    simp only [wrap64]; omega
theorem engBits_any (n : Int) (w : World) (h0 : -2147483648 ≤ n) (h1 : n ≤ 2147483647) :
    Calls Tryz.prog 127 #[.int .i32 n] w fun e w' => e = .returned (.int .i64 (bitsI n)) ∧ w = w' := by
  obtain ⟨m, hm, m0, m1⟩ : ∃ m : Int, (n < 0 → m = -n) ∧ 0 ≤ m ∧ m ≤ 2147483648 := ⟨if n < 0 then -n else 0, fun h => if_pos h, by split <;> omega, by split <;> omega⟩
  by_cases hn : n < 0
  · have e1 : -n = m := (hm hn).symm
    have HB : RowKit.Hid (bitLen m.toNat = bitsI n) := by show _ = bitLen n.natAbs; congr 1; omega
    have d1 : decide (n < 0) = true := by simp; omega
    by_cases hq : n = -2147483648
    · have g1 : IntKind.i32.wrap (-n) = -2147483648 := by rw [hq]; decide
      have g2 : IntKind.u32.wrap (-2147483648) = m := by have : m = 2147483648 := by omega
                                                         rw [this]; decide
      clear hm hq hn e1
      go_enter Tryz.func127, Tryz.ntmps127
      go_wp2_with (go_at_call 156; refine (len32E_any m _ m0 (by omega)).mono ?_; rintro e w' ⟨rfl, rfl⟩; rw [HB.out])
      go_ret
      exact ⟨rfl, rfl⟩
    · have g1 : IntKind.i32.wrap (-n) = m := by rw [e1]; exact IntWalk.i32_in _ (by omega)
      have g2 : IntKind.u32.wrap m = m := IntWalk.u32_in _ (by omega)
      clear hm hq hn e1
      go_enter Tryz.func127, Tryz.ntmps127
      go_wp2_with (go_at_call 156; refine (len32E_any m _ m0 (by omega)).mono ?_; rintro e w' ⟨rfl, rfl⟩; rw [HB.out])
      go_ret
      exact ⟨rfl, rfl⟩
  · have HB : RowKit.Hid (bitLen n.toNat = bitsI n) := by show _ = bitLen n.natAbs; congr 1; omega
    have d1 : decide (n < 0) = false := by simp; omega
    have g2 : IntKind.u32.wrap n = n := IntWalk.u32_in _ (by omega)
    clear hm
    go_enter Tryz.func127, Tryz.ntmps127
    go_wp2_with (go_at_call 156; refine (len32E_any n _ (by omega) (by omega)).mono ?_; rintro e w' ⟨rfl, rfl⟩; rw [HB.out])
    go_ret
    exact ⟨rfl, rfl⟩
theorem engRight_any (a : Option Addr) (len cap : Nat) (zs : List Int) (w : World) (h : IntsAt w w.heap.size .i64 a len zs) (hm : len ≤ 9223372036854775807) :
    Calls Tryz.prog 128 #[.slice a len cap] w fun e w' => e = .returned (.bool (rightB zs)) ∧ w = w' := by
  obtain ⟨R, hR⟩ : ∃ R, R = rightB zs := ⟨_, rfl⟩
  rw [← hR]
  by_cases hl : len = 21
  · subst hl
    have H0 := Lib.hid h
    have HL := Lib.hid h.1
    have HR := Lib.hid hR
    clear h hR
    go_enter Tryz.func128, Tryz.ntmps128
    go_wp2
    go_loop [10] (fun i => ∃ k : Nat, k ≤ 21 ∧ i = .int .i64 (k : Int) ∧ RowKit.Hid (∀ j, j < k → 0 ≤ zs.getD j 0 ∧ zs.getD j 0 ≤ 26)) (fun i => 21 - (intOf i).toNat)
    case atStart => exact ⟨0, by omega, rfl, fun j hj => by omega⟩
    case round =>
      obtain ⟨k, hk, rfl, HP⟩ := hrel
      by_cases hlt : k < 21
      · obtain ⟨b, off, rfl, _, _, hcell⟩ := H0.out.at_ hlt
        have HN : RowKit.Hid (zs.getD k 0 < 0 ∨ 26 < zs.getD k 0 → R = false) := fun c => by rw [HR.out]; exact rightB_at (by rw [HL.out]; exact hlt) c
        have HY : RowKit.Hid (0 ≤ zs.getD k 0 ∧ zs.getD k 0 ≤ 26 → ∀ j, j < k + 1 → 0 ≤ zs.getD j 0 ∧ zs.getD j 0 ≤ 26) := fun c j hj => by
          by_cases e : j = k
          · rw [e]; exact c
          · exact HP.out j (by omega)
        generalize zs.getD k 0 = x at hcell HN HY
        by_cases x0 : x < 0
        · have HF := Lib.hid (HN.out (.inl x0))
          go_wp2
          go_ret
          exact ⟨ret_bool HF.out.symm, rfl⟩
        · by_cases x1 : 26 < x
          · have HF := Lib.hid (HN.out (.inr x1))
            go_wp2
            go_ret
            exact ⟨ret_bool HF.out.symm, rfl⟩
          · have HT := Lib.hid (HY.out ⟨by omega, by omega⟩)
            go_wp2
            go_round
            case rel => exact ⟨k + 1, by omega, by go_num, HT.out⟩
            case measure => simp [intOf] <;> omega
      · obtain rfl : k = 21 := by omega
        have HF : RowKit.Hid (R = true) := by show _ = _; rw [HR.out]; exact rightB_of HL.out HP.out
        go_wp2
        go_ret
        exact ⟨ret_bool HF.out.symm, rfl⟩
  · have HF : RowKit.Hid (R = false) := by show _ = _; rw [hR]; exact rightB_len (by rw [h.1]; exact hl)
    have q1 : ((len : Int) == 21) = false := by simp; omega
    clear h hR hl
    go_enter Tryz.func128, Tryz.ntmps128
    go_wp2
    go_ret
    exact ⟨ret_bool HF.out.symm, rfl⟩
theorem engAhead_any (a : Option Addr) (len cap : Nat) (zs : List Int) (w : World) (h : IntsAt w w.heap.size .i64 a len zs) (hm : len ≤ 9223372036854775807) :
    Calls Tryz.prog 160 #[.slice a len cap] w fun e w' => e = .returned (.bool (decide (len = 0) || rightB zs)) ∧ w = w' := by
  have H0 := Lib.hid h
  by_cases h0 : len = 0
  · subst h0
    clear h
    go_enter Tryz.func160, Tryz.ntmps160
    go_wp2
    go_ret
    exact ⟨rfl, rfl⟩
  · have q1 : ((len : Int) == 0) = false := by simp; omega
    have HD : RowKit.Hid ((decide (len = 0) || rightB zs) = rightB zs) := by show _ = _; simp [h0]
    clear h h0
    go_enter Tryz.func160, Tryz.ntmps160
    go_wp2_with (go_at_call 128; refine (engRight_any _ _ _ _ _ H0.out hm).mono ?_; rintro e w' ⟨rfl, rfl⟩)
    go_ret
    exact ⟨ret_bool HD.out.symm, rfl⟩
theorem i64_and31 (n : Int) : bits .and .i64 n 31 = n % 32 := by
  have h1 : (BitVec.ofInt 64 31).toNat = 2 ^ 5 - 1 := by decide
  have key : (BitVec.ofInt 64 n &&& BitVec.ofInt 64 31).toNat = (n % ((2 ^ 64 : Nat) : Int)).toNat % 2 ^ 5 := by
    rw [BitVec.toNat_and, BitVec.toNat_ofInt, h1, Nat.and_two_pow_sub_one_eq_mod]
  show IntKind.i64.wrap ((BitVec.ofInt 64 n &&& BitVec.ofInt 64 31).toNat : Nat) = n % 32
  rw [key, IntKind.wrap_i64]
  omega
theorem engWrap_any (n : Int) (w : World) :
    Calls Tryz.prog 190 #[.int .i64 n] w fun e w' => e = .returned (.int .i64 (n % 32)) ∧ w = w' := by
  have HE := Lib.hid (i64_and31 n)
  go_enter Tryz.func190, Tryz.ntmps190
  go_wp2
  go_ret
  exact ⟨ret_int HE.out, rfl⟩
theorem drewE_add (w : World) (a b : Nat) : (w.drewN a).drewN b = w.drewN (a + b) := by unfold World.drewN; simp only [Nat.add_assoc]
end Go.Proofs.YtmgfkdmjgjlkjaaGreat

namespace Go.Proofs.YtmgfkdmjgjlkjaaGreat
open Go.RowKit
set_option linter.unusedVariables false
theorem infoE_int : (Tryz.prog.info? 3).map (fun i => (i.zero, i.size, i.bytes)) = some (some (.int .i64 0), 1, 8) := by kernel_rfl
theorem edges_at {w : World} {B b off : Nat} (h : IntsAt w B .i64 (some ⟨b, off, none⟩) 22 edgesL) {k : Nat} (hk : k < 22) : w.cell? ⟨b, off + k, none⟩ = some (.int .i64 (edgeK k : Int)) := by
  rw [ints_cell h hk, ← edgeK_eq hk]; rfl
def CeilPost (x : Nat → Int) (w : World) (e : Ending) (w' : World) : Prop :=
  ∃ g, e = .returned (.tuple #[.slice (some ⟨g, 0, none⟩) 21 21, .int .i64 0]) ∧ IFun w' g 3 .i64 21 (ceilF x) ∧ w.heap.size ≤ g ∧ Below w.heap.size w w'
set_option maxHeartbeats 1000000 in
set_option maxRecDepth 100000 in
theorem engCeil_any (b off cap : Nat) (x : Nat → Int) (w : World) (hb : b < w.heap.size) (h : ∀ i, i < 512 → w.cell? ⟨b, off + i, none⟩ = some (.int .i32 (x i))) (hx : ∀ i, i < 512 → -2147483648 ≤ x i ∧ x i ≤ 2147483647) (hc : 512 ≤ cap) (hc' : cap ≤ 9223372036854775807) :
    Calls Tryz.prog 96 #[.slice (some ⟨b, off, none⟩) 512 cap] w (CeilPost x w) := by
  have HC := Lib.hid h
  have HX := Lib.hid hx
  clear h hx
  have hmk : ∀ w : World, (Instr.makeSlice 68 (.int .i64 21) (.int .i64 21)).run Tryz.prog w = .ok (.slice (some ⟨w.heap.size, 0, none⟩) 21 21) (w.alloc (.cells (madeCells #[.int .i64 0] 21) 3)) :=
    fun w => make_zeros (P := Tryz.prog) Tryz.underlying68 infoE_int 21 (by decide) (by decide) w
  go_enter Tryz.func96, Tryz.ntmps96
  go_wp2_with (go_at_call 126; go_loud (refine (bandsEdges_any _).mono ?_); rintro e w1 ⟨ea, ec, rfl, hi, hbl⟩; obtain ⟨eb, eo, rfl⟩ := ints_some hi (by decide); have HE1 := Lib.hid hi; have HB1 := Lib.hid hbl; clear hi hbl)
  obtain ⟨g, hg⟩ : ∃ g, g = w1.heap.size := ⟨_, rfl⟩
  obtain ⟨w2, hw2⟩ : ∃ w2, w2 = w1.alloc (.cells (madeCells #[.int .i64 0] 21) 3) := ⟨_, rfl⟩
  have hgs : w.heap.size ≤ g := by rw [hg]; exact HB1.out.size
  have hebg : eb < g := by rw [hg]; obtain ⟨_, _, e, h, _⟩ := HE1.out.at_ (j := 0) (by decide); injection e with e; injection e with e1; omega
  have HE : RowKit.Hid (∀ k, k < 22 → w2.cell? ⟨eb, eo + k, none⟩ = some (.int .i64 (edgeK k : Int))) := fun k hk => by
    rw [hw2]; exact edges_at (HE1.out.below (Below.alloc_new w1 _)) hk
  have HB2 : RowKit.Hid (Below w.heap.size w w2) := by rw [hw2]; exact HB1.out.alloc HB1.out.size _
  have H0 : RowKit.Hid (IFun w2 g 3 .i64 21 (preF (ceilF x) 0)) := by
    rw [hw2, hg]; exact IFun.ext (IFun.zeros w1 3 .i64 21) fun j _ => (preF_zero _ j).symm
  rw [← hw2, ← hg]
  clear hw2 hg HE1 HB1 hmk
  go_loopw [16] (fun i wr => ∃ k : Nat, k ≤ 21 ∧ i = .int .i64 (k : Int) ∧ RowKit.Hid (IFun wr g 3 .i64 21 (preF (ceilF x) k) ∧ Below g w2 wr)) (fun i _ => 21 - (intOf i).toNat)
  case atStart => exact ⟨0, by omega, rfl, H0.out, Below.refl _ _⟩
  case round =>
    obtain ⟨k, hk, rfl, H⟩ := hrel
    clear H0
    by_cases hlt : k < 21
    · have k1 := (H.out.2.cell (p := ⟨eb, eo + k, none⟩) hebg).trans (HE.out k (by omega))
      have k2 := (H.out.2.cell (p := ⟨eb, eo + (k + 1), none⟩) hebg).trans (HE.out (k + 1) (by omega))
      obtain ⟨ed1, ed2⟩ := edgeK_lt k hlt
      obtain ⟨n, hn⟩ : ∃ n, n = edgeK (k + 1) - edgeK k := ⟨_, rfl⟩
      have HEnd : RowKit.Hid (∀ i, accF x k n i = preF (ceilF x) (k + 1) i) := fun i => accF_end x i hn
      have Hk := Lib.hid (rfl : edgeK k = edgeK k)
      have HN : RowKit.Hid (∀ m : Nat, accF x k m k = maxTo (bitF x) (edgeK k) m) := fun m => accF_here x k m
      have HM : RowKit.Hid (∀ m : Nat, maxTo (bitF x) (edgeK k) (m + 1) = max (maxTo (bitF x) (edgeK k) m) (bitsI (x (edgeK k + m)))) := fun m => rfl
      have HAN : RowKit.Hid (∀ (m i : Nat) (y : Int), y = maxTo (bitF x) (edgeK k) (m + 1) → (if i = k then y else accF x k m i) = accF x k (m + 1) i) := fun m i y h => accF_next x k m i h
      have HBd : RowKit.Hid (∀ m : Nat, m ≤ n → 0 ≤ maxTo (bitF x) (edgeK k) m ∧ maxTo (bitF x) (edgeK k) m ≤ 32) := fun m hm => maxTo_bd (by decide) m fun i hi => (bitF_bd HX.out (by omega)).2
      have e2 : edgeK (k + 1) = edgeK k + n := by omega
      have hn0 : 0 < n := by omega
      obtain ⟨E, hE⟩ : ∃ E, E = edgeK (k + 1) := ⟨_, rfl⟩
      rw [← hE] at k2 ed1 ed2 hn e2
      clear hE Hk
      have HCl : RowKit.Hid (∀ m, m < n → w2.cell? ⟨b, off + edgeK k + m, none⟩ = some (.int .i32 (x (edgeK k + m)))) := fun m hm => by
        rw [Nat.add_assoc]; exact (HB2.out.cell (p := ⟨b, off + (edgeK k + m), none⟩) hb).trans (HC.out _ (by omega))
      have HXl : RowKit.Hid (∀ m, m < n → -2147483648 ≤ x (edgeK k + m) ∧ x (edgeK k + m) ≤ 2147483647) := fun m hm => HX.out _ (by omega)
      generalize edgeK k = A at k1 ed1 ed2 hn e2 HN HM HAN HBd HCl HXl
      have hca : ¬ cap = A := by omega
      have e3 : E - A = n := hn.symm
      clear hn e2
      have H1 : RowKit.Hid (∀ q, IFun (wr.drewN q) g 3 .i64 21 (accF x k 0) ∧ Below g w2 (wr.drewN q)) := fun q => ⟨IFun.ext (H.out.1.drewN q) fun i _ => (accF_zero x k i).symm, Below.drewN' H.out.2 q⟩
      have l0 : (k : Int) < 21 := by omega
      go_wp2
      go_quiet (fail)
      have H2 := Lib.hid (H1.out nq)
      clear H1 k1 k2 H
      generalize wr.drewN nq = wq at H2 ⊢
      go_wp2
      go_loopw [8, 31] (fun _ i wx => ∃ m : Nat, m ≤ n ∧ i = .int .i64 (m : Int) ∧ RowKit.Hid (IFun wx g 3 .i64 21 (accF x k m) ∧ Below g w2 wx)) (fun _ i _ => n - (intOf i).toNat)
      case atStart => exact ⟨0, by omega, rfl, H2.out⟩
      case round =>
        obtain ⟨m, hm, rfl, G⟩ := hrel
        clear H2
        by_cases hmn : m < n
        · have c1 := (G.out.2.cell (p := ⟨b, off + A + m, none⟩) (by show b < g; omega)).trans (HCl.out m hmn)
          obtain ⟨x0, x1⟩ := HXl.out m hmn
          have o1 := G.out.1.cell (j := k) hlt
          rw [HN.out m] at o1
          have f1 := G.out.1.frozen k
          obtain ⟨b0, b1⟩ := HBd.out m hm
          obtain ⟨y, hy⟩ : ∃ y, y = maxTo (bitF x) A (m + 1) := ⟨_, rfl⟩
          have HV : RowKit.Hid (∀ q, IFun ((wr.drewN q).setCell ⟨g, k, none⟩ (.int .i64 y)) g 3 .i64 21 (accF x k (m + 1)) ∧ Below g w2 ((wr.drewN q).setCell ⟨g, k, none⟩ (.int .i64 y))) := fun q =>
            ⟨IFun.ext ((G.out.1.drewN q).set (j := k) hlt y) fun i _ => HAN.out m i y hy, Below.setCell (p := ⟨g, k, none⟩) (Below.drewN' G.out.2 q) (Nat.le_refl _) _⟩
          have HY := Lib.hid (hy.trans (HM.out m))
          clear hy
          generalize maxTo (bitF x) A m = M at o1 b0 b1 HY
          have hB := bitsI_le x0 (by omega)
          have HQ : RowKit.Hid (∀ i, Calls Tryz.prog 127 #[.int .i32 (x (A + m))] (wr.drewN i) fun e w' => e = .returned (.int .i64 (bitsI (x (A + m)))) ∧ w' = wr.drewN i) := fun i => (engBits_any _ _ x0 x1).mono fun _ _ h => ⟨h.1, h.2.symm⟩
          generalize x (A + m) = z at c1 x0 x1 HY HQ hB
          generalize bitsI z = B at HY HQ hB
          have l1 : (m : Int) < (n : Int) := by omega
          go_wp2
          go_still_tail 10, (by kernel_rfl)
          repeat still_step
          still_call (HQ.out 1)
          repeat still_step
          refine wpStill_nil ?_
          change wpList _ _ _ _ _ wr.drew
          have hE : (if M < (B : Int) then (B : Int) else M) = y := by rw [HY.out]; split <;> omega
          rw [hE]
          have HV1 := Lib.hid (HV.out 1)
          have o2 : wr.drew.cell? ⟨g, k, none⟩ = some (.int .i64 M) := o1
          have f2 : wr.drew.frozen? ⟨g, k, none⟩ = false := f1
          change RowKit.Hid (IFun (wr.drew.setCell ⟨g, k, none⟩ (.int .i64 y)) g 3 .i64 21 (accF x k (m + 1)) ∧ Below g w2 (wr.drew.setCell ⟨g, k, none⟩ (.int .i64 y))) at HV1
          clear HV HQ o1 f1 c1 hE
          generalize wr.drew = wq at HV1 o2 f2 ⊢
          go_wp2
          go_roundw
          case rel => exact ⟨m + 1, by omega, by go_num, HV1.out⟩
          case measure => simp [intOf] <;> omega
        · obtain rfl : m = n := by omega
          have Z : RowKit.Hid (IFun wr g 3 .i64 21 (preF (ceilF x) (k + 1)) ∧ Below g w2 wr) := ⟨IFun.ext G.out.1 fun i _ => HEnd.out i, G.out.2⟩
          have l1 : ¬ (m : Int) < (m : Int) := by omega
          go_wp2
          go_roundw
          case rel => exact ⟨k + 1, by omega, by go_num, Z.out⟩
          case measure => simp [intOf] <;> omega
    · obtain rfl : k = 21 := by omega
      have Z : RowKit.Hid (IFun wr g 3 .i64 21 (ceilF x) ∧ Below w.heap.size w wr) := ⟨IFun.ext H.out.1 fun i hi => preF_end _ hi, HB2.out.trans (H.out.2.mono hgs)⟩
      go_wp2
      go_ret2
      exact ⟨g, rfl, Z.out.1, hgs, Z.out.2⟩
end Go.Proofs.YtmgfkdmjgjlkjaaGreat

namespace Go.Proofs.YtmgfkdmjgjlkjaaGreat
open Go.RowKit
set_option linter.unusedVariables false
theorem infoE_i32 : (Tryz.prog.info? 21).map (fun i => (i.zero, i.size, i.bytes)) = some (some (.int .i32 0), 1, 4) := by kernel_rfl
theorem IFun.ints {w : World} {g n : Nat} {t : TypeId} {k : IntKind} {f : Nat → Int} (h : IFun w g t k n f) (hn : n ≤ 9223372036854775807) : IntsAt w w.heap.size k (some ⟨g, 0, none⟩) n (tabF n f) :=
  ⟨tabF_len _ _, .inr ⟨g, 0, rfl, h.lt, hn, fun j hj => by rw [Nat.zero_add, h.cell hj, tabF_getD _ hj]⟩⟩
end Go.Proofs.YtmgfkdmjgjlkjaaGreat

namespace Go.Proofs.YtmgfkdmjgjlkjaaGreat
open Go.RowKit
set_option linter.unusedVariables false
theorem mskFade_any (j b : Nat) (w : World) (hj : j < 21) (hb : b < 21) :
    Calls Tryz.prog 157 #[.int .i64 (j : Int), .int .i64 (b : Int)] w fun e w' => e = .returned (.int .i64 (fadeF j b)) ∧ w = w' := by
  by_cases h : j < b
  · have HE := Lib.hid (fadeF_below h)
    have l1 : (j : Int) < (b : Int) := by omega
    clear h
    go_enter Tryz.func157, Tryz.ntmps157
    go_wp2
    go_ret
    exact ⟨ret_int (by rw [HE.out]), rfl⟩
  · have HE := Lib.hid (fadeF_above h)
    have l1 : ¬ (j : Int) < (b : Int) := by omega
    clear h
    go_enter Tryz.func157, Tryz.ntmps157
    go_wp2
    go_ret
    exact ⟨ret_int (by rw [HE.out]), rfl⟩
theorem mskThr_any (a : Option Addr) (cap b : Nat) (zs : List Int) (w : World) (h : IntsAt w w.heap.size .i64 a 21 zs) (hr : rightB zs = true) (hb : b < 21) :
    Calls Tryz.prog 129 #[.slice a 21 cap, .int .i64 (b : Int)] w fun e w' => e = .returned (.int .i64 (thrTo (fun j => zs.getD j 0) b 21)) ∧ w = w' := by
  have H0 := Lib.hid h
  have HR := Lib.hid (rightB_true hr).2
  obtain ⟨T, hT⟩ : ∃ T, T = thrTo (fun j => zs.getD j 0) b := ⟨_, rfl⟩
  have HB : RowKit.Hid (∀ n, n ≤ 21 → 0 ≤ T n ∧ T n ≤ 26) := fun n hn => by rw [hT]; exact thrTo_bd hb n hn fun j hj => HR.out j (by omega)
  have HS : RowKit.Hid (∀ n, T (n + 1) = max (T n) (zs.getD n 0 - fadeF n b)) := fun n => by rw [hT]; rfl
  have HZ : RowKit.Hid (T 0 = 0) := by show _ = _; rw [hT]; rfl
  rw [← hT]
  clear h hr hT
  go_enter Tryz.func129, Tryz.ntmps129
  go_wp2
  go_loop [5, 10] (fun m i => ∃ k : Nat, k ≤ 21 ∧ i = .int .i64 (k : Int) ∧ m = .int .i64 (T k)) (fun _ i => 21 - (intOf i).toNat)
  case atStart => exact ⟨0, by omega, rfl, by rw [HZ.out]⟩
  case round =>
    obtain ⟨k, hk, rfl, rfl⟩ := hrel
    by_cases hlt : k < 21
    · obtain ⟨bb, off, rfl, _, _, hcell⟩ := H0.out.at_ hlt
      obtain ⟨x0, x1⟩ := HR.out k hlt
      obtain ⟨f0, f1⟩ := fadeF_bd hlt hb
      obtain ⟨t0, t1⟩ := HB.out k (by omega)
      have HN := Lib.hid (HS.out k)
      have HC := Lib.hid (mskFade_any k b w hlt hb)
      generalize zs.getD k 0 = x at hcell x0 x1 HN
      generalize fadeF k b = f at f0 f1 HN HC
      generalize T k = t at t0 t1 HN
      have l1 : (k : Int) < 21 := by omega
      go_wp2_with (go_at_call 157; refine HC.out.mono ?_; rintro e w' ⟨rfl, rfl⟩)
      all_goals
        go_round
        case rel => exact ⟨k + 1, by omega, by go_num, by rw [HN.out]; go_num⟩
        case measure => simp [intOf] <;> omega
    · obtain rfl : k = 21 := by omega
      go_wp2
      go_ret
      exact ⟨rfl, rfl⟩
end Go.Proofs.YtmgfkdmjgjlkjaaGreat

namespace Go.Proofs.YtmgfkdmjgjlkjaaGreat
open Go.RowKit
set_option linter.unusedVariables false
def StepsPost (l : Nat → Int) (q x : Int) (w : World) (e : Ending) (w' : World) : Prop :=
  ∃ g, e = .returned (.tuple #[.slice (some ⟨g, 0, none⟩) 21 21, .int .i64 0]) ∧ IFun w' g 3 .i64 21 (stepF l q x) ∧ w.heap.size ≤ g ∧ Below w.heap.size w w'
def mayStep (zs : List Int) (q x : Int) : Prop := rightB zs = true ∧ 1 ≤ q ∧ q ≤ 10 ∧ 0 ≤ x ∧ x ≤ 31
set_option maxRecDepth 100000 in
theorem mskSteps_any (a : Option Addr) (cap : Nat) (zs : List Int) (q x : Int) (w : World) (h : IntsAt w w.heap.size .i64 a 21 zs) (hok : mayStep zs q x) :
    Calls Tryz.prog 97 #[.slice a 21 cap, .int .i64 q, .int .i64 x] w (StepsPost (fun j => zs.getD j 0) q x w) := by
  obtain ⟨hr, q0, q1, x0, x1⟩ := hok
  have H0 := Lib.hid h
  have HR := Lib.hid hr
  have HRb := Lib.hid (rightB_true hr).2
  obtain ⟨F, hF⟩ : ∃ F, F = stepF (fun j => zs.getD j 0) q x := ⟨_, rfl⟩
  have HF := Lib.hid hF
  have HE : RowKit.Hid (∀ k, F k = min (max (max (thrTo (fun j => zs.getD j 0) k 21 - q + x) (zs.getD k 0 - 12)) 0) (zs.getD k 0)) := fun k => by rw [hF]; rfl
  have hmk : ∀ w : World, (Instr.makeSlice 68 (.int .i64 21) (.int .i64 21)).run Tryz.prog w = .ok (.slice (some ⟨w.heap.size, 0, none⟩) 21 21) (w.alloc (.cells (madeCells #[.int .i64 0] 21) 3)) :=
    fun w => make_zeros (P := Tryz.prog) Tryz.underlying68 infoE_int 21 (by decide) (by decide) w
  have HI0 : RowKit.Hid (IFun (w.alloc (.cells (madeCells #[.int .i64 0] 21) 3)) w.heap.size 3 .i64 21 (preF F 0) ∧ Below w.heap.size w (w.alloc (.cells (madeCells #[.int .i64 0] 21) 3))) :=
    ⟨IFun.ext (IFun.zeros w 3 .i64 21) fun j _ => (preF_zero F j).symm, Below.alloc_new w _⟩
  clear h hr hF
  generalize madeCells #[Value.int .i64 0] 21 = mc at HI0 hmk
  go_enter Tryz.func97, Tryz.ntmps97
  go_wp2_with (go_at_call 128; refine (engRight_any _ _ _ _ _ H0.out (by decide)).mono ?_; rintro e w' ⟨rfl, rfl⟩; rw [HR.out])
  clear hmk
  generalize hg : w.heap.size = g at HI0 ⊢
  generalize (w.alloc (.cells mc 3)) = w1 at HI0 ⊢
  go_loopw [34] (fun i wr => ∃ k : Nat, k ≤ 21 ∧ i = .int .i64 (k : Int) ∧ RowKit.Hid (IFun wr g 3 .i64 21 (preF F k) ∧ Below g w wr)) (fun i _ => 21 - (intOf i).toNat)
  case atStart => exact ⟨0, by omega, rfl, HI0.out⟩
  case round =>
    obtain ⟨k, hk, rfl, HI⟩ := hrel
    clear HI0
    by_cases hlt : k < 21
    · have o1 := HI.out.1.cell (j := k) hlt
      have f1 := HI.out.1.frozen k
      have HW : RowKit.Hid (IntsAt wr wr.heap.size .i64 a 21 zs) := H0.out.now (hg ▸ HI.out.2) (Nat.le_refl _)
      have HS : RowKit.Hid (∀ v, v = F k → IFun (wr.setCell ⟨g, k, none⟩ (.int .i64 v)) g 3 .i64 21 (preF F (k + 1)) ∧ Below g w (wr.setCell ⟨g, k, none⟩ (.int .i64 v))) := fun v hv => by
        rw [hv]; exact ⟨IFun.ext (HI.out.1.set (j := k) hlt (F k)) fun j _ => preF_next _ k j, Below.setCell (p := ⟨g, k, none⟩) HI.out.2 (Nat.le_refl _) _⟩
      have HC := Lib.hid (mskThr_any a cap k zs wr HW.out HR.out hlt)
      obtain ⟨bb, off, rfl, _, _, hcell⟩ := HW.out.at_ hlt
      obtain ⟨n0, n1⟩ := HRb.out k hlt
      obtain ⟨t0, t1⟩ := thrTo_bd (l := fun j => zs.getD j 0) (b := k) hlt 21 (Nat.le_refl _) HRb.out
      have HV := Lib.hid (HE.out k)
      generalize preF F k k = old at o1
      generalize thrTo (fun j => zs.getD j 0) k 21 = t at t0 t1 HV HC
      generalize zs.getD k 0 = n at hcell n0 n1 HV
      have l1 : (k : Int) < 21 := by omega
      clear HI HW
      go_wp2_with (go_at_call 129; refine HC.out.mono ?_; rintro e w' ⟨rfl, rfl⟩)
      all_goals
        go_roundw
        case rel => exact ⟨k + 1, by omega, by go_num, HS.out _ (by rw [HV.out]; omega)⟩
        case measure => simp [intOf] <;> omega
    · obtain rfl : k = 21 := by omega
      have Z : RowKit.Hid (IFun wr g 3 .i64 21 (stepF (fun j => zs.getD j 0) q x) ∧ Below g w wr) := ⟨IFun.ext HI.out.1 fun i hi => by rw [preF_end _ hi, HF.out], HI.out.2⟩
      go_wp2
      go_ret2
      exact ⟨g, rfl, Z.out.1, by omega, by rw [hg]; exact Z.out.2⟩
end Go.Proofs.YtmgfkdmjgjlkjaaGreat
