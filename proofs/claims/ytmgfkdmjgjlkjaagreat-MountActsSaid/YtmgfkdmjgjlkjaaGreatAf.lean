/- Plain facts, and what functions give, for the proofs of this seat: several texts in one, each with its own first remark. -/
import Derived.Test.YtmgfkdmjgjlkjaaGreatAe
import Derived.Laws.MathBits

namespace Go.Proofs.YtmgfkdmjgjlkjaaGreat
open Go.RowKit
set_option linter.unusedVariables false
theorem info_i64 : (Tryz.prog.info? 2).map (fun i => (i.zero, i.size, i.bytes)) = some (some (.int .i64 0), 1, 8) := by kernel_rfl
theorem ref04root_any (n : Int) (w : World) (hn : 0 ≤ n) (hn' : n ≤ 281474976710656) :
    Calls Tryz.prog 56 #[.int .i64 n] w fun e w' => e = .returned (.int .i64 (rootP n)) ∧ w = w' := by
  have H0 : RowKit.Hid (0 * 0 ≤ n ∧ n < 33554432 * 33554432) := ⟨by omega, by omega⟩
  go_enter Tryz.func56, Tryz.ntmps56
  go_wp2
  go_loop [3, 4] (fun l h => ∃ x y : Int, 0 ≤ x ∧ x < y ∧ y ≤ 33554432 ∧ l = .int .i64 x ∧ h = .int .i64 y ∧ RowKit.Hid (x * x ≤ n ∧ n < y * y)) (fun l h => (intOf h - intOf l).toNat)
  case atStart => exact ⟨0, 33554432, by omega, by omega, by omega, rfl, rfl, H0⟩
  case round =>
    obtain ⟨x, y, h0, h1, h2, rfl, rfl, H⟩ := hrel
    clear H0
    by_cases hlt : y - x > 1
    · have hm1 : x < (x + y) / 2 := by omega
      have hm2 : (x + y) / 2 < y := by omega
      obtain ⟨s0, s1⟩ : 0 ≤ (x + y) / 2 * ((x + y) / 2) ∧ (x + y) / 2 * ((x + y) / 2) ≤ 4611686018427387904 := by
        have a := sq_mono (a := (x + y) / 2) (b := 2147483648) (by omega) (by omega)
        have b := sq_mono (a := 0) (b := (x + y) / 2) (by decide) (by omega)
        omega
      go_wp2
      · have ht : (x + y) / 2 * ((x + y) / 2) ≤ n := by assumption
        go_round
        case rel => exact ⟨(x + y) / 2, y, by omega, by omega, by omega, rfl, rfl, ht, H.out.2⟩
        case measure => simp [intOf]; omega
      · have ht : n < (x + y) / 2 * ((x + y) / 2) := by assumption
        go_round
        case rel => exact ⟨x, (x + y) / 2, by omega, by omega, by omega, rfl, rfl, H.out.1, ht⟩
        case measure => simp [intOf]; omega
    · have E : RowKit.Hid (x = rootP n) := by
        have e : y = x + 1 := by omega
        subst e
        exact rootP_eq ⟨h0, by omega, H.out.1, H.out.2⟩
      go_wp2
      go_ret
      exact ⟨ret_int E.out, rfl⟩
theorem k_ten {k : Nat} (h : k < 10) : k = 0 ∨ k = 1 ∨ k = 2 ∨ k = 3 ∨ k = 4 ∨ k = 5 ∨ k = 6 ∨ k = 7 ∨ k = 8 ∨ k = 9 := by omega
theorem half_mod {k j : Nat} (h : k < 10) : j % 2 ^ k = 0 ↔ (j % 2 ^ (k + 1) = 0 ∨ j % 2 ^ (k + 1) = 2 ^ k) := by
  rcases k_ten h with rfl | rfl | rfl | rfl | rfl | rfl | rfl | rfl | rfl | rfl <;> simp <;> omega
theorem step_last {k a : Nat} (h : k < 10) (ha : a % 2 ^ (k + 1) = 0) (h1 : a ≤ 1024) (h2 : 1024 < a + 2 ^ (k + 1)) : a = 1024 := by
  rcases k_ten h with rfl | rfl | rfl | rfl | rfl | rfl | rfl | rfl | rfl | rfl <;> simp at * <;> omega
theorem step_next {k a : Nat} (ha : a % 2 ^ (k + 1) = 0) : (a + 2 ^ (k + 1)) % 2 ^ (k + 1) = 0 ∧ (a + 2 ^ k) % 2 ^ (k + 1) = 2 ^ k := by
  have hp : 2 ^ k < 2 ^ (k + 1) := Nat.pow_lt_pow_right (by decide) (by omega)
  constructor
  · rw [Nat.add_mod_right]; exact ha
  · rw [Nat.add_mod, ha, Nat.zero_add, Nat.mod_mod, Nat.mod_eq_of_lt hp]
def lev (k : Nat) (j : Nat) : Int := if j % 2 ^ k = 0 then cosN j else 0
def levA (k a : Nat) (j : Nat) : Int := if j % 2 ^ (k + 1) = 0 ∨ (j % 2 ^ (k + 1) = 2 ^ k ∧ j < a) then cosN j else 0
theorem levA_old {k a j : Nat} (h : j % 2 ^ (k + 1) = 0) : levA k a j = cosN j := if_pos (.inl h)
theorem levA_mid {k a : Nat} (h : 2 ^ k < a) : levA k a (2 ^ k) = cosN (2 ^ k) := by
  have hp : 2 ^ k < 2 ^ (k + 1) := Nat.pow_lt_pow_right (by decide) (by omega)
  exact if_pos (.inr ⟨Nat.mod_eq_of_lt hp, h⟩)
theorem levA_start {k : Nat} : ∀ j, (if j = 2 ^ k then cosN (2 ^ k) else lev (k + 1) j) = levA k (2 ^ (k + 1)) j := by
  intro j
  have hp : 2 ^ k < 2 ^ (k + 1) := Nat.pow_lt_pow_right (by decide) (by omega)
  by_cases e : j = 2 ^ k
  · subst e; rw [if_pos rfl, levA_mid hp]
  · rw [if_neg e]
    unfold lev levA
    by_cases h0 : j % 2 ^ (k + 1) = 0
    · rw [if_pos h0, if_pos (.inl h0)]
    · rw [if_neg h0, if_neg]
      rintro (h | ⟨h, hl⟩)
      · exact h0 h
      · rw [Nat.mod_eq_of_lt hl] at h; exact e h
theorem levA_next {k a : Nat} (ha : a % 2 ^ (k + 1) = 0) : ∀ j, (if j = a + 2 ^ k then cosN (a + 2 ^ k) else levA k a j) = levA k (a + 2 ^ (k + 1)) j := by
  intro j
  have hp : 2 ^ k < 2 ^ (k + 1) := Nat.pow_lt_pow_right (by decide) (by omega)
  obtain ⟨n1, n2⟩ := step_next ha
  by_cases e : j = a + 2 ^ k
  · subst e
    rw [if_pos rfl]
    exact (if_pos (.inr ⟨n2, by omega⟩)).symm
  · rw [if_neg e]
    unfold levA
    by_cases h0 : j % 2 ^ (k + 1) = 0
    · rw [if_pos (.inl h0), if_pos (.inl h0)]
    · by_cases h1 : j % 2 ^ (k + 1) = 2 ^ k
      · by_cases h2 : j < a
        · rw [if_pos (.inr ⟨h1, h2⟩), if_pos (.inr ⟨h1, by omega⟩)]
        · rw [if_neg (by rintro (h | ⟨_, h⟩) <;> omega), if_neg]
          rintro (h | ⟨_, h⟩)
          · exact h0 h
          · apply e
            have hja : (j - a) % 2 ^ (k + 1) = 2 ^ k := by
              have e1 : j = a + (j - a) := by omega
              rw [e1, Nat.add_mod, ha, Nat.zero_add, Nat.mod_mod] at h1
              exact h1
            rw [Nat.mod_eq_of_lt (by omega)] at hja
            omega
      · rw [if_neg (by rintro (h | ⟨h, _⟩) <;> contradiction), if_neg (by rintro (h | ⟨h, _⟩) <;> contradiction)]
theorem levA_end {k : Nat} (hk : k < 10) : ∀ j, j < 1025 → levA k 1024 j = lev k j := by
  intro j hj
  unfold lev levA
  have := half_mod (j := j) hk
  by_cases h0 : j % 2 ^ k = 0
  · rw [if_pos h0, if_pos]
    rcases this.1 h0 with h | h
    · exact .inl h
    · by_cases hj2 : j < 1024
      · exact .inr ⟨h, hj2⟩
      · obtain rfl : j = 1024 := by omega
        refine .inl ?_
        rcases k_ten hk with rfl | rfl | rfl | rfl | rfl | rfl | rfl | rfl | rfl | rfl <;> decide
  · rw [if_neg h0, if_neg]
    rintro (h | ⟨h, _⟩)
    · exact h0 (this.2 (.inl h))
    · exact h0 (this.2 (.inr h))
set_option maxRecDepth 100000 in
theorem ref04Quarter_any (w : World) :
    Calls Tryz.prog 27 #[] w fun e w' => e = .returned (.slice (some ⟨w.heap.size, 0, none⟩) 1025 1025) ∧ IFun w' w.heap.size 2 .i64 1025 cosN ∧ Below w.heap.size w w' := by
  have hmk : ∀ w : World, (Instr.makeSlice 66 (.int .i64 1025) (.int .i64 1025)).run Tryz.prog w = .ok (.slice (some ⟨w.heap.size, 0, none⟩) 1025 1025) (w.alloc (.cells (madeCells #[.int .i64 0] 1025) 2)) :=
    fun w => make_zeros (P := Tryz.prog) Tryz.underlying66 info_i64 1025 (by decide) (by decide) w
  have HI := Lib.hid (IFun.zeros w 2 .i64 1025)
  have hcell0 := HI.out.cell (j := 0) (by decide)
  have hfz0 := HI.out.frozen 0
  have H0 : RowKit.Hid (IFun ((w.alloc (.cells (madeCells #[.int .i64 0] 1025) 2)).setCell ⟨w.heap.size, 0, none⟩ (.int .i64 16777216)) w.heap.size 2 .i64 1025 (lev 10)) := by
    refine IFun.ext (HI.out.set (j := 0) (by decide) 16777216) fun j hj => ?_
    unfold lev
    by_cases h0 : j = 0
    · subst h0; rw [if_pos rfl, if_pos (by decide), cosN_first]
    · rw [if_neg h0]
      by_cases h1 : j = 1024
      · subst h1; rw [if_pos (by decide), cosN_last]
      · rw [if_neg]
        show ¬ j % 1024 = 0
        omega
  have HB := Lib.hid ((Below.alloc_new w (.cells (madeCells #[.int .i64 0] 1025) 2)).setCell (p := ⟨w.heap.size, 0, none⟩) (Nat.le_refl _) (.int .i64 16777216))
  go_enter Tryz.func27, Tryz.ntmps27
  go_wp2
  clear hmk hcell0 hfz0 HI
  go_loopw [2, 3, 4, 5] (fun h _ _ _ wr => ∃ k H : Nat, k ≤ 10 ∧ h = .int .i64 H ∧ 1 ≤ H ∧ H ≤ 1024 ∧ RowKit.Hid (H = 2 ^ k) ∧ RowKit.Hid (IFun wr w.heap.size 2 .i64 1025 (lev k) ∧ Below w.heap.size w wr))
    (fun h _ _ _ _ => (intOf h).toNat)
  case atStart => exact ⟨10, 1024, by omega, rfl, by omega, by omega, rfl, by have := H0.out; rw [World.setCell_alloc_at _ _ _ _ _ rfl] at this; exact this, by have := HB.out; rw [World.setCell_alloc_at _ _ _ _ _ rfl] at this; exact this⟩
  case round =>
    obtain ⟨k, H, hk, rfl, hH1, hH2, HH, HI⟩ := hrel
    clear H0 HB
    cases k with
    | zero =>
      obtain rfl : H = 1 := HH.out
      have Z : RowKit.Hid (IFun wr w.heap.size 2 .i64 1025 cosN) := by
        refine IFun.ext HI.out.1 fun j _ => ?_
        unfold lev
        rw [if_pos (by simp [Nat.mod_one])]
      have HB := Lib.hid HI.out.2
      clear HI
      go_wp2
      go_ret
      exact ⟨rfl, Z.out, HB.out⟩
    | succ k =>
      have hk9 : k < 10 := by omega
      obtain ⟨m, hm⟩ : ∃ m, m = 2 ^ k := ⟨_, rfl⟩
      have hHm : H = 2 * m := by rw [HH.out, hm, Nat.pow_succ]; omega
      have hm1 : 1 ≤ m := by omega
      have hm2 : 2 * m ≤ H := by omega
      have hm3 : H ≤ 2 * m := by omega
      have hq1 : (H : Int) / 2 = (m : Int) := by omega
      have hq2 : (H : Int).tdiv 2 = (m : Int) := by rw [Int.tdiv_eq_ediv_of_nonneg (by omega)]; exact hq1
      clear hHm
      have hcH := HI.out.1.cell (j := H) (by omega)
      have hcm := HI.out.1.cell (j := m) (by omega)
      have hfm := HI.out.1.frozen m
      have e1 : lev (k + 1) H = cosN H := by unfold lev; rw [if_pos (by rw [HH.out]; exact Nat.mod_self _)]
      rw [e1] at hcH
      clear e1
      obtain ⟨b0, b1⟩ := cosN_bd (i := H) (by omega)
      have HR : RowKit.Hid (rootP ((16777216 + cosN H) * 8388608) = cosN m) := by
        have := cos_root hk9
        rw [← HH.out, ← hm] at this
        exact (rootP_eq this).symm
      have d1 := (cosN_bd (i := m) (by omega)).2
      have HS : RowKit.Hid (IFun (wr.setCell ⟨w.heap.size, m, none⟩ (.int .i64 (rootP ((16777216 + cosN H) * 8388608)))) w.heap.size 2 .i64 1025 (levA k H)) := by
        show IFun _ _ _ _ _ _
        rw [HR.out]
        refine IFun.ext (HI.out.1.set (j := m) (by omega) (cosN m)) fun j _ => ?_
        rw [HH.out, ← levA_start, ← hm]
      have HB := Lib.hid (HI.out.2.setCell (p := ⟨w.heap.size, m, none⟩) (Nat.le_refl _) (.int .i64 (rootP ((16777216 + cosN H) * 8388608))))
      have HM := Lib.hid hm
      clear hm HI
      generalize lev (k + 1) m = old at hcm
      go_wp2_with (go_at_call 56; refine (ref04root_any _ _ (by omega) (by omega)).mono ?_; rintro e w' ⟨rfl, rfl⟩)
      have c1 : 1 ≤ cosN m := by have := cosN_falls (i := m) (by omega); have := cosN_bd (i := m + 1) (by omega); omega
      go_loopw [3, 4, 5] (fun a _ _ wr => ∃ A : Nat, a = .int .i64 A ∧ H ≤ A ∧ A ≤ 1024 ∧ RowKit.Hid (A % 2 ^ (k + 1) = 0) ∧ RowKit.Hid (IFun wr w.heap.size 2 .i64 1025 (levA k A) ∧ Below w.heap.size w wr))
        (fun a _ _ _ => (1024 - intOf a).toNat)
      case atStart => exact ⟨H, rfl, by omega, by omega, by show H % 2 ^ (k + 1) = 0; rw [HH.out]; exact Nat.mod_self _, HS.out, HB.out⟩
      case round =>
        obtain ⟨A, rfl, hA0, hA1, HA, HI⟩ := hrel
        clear HS HB HR hcH hcm hfm
        by_cases hlt : A + H ≤ 1024
        · have i1 := HI.out.1.cell (j := A) (by omega)
          have i2 := HI.out.1.cell (j := A + H) (by omega)
          have i3 := HI.out.1.cell (j := m) (by omega)
          have i4 := HI.out.1.cell (j := A + m) (by omega)
          have f4 := HI.out.1.frozen (A + m)
          have e1 : levA k A A = cosN A := levA_old HA.out
          have e2 : levA k A (A + H) = cosN (A + H) := levA_old (by rw [HH.out]; exact (step_next HA.out).1)
          have e3 : levA k A m = cosN m := by rw [HM.out]; exact levA_mid (by rw [← HM.out]; omega)
          rw [e1] at i1
          rw [e2] at i2
          rw [e3] at i3
          clear e1 e2 e3
          obtain ⟨x0, x1⟩ := cosN_bd (i := A) (by omega)
          obtain ⟨y0, y1⟩ := cosN_bd (i := A + H) (by omega)
          have HC := Lib.hid (cos_mid (k := k) (a := A) hk9 (by omega) HA.out (by omega))
          have HN : RowKit.Hid (∀ (i : Nat) (v : Int), v = cosN (A + m) → IFun ((wr.drewN i).setCell ⟨w.heap.size, A + m, none⟩ (.int .i64 v)) w.heap.size 2 .i64 1025 (levA k (A + H)) ∧ Below w.heap.size w ((wr.drewN i).setCell ⟨w.heap.size, A + m, none⟩ (.int .i64 v))) := by
            rintro i v rfl
            refine ⟨IFun.ext ((HI.out.1.drewN i).set (j := A + m) (by omega) (cosN (A + m))) fun j _ => ?_, (Below.drewN' HI.out.2 i).setCell (Nat.le_refl _) _⟩
            rw [HH.out, ← levA_next HA.out, ← HM.out]
          rw [← HM.out, ← HH.out] at HC
          generalize cosN A = x at i1 x0 x1 HC
          generalize cosN (A + H) = y at i2 y0 y1 HC
          generalize cosN m = z at i3 c1 d1 HC
          generalize levA k A (A + m) = old at i4
          go_wp2
          have g1 : IntKind.i64.wrap ((A : Int) + (H : Int)) = (A : Int) + (H : Int) := IntWalk.i64_in _ (by omega)
          have g2 : IntKind.i64.wrap (x + y) = x + y := IntWalk.i64_in _ (by omega)
          have g3 : IntKind.i64.wrap ((x + y) * 8388608) = (x + y) * 8388608 := IntWalk.i64_in _ (by omega)
          have g4 : ((A : Int) + (H : Int)).toNat = A + H := by omega
          have g5 : (A : Int) < 1025 := by omega
          have g6 : (A : Int) + (H : Int) < 1025 := by omega
          have g7 : 0 ≤ (A : Int) + (H : Int) := by omega
          go_quiet (fail)
          clear g1 g2 g3 g4 g5 g6 g7
          obtain ⟨n, hn⟩ : ∃ n, n = (x + y) * 8388608 := ⟨_, rfl⟩
          have n0 : 0 ≤ n := by omega
          have n1 : n ≤ 281474976710656 := by omega
          simp only [← hn] at HC ⊢
          clear hn
          go_wp2
          have t0 := Int.emod_nonneg n (b := z) (by omega)
          have t1 := Int.emod_lt_of_pos n (b := z) (by omega)
          have q0 : 0 ≤ n / z := Int.ediv_nonneg (by omega) (by omega)
          have q1 : n / z ≤ n := Int.ediv_le_self z (by omega)
          have g0 : n.tmod z = n % z := Int.tmod_eq_emod_of_nonneg (by omega)
          have g1 : IntKind.i64.wrap (2 * (n % z)) = 2 * (n % z) := IntWalk.i64_in _ (by omega)
          have g2 : IntKind.i64.wrap (n % z) = n % z := IntWalk.i64_in _ (by omega)
          have g3 : IntKind.i64.wrap (m : Int) = (m : Int) := IntWalk.i64_in _ (by omega)
          have g4 : (m : Int) < 1025 := by omega
          have g5 : ¬ z = 0 := by omega
          go_quiet (fail)
          clear g0 g1 g2 g3 g4 g5
          have e4 : ((A : Int) + (m : Int)).toNat = A + m := by omega
          go_wp2
          · have ht : z ≤ 2 * (n % z) := by assumption
            go_roundw
            case rel =>
              refine ⟨A + H, by go_num, by omega, by omega, by show _ % _ = _; rw [HH.out]; exact (step_next HA.out).1, HN.out _ _ ?_⟩
              rw [HC.out, if_pos ht]
            case measure => simp [intOf] <;> omega
          · have ht : 2 * (n % z) < z := by assumption
            go_roundw
            case rel =>
              refine ⟨A + H, by go_num, by omega, by omega, by show _ % _ = _; rw [HH.out]; exact (step_next HA.out).1, HN.out _ _ ?_⟩
              rw [HC.out, if_neg (by omega)]
            case measure => simp [intOf] <;> omega
        · have Z : RowKit.Hid (IFun wr w.heap.size 2 .i64 1025 (lev k) ∧ Below w.heap.size w wr) := by
            have e : A = 1024 := step_last hk9 HA.out hA1 (by rw [← HH.out]; omega)
            subst e
            exact ⟨IFun.ext HI.out.1 (levA_end hk9), HI.out.2⟩
          clear HI
          go_wp2
          go_roundw
          case rel => exact ⟨k, m, by omega, rfl, by omega, by omega, HM.out, Z.out⟩
          case measure => simp [intOf] <;> omega
end Go.Proofs.YtmgfkdmjgjlkjaaGreat

namespace Go.Proofs.YtmgfkdmjgjlkjaaGreat
open Go.RowKit
set_option linter.unusedVariables false
theorem tmod_circle (i : Int) : (0 ≤ i.tmod 4096 ∧ i.tmod 4096 = i % 4096) ∨ (i.tmod 4096 < 0 ∧ i.tmod 4096 = i % 4096 - 4096) := by
  rcases Int.lt_or_le i 0 with h | h
  · have e : i.tmod 4096 = -((-i) % 4096) := by
      have : i = -(-i) := by omega
      rw [this, Int.neg_tmod, Int.neg_neg, Int.tmod_eq_emod_of_nonneg (by omega)]
    rw [e]
    by_cases h0 : (-i) % 4096 = 0
    · exact .inl ⟨by omega, by omega⟩
    · exact .inr ⟨by omega, by omega⟩
  · have e : i.tmod 4096 = i % 4096 := Int.tmod_eq_emod_of_nonneg h
    rw [e]
    exact .inl ⟨by omega, rfl⟩
theorem circle_in (i : Int) : ∃ P n : Nat, i % 4096 = P ∧ P < 4096 ∧ n ≤ 1024 ∧
    ((P ≤ 1024 ∧ P = n ∧ cosQ i = cosN n) ∨ (1024 < P ∧ P ≤ 2048 ∧ 2048 - P = n ∧ cosQ i = -(cosN n)) ∨ (2048 < P ∧ P < 3072 ∧ 2048 - (4096 - P) = n ∧ cosQ i = -(cosN n)) ∨ (3072 ≤ P ∧ 4096 - P = n ∧ cosQ i = cosN n)) := by
  rcases circle_at i with ⟨n, h, l⟩ | ⟨n, h, l⟩ | ⟨n, h, l0, l⟩ | ⟨n, h, l0, l⟩
  · exact ⟨n, n, h, by omega, l, .inl ⟨l, rfl, cosQ_in h l⟩⟩
  · exact ⟨2048 - n, n, by omega, by omega, by omega, .inr (.inl ⟨by omega, by omega, by omega, cosQ_2 h l⟩)⟩
  · exact ⟨2048 + n, n, by omega, by omega, by omega, .inr (.inr (.inl ⟨by omega, by omega, by omega, cosQ_3 h l0 l⟩))⟩
  · exact ⟨4096 - n, n, by omega, by omega, by omega, .inr (.inr (.inr ⟨by omega, by omega, cosQ_4 h l0 l⟩))⟩
theorem ref04Cos_any (g : Nat) (i : Int) (w : World) (hg : IFun w g 2 .i64 1025 cosN) (hi : -9223372036854775808 ≤ i) (hi' : i ≤ 9223372036854775807) :
    Calls Tryz.prog 143 #[.slice (some ⟨g, 0, none⟩) 1025 1025, .int .i64 i] w fun e w' => e = .returned (.int .i64 (cosP i)) ∧ w = w' := by
  have HG := Lib.hid hg; clear hg
  rw [cosP_q]
  obtain ⟨P, n, h, hP, hn, hc⟩ := circle_in i
  have hcell := HG.out.cell (j := n) (by omega)
  obtain ⟨x0, x1⟩ := cosN_bd (i := n) (by omega)
  have back : (P : Int) - 4096 + 4096 = (P : Int) := by omega
  rcases hc with ⟨a1, a2, e⟩ | ⟨a1, a2, a3, e⟩ | ⟨a1, a2, a3, e⟩ | ⟨a1, a2, e⟩
  all_goals
    rw [e]
    clear e
    generalize cosN n = x at hcell x0 x1 ⊢
    rcases tmod_circle i with ⟨ht0, ht⟩ | ⟨ht0, ht⟩
    all_goals
      rw [h] at ht
      clear ht0 h
      try subst a2
      go_enter Tryz.func143, Tryz.ntmps143
      go_wp2
      go_ret
      exact ⟨rfl, rfl⟩
theorem ref04Rise_any (g : Nat) (i : Int) (w : World) (hg : IFun w g 2 .i64 1025 cosN) (hi : -9223372036854775808 ≤ i) (hi' : i ≤ 9223372036854775807) :
    Calls Tryz.prog 103 #[.slice (some ⟨g, 0, none⟩) 1025 1025, .int .i64 i] w fun e w' => e = .returned (.int .i64 (riseP i)) ∧ w = w' := by
  have HG := Lib.hid hg; clear hg
  by_cases h0 : i < 0
  · rw [riseP_neg h0]
    go_enter Tryz.func103, Tryz.ntmps103
    go_wp2
    go_ret
    exact ⟨rfl, rfl⟩
  · by_cases h1 : 128 ≤ i
    · rw [riseP_big h1]
      go_enter Tryz.func103, Tryz.ntmps103
      go_wp2
      go_ret
      exact ⟨rfl, rfl⟩
    · rw [riseP_in (by omega) (by omega)]
      go_enter Tryz.func103, Tryz.ntmps103
      go_wp2_with (go_at_call 143; refine (ref04Cos_any g _ _ HG.out (by omega) (by omega)).mono ?_; rintro e w' ⟨rfl, rfl⟩)
      go_ret
      exact ⟨rfl, rfl⟩
def edgesL : List Int := [0, 4, 8, 12, 16, 20, 24, 28, 32, 40, 48, 56, 64, 80, 96, 112, 128, 160, 192, 256, 352, 512]
def edgeN (k : Nat) : Int := edgesL.getD k 0
theorem edge_bd : ∀ k : Nat, k < 22 → 0 ≤ edgeN k ∧ edgeN k ≤ 512 := by decide
theorem edge_take : ∀ k : Nat, k < 21 → edgesL.take (k + 1 + 1) = edgesL.take (k + 1) ++ [edgeN (k + 1)] := by decide
theorem edge_4 : ∀ k : Nat, k < 8 → edgeN (k + 1) = edgeN k + 4 := by decide
theorem edge_8 : ∀ k : Nat, 8 ≤ k → k < 12 → edgeN (k + 1) = edgeN k + 8 := by
  intro k h0 h1
  have : k = 8 ∨ k = 9 ∨ k = 10 ∨ k = 11 := by omega
  rcases this with rfl | rfl | rfl | rfl <;> decide
theorem edge_16 : ∀ k : Nat, 12 ≤ k → k < 16 → edgeN (k + 1) = edgeN k + 16 := by
  intro k h0 h1
  have : k = 12 ∨ k = 13 ∨ k = 14 ∨ k = 15 := by omega
  rcases this with rfl | rfl | rfl | rfl <;> decide
theorem edge_32 : ∀ k : Nat, 16 ≤ k → k < 18 → edgeN (k + 1) = edgeN k + 32 := by
  intro k h0 h1
  have : k = 16 ∨ k = 17 := by omega
  rcases this with rfl | rfl <;> decide
theorem edge_last : edgeN 19 = edgeN 18 + 64 ∧ edgeN 20 = edgeN 19 + 96 ∧ edgeN 21 = edgeN 20 + 160 := by decide
def ofN (n : Nat) : Nat := (edgesL.filter fun e => decide (e ≤ (n : Int))).length - 1
theorem ofN_all : ∀ n : Nat, n < 512 → 1 ≤ (edgesL.filter fun e => decide (e ≤ (n : Int))).length ∧ ofN n < 21 ∧ edgeN (ofN n) ≤ n ∧ (n : Int) < edgeN (ofN n + 1) := by decide +kernel
theorem info_int04 : (Tryz.prog.info? 3).map (fun i => (i.zero, i.size, i.bytes)) = some (some (.int .i64 0), 1, 8) := by kernel_rfl
set_option maxRecDepth 100000 in
theorem ref04Edges_any (w : World) :
    Calls Tryz.prog 69 #[] w fun e w' => ∃ a c, e = .returned (.slice a 22 c) ∧ IntsAt w' w'.heap.size .i64 a 22 edgesL ∧ Below w.heap.size w w' := by
  have hO := Lib.hid (World.ownsRow_lit (base := w.heap.size) (e := 3) (size := 1) w #[.int .i64 0] 1 (Nat.le_refl _) (by decide) rfl)
  have hB := Lib.hid (Below.alloc_new w (.cells #[.int .i64 0] 3))
  go_enter Tryz.func69, Tryz.ntmps69
  go_wp2
  go_loopw [1, 2, 3, 4] (fun v a i _ wr => ∃ k : Nat, k ≤ 21 ∧ i = .int .i64 k ∧ a = .int .i64 (edgeN k) ∧ RowKit.Hid (wr.ownsRow w.heap.size 3 1 v (k + 1) ((edgesL.take (k + 1)).map (Value.int .i64)) ∧ Below w.heap.size w wr))
    (fun _ _ i _ _ => (21 - intOf i).toNat)
  case atStart => exact ⟨0, by omega, rfl, rfl, hO.out, hB.out⟩
  case round =>
    obtain ⟨k, hk, rfl, rfl, H⟩ := hrel
    clear hO hB
    by_cases hlt : k < 21
    · obtain ⟨e0, e1⟩ := edge_bd k (by omega)
      have HT := Lib.hid (edge_take k hlt)
      have hsz := H.out.2.size
      have cls : ∃ d : Int, 0 ≤ d ∧ d ≤ 160 ∧ edgeN (k + 1) = edgeN k + d ∧ ((k < 8 ∧ d = 4) ∨ (8 ≤ k ∧ k < 12 ∧ d = 8) ∨ (12 ≤ k ∧ k < 16 ∧ d = 16) ∨ (16 ≤ k ∧ k < 18 ∧ d = 32) ∨ (18 ≤ k ∧ k ≤ 18 ∧ d = 64) ∨ (19 ≤ k ∧ k ≤ 19 ∧ d = 96) ∨ (20 ≤ k ∧ k ≤ 20 ∧ d = 160)) := by
        by_cases h1 : k < 8
        · exact ⟨4, by omega, by omega, edge_4 k h1, .inl ⟨h1, rfl⟩⟩
        · by_cases h2 : k < 12
          · exact ⟨8, by omega, by omega, edge_8 k (by omega) h2, .inr (.inl ⟨by omega, h2, rfl⟩)⟩
          · by_cases h3 : k < 16
            · exact ⟨16, by omega, by omega, edge_16 k (by omega) h3, .inr (.inr (.inl ⟨by omega, h3, rfl⟩))⟩
            · by_cases h4 : k < 18
              · exact ⟨32, by omega, by omega, edge_32 k (by omega) h4, .inr (.inr (.inr (.inl ⟨by omega, h4, rfl⟩)))⟩
              · have : k = 18 ∨ k = 19 ∨ k = 20 := by omega
                rcases this with rfl | rfl | rfl
                · exact ⟨64, by omega, by omega, edge_last.1, by omega⟩
                · exact ⟨96, by omega, by omega, edge_last.2.1, by omega⟩
                · exact ⟨160, by omega, by omega, edge_last.2.2, by omega⟩
      obtain ⟨d, d0, d1, hd, cls⟩ := cls
      have HD := Lib.hid hd
      clear hd
      generalize edgeN k = x at e0 e1 HD
      have hrow := Lib.hid H.out.1
      have hbel := Lib.hid (H.out.2.alloc hsz (.cells #[.int .i64 (x + d)] 3))
      have hsrc := Lib.hid (lit_ints wr 3 .i64 [x + d] #[.int .i64 (x + d)] (0, 0) rfl (by simp))
      have hown0 := Lib.hid (World.ownsRow.alloc H.out.1 (.cells #[.int .i64 (x + d)] 3))
      have hob := Lib.hid (own_base H.out.1)
      rcases cls with ⟨k0, rfl⟩ | ⟨k0, k1, rfl⟩ | ⟨k0, k1, rfl⟩ | ⟨k0, k1, rfl⟩ | ⟨k0, k1, rfl⟩ | ⟨k0, k1, rfl⟩ | ⟨k0, k1, rfl⟩
      all_goals
        go_wp2_with (at_builtin; go_loud (refine append_ints rfl _ _ 68 rfl w.heap.size 3 .i64 8 Tryz.underlying68 info_int04 _ (k + 1) (edgesL.take (k + 1)) rfl hown0.out (some ⟨wr.heap.size, 0, none⟩) 1 1 _ [_] rfl hsrc.out (by simp) ?c1 ?c2 ?c3 ?_))
        case c1 => unfold maxLen; omega
        case c2 => omega
        case c3 => first | omega | (simp; omega)
        intro v2 w2 hown hgrow _
        have H2 : RowKit.Hid (w2.ownsRow w.heap.size 3 1 v2 (k + 1 + 1) ((edgesL.take (k + 1 + 1)).map (Value.int .i64)) ∧ Below w.heap.size w w2) := by
          refine ⟨?_, hbel.out.grown hgrow (by simp; omega) hob.out⟩
          rw [HT.out, HD.out]; simpa [List.map_take] using hown
        clear hown hgrow
        go_wp2
        go_roundw
        case rel => exact ⟨k + 1, by omega, by go_num, by rw [HD.out], H2.out⟩
        case measure => simp [intOf] <;> omega
    · obtain rfl : k = 21 := by omega
      have HI := Lib.hid (own_ints H.out.1)
      have HB := Lib.hid H.out.2
      clear H
      go_wp2
      go_ret
      obtain ⟨a, c, rfl, hi⟩ := HI.out
      exact ⟨a, c, rfl, hi, HB.out⟩
end Go.Proofs.YtmgfkdmjgjlkjaaGreat

namespace Go.Proofs.YtmgfkdmjgjlkjaaGreat
open Go Go.RowKit
set_option linter.unusedVariables false
def bitsI (x : Int) : Nat := bitLen x.natAbs
theorem bitLen_zero : bitLen 0 = 0 := rfl
theorem bitLen_half {n : Nat} (h : n ≠ 0) : bitLen n = bitLen (n / 2) + 1 := by
  by_cases h1 : n / 2 = 0
  · obtain rfl : n = 1 := by omega
    decide
  · have := bitLen_shift n 1 (by simpa using h1)
    rw [this]; simp only [Nat.pow_one]; omega
theorem bitLen_le {n k : Nat} (h : n < 2 ^ k) : bitLen n ≤ k := by
  by_cases h0 : n = 0
  · subst h0; rw [bitLen_zero]; omega
  · have h1 := (bitLen_spec n).2 h0
    have h2 : 2 ^ (bitLen n - 1) < 2 ^ k := by omega
    have h3 := (Nat.pow_lt_pow_iff_right (by decide : 1 < 2)).1 h2
    omega
theorem bitsI_le {x : Int} (h0 : -2147483648 ≤ x) (h1 : x ≤ 2147483648) : bitsI x ≤ 32 := bitLen_le (by omega)
def maxTo (f : Nat → Int) (a : Nat) : Nat → Int
  | 0 => 0
  | n + 1 => max (maxTo f a n) (f (a + n))
theorem maxTo_succ (f : Nat → Int) (a n : Nat) : maxTo f a (n + 1) = max (maxTo f a n) (f (a + n)) := rfl
theorem maxTo_bd {f : Nat → Int} {a : Nat} {m : Int} (h : 0 ≤ m) : ∀ n, (∀ i, i < n → f (a + i) ≤ m) → 0 ≤ maxTo f a n ∧ maxTo f a n ≤ m := by
  intro n
  induction n with
  | zero => intro _; exact ⟨Int.le_refl _, h⟩
  | succ n ih =>
    intro hf
    have := ih fun i hi => hf i (by omega)
    have := hf n (by omega)
    rw [maxTo_succ]; omega
def edgeK (k : Nat) : Nat := (edgeN k).toNat
theorem edgeK_eq {k : Nat} (h : k < 22) : edgeN k = (edgeK k : Int) := by have := edge_bd k h; unfold edgeK; omega
theorem edgeK_lt : ∀ k : Nat, k < 21 → edgeK k < edgeK (k + 1) ∧ edgeK (k + 1) ≤ 512 := by decide
def bitF (x : Nat → Int) (i : Nat) : Int := bitsI (x i)
def ceilF (x : Nat → Int) (b : Nat) : Int := maxTo (bitF x) (edgeK b) (edgeK (b + 1) - edgeK b)
theorem bitF_bd {x : Nat → Int} (h : ∀ i, i < 512 → -2147483648 ≤ x i ∧ x i ≤ 2147483647) {i : Nat} (hi : i < 512) : 0 ≤ bitF x i ∧ bitF x i ≤ 32 := by
  have := bitsI_le (x := x i) (by have := h i hi; omega) (by have := h i hi; omega)
  unfold bitF; omega
def rightB (zs : List Int) : Bool := decide (zs.length = 21) && zs.all fun z => decide (0 ≤ z) && decide (z ≤ 26)
theorem rightB_true {zs : List Int} (h : rightB zs = true) : zs.length = 21 ∧ ∀ j, j < 21 → 0 ≤ zs.getD j 0 ∧ zs.getD j 0 ≤ 26 := by
  unfold rightB at h
  rw [Bool.and_eq_true, decide_eq_true_eq, List.all_eq_true] at h
  refine ⟨h.1, fun j hj => ?_⟩
  have hj' : j < zs.length := by omega
  have := h.2 (zs.getD j 0) (by simp [List.getD, hj'])
  simpa using this
theorem rightB_of {zs : List Int} (hl : zs.length = 21) (h : ∀ j, j < 21 → 0 ≤ zs.getD j 0 ∧ zs.getD j 0 ≤ 26) : rightB zs = true := by
  unfold rightB
  rw [Bool.and_eq_true, decide_eq_true_eq, List.all_eq_true]
  refine ⟨hl, fun z hz => ?_⟩
  obtain ⟨j, hj, rfl⟩ := List.getElem_of_mem hz
  have := h j (by omega)
  simpa [List.getD, hj] using this
theorem rightB_len {zs : List Int} (h : zs.length ≠ 21) : rightB zs = false := by unfold rightB; simp [h]
theorem rightB_at {zs : List Int} {j : Nat} (hj : j < zs.length) (h : zs.getD j 0 < 0 ∨ 26 < zs.getD j 0) : rightB zs = false := by
  cases hr : rightB zs with
  | false => rfl
  | true =>
    have h1 := rightB_true hr
    have := h1.2 j (by omega)
    omega
def preF (F : Nat → Int) (k i : Nat) : Int := if i < k then F i else 0
theorem preF_zero (F : Nat → Int) (i : Nat) : preF F 0 i = 0 := if_neg (by omega)
theorem preF_next (F : Nat → Int) (k i : Nat) : (if i = k then F k else preF F k i) = preF F (k + 1) i := by
  unfold preF
  by_cases h : i = k
  · subst h; rw [if_pos rfl, if_pos (by omega)]
  · rw [if_neg h]; split
    · rw [if_pos (by omega)]
    · rw [if_neg (by omega)]
theorem preF_end (F : Nat → Int) {k i : Nat} (h : i < k) : preF F k i = F i := if_pos h
def accF (x : Nat → Int) (k m i : Nat) : Int := if i < k then ceilF x i else if i = k then maxTo (bitF x) (edgeK k) m else 0
theorem accF_zero (x : Nat → Int) (k i : Nat) : accF x k 0 i = preF (ceilF x) k i := by
  unfold accF preF
  split
  · rfl
  · split <;> rfl
theorem accF_here (x : Nat → Int) (k m : Nat) : accF x k m k = maxTo (bitF x) (edgeK k) m := by unfold accF; rw [if_neg (by omega), if_pos rfl]
theorem accF_next (x : Nat → Int) (k m i : Nat) {y : Int} (h : y = maxTo (bitF x) (edgeK k) (m + 1)) : (if i = k then y else accF x k m i) = accF x k (m + 1) i := by
  subst h
  unfold accF
  by_cases h : i = k
  · subst h; rw [if_pos rfl, if_neg (by omega), if_pos rfl]
  · rw [if_neg h]; split
    · rfl
    · rfl
theorem accF_end (x : Nat → Int) {k n : Nat} (i : Nat) (h : n = edgeK (k + 1) - edgeK k) : accF x k n i = preF (ceilF x) (k + 1) i := by
  subst h
  unfold accF preF
  by_cases h : i = k
  · subst h; rw [if_neg (by omega), if_pos rfl, if_pos (by omega)]; rfl
  · split
    · rw [if_pos (by omega)]
    · rw [if_neg (by omega)]
end Go.Proofs.YtmgfkdmjgjlkjaaGreat
