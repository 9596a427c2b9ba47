/- What the document's answers for layer 4 give: the circle's table, a cosine, a place of a slope, the bands' edges. -/
import Derived.Test.YtgebnaeebdeoeaaRows
import Derived.Test.YtgebnaeebdeoeaaBandP
import Derived.Test.YtgebnaeebdeoeaaMemF
import Derived.IntWalk
import Derived.Deep.QuietTactic
import Derived.BigQuiet
namespace Go.Proofs.Ytgebnaeebdeoeaa
open Go.RowKit
set_option linter.unusedVariables false

theorem info_i64 : (Try.prog.info? 2).map (fun i => (i.zero, i.size, i.bytes)) = some (some (.int .i64 0), 1, 8) := by kernel_rfl

theorem ref04root_any (n : Int) (w : World) (hn : 0 ≤ n) (hn' : n ≤ 281474976710656) :
    Calls Try.prog 17 #[.int .i64 n] w fun e w' => e = .returned (.int .i64 (rootP n)) ∧ w = w' := by
  have H0 : RowKit.Hid (0 * 0 ≤ n ∧ n < 33554432 * 33554432) := ⟨by omega, by omega⟩
  go_enter Try.func17, Try.ntmps17
  go_wp2
  go_loop [3, 4] (fun l h => ∃ x y : Int, 0 ≤ x ∧ x < y ∧ y ≤ 33554432 ∧ l = .int .i64 x ∧ h = .int .i64 y ∧ RowKit.Hid (x * x ≤ n ∧ n < y * y)) (fun l h => (intOf h - intOf l).toNat)
  case atStart => exact ⟨0, 33554432, by omega, by omega, by omega, rfl, rfl, H0⟩
  case round =>
    obtain ⟨x, y, h0, h1, h2, rfl, rfl, H⟩ := hrel
    clear H0
    by_cases hlt : y - x > 1
    · have hm1 : x < (x + y) / 2 := by omega
      have hm2 : (x + y) / 2 < y := by omega
      obtain ⟨s0, s1⟩ : 0 ≤ (x + y) / 2 * ((x + y) / 2) ∧ (x + y) / 2 * ((x + y) / 2) ≤ 4611686018427387904 := by
        have a := sq_mono (a := (x + y) / 2) (b := 2147483648) (by omega) (by omega)
        have b := sq_mono (a := 0) (b := (x + y) / 2) (by decide) (by omega)
        omega
      go_wp2
      · have ht : (x + y) / 2 * ((x + y) / 2) ≤ n := by assumption
        go_round
        case rel => exact ⟨(x + y) / 2, y, by omega, by omega, by omega, rfl, rfl, ht, H.out.2⟩
        case measure => simp [intOf]; omega
      · have ht : n < (x + y) / 2 * ((x + y) / 2) := by assumption
        go_round
        case rel => exact ⟨x, (x + y) / 2, by omega, by omega, by omega, rfl, rfl, H.out.1, ht⟩
        case measure => simp [intOf]; omega
    · have E : RowKit.Hid (x = rootP n) := by
        have e : y = x + 1 := by omega
        subst e
        exact rootP_eq ⟨h0, by omega, H.out.1, H.out.2⟩
      go_wp2
      go_ret
      exact ⟨ret_int E.out, rfl⟩

/-! ### The table, step by step -/
theorem k_ten {k : Nat} (h : k < 10) : k = 0 ∨ k = 1 ∨ k = 2 ∨ k = 3 ∨ k = 4 ∨ k = 5 ∨ k = 6 ∨ k = 7 ∨ k = 8 ∨ k = 9 := by omega
theorem half_mod {k j : Nat} (h : k < 10) : j % 2 ^ k = 0 ↔ (j % 2 ^ (k + 1) = 0 ∨ j % 2 ^ (k + 1) = 2 ^ k) := by
  rcases k_ten h with rfl | rfl | rfl | rfl | rfl | rfl | rfl | rfl | rfl | rfl <;> simp <;> omega
theorem step_last {k a : Nat} (h : k < 10) (ha : a % 2 ^ (k + 1) = 0) (h1 : a ≤ 1024) (h2 : 1024 < a + 2 ^ (k + 1)) : a = 1024 := by
  rcases k_ten h with rfl | rfl | rfl | rfl | rfl | rfl | rfl | rfl | rfl | rfl <;> simp at * <;> omega
theorem step_next {k a : Nat} (ha : a % 2 ^ (k + 1) = 0) : (a + 2 ^ (k + 1)) % 2 ^ (k + 1) = 0 ∧ (a + 2 ^ k) % 2 ^ (k + 1) = 2 ^ k := by
  have hp : 2 ^ k < 2 ^ (k + 1) := Nat.pow_lt_pow_right (by decide) (by omega)
  constructor
  · rw [Nat.add_mod_right]; exact ha
  · rw [Nat.add_mod, ha, Nat.zero_add, Nat.mod_mod, Nat.mod_eq_of_lt hp]
/-- The places that are filled when steps of 2 to the k are done. -/
def lev (k : Nat) (j : Nat) : Int := if j % 2 ^ k = 0 then cosN j else 0
/-- .. and on the way to these, up to a. -/
def levA (k a : Nat) (j : Nat) : Int := if j % 2 ^ (k + 1) = 0 ∨ (j % 2 ^ (k + 1) = 2 ^ k ∧ j < a) then cosN j else 0
theorem levA_old {k a j : Nat} (h : j % 2 ^ (k + 1) = 0) : levA k a j = cosN j := if_pos (.inl h)
theorem levA_mid {k a : Nat} (h : 2 ^ k < a) : levA k a (2 ^ k) = cosN (2 ^ k) := by
  have hp : 2 ^ k < 2 ^ (k + 1) := Nat.pow_lt_pow_right (by decide) (by omega)
  exact if_pos (.inr ⟨Nat.mod_eq_of_lt hp, h⟩)
theorem levA_start {k : Nat} : ∀ j, (if j = 2 ^ k then cosN (2 ^ k) else lev (k + 1) j) = levA k (2 ^ (k + 1)) j := by
  intro j
  have hp : 2 ^ k < 2 ^ (k + 1) := Nat.pow_lt_pow_right (by decide) (by omega)
  by_cases e : j = 2 ^ k
  · subst e; rw [if_pos rfl, levA_mid hp]
  · rw [if_neg e]
    unfold lev levA
    by_cases h0 : j % 2 ^ (k + 1) = 0
    · rw [if_pos h0, if_pos (.inl h0)]
    · rw [if_neg h0, if_neg]
      rintro (h | ⟨h, hl⟩)
      · exact h0 h
      · rw [Nat.mod_eq_of_lt hl] at h; exact e h
theorem levA_next {k a : Nat} (ha : a % 2 ^ (k + 1) = 0) : ∀ j, (if j = a + 2 ^ k then cosN (a + 2 ^ k) else levA k a j) = levA k (a + 2 ^ (k + 1)) j := by
  intro j
  have hp : 2 ^ k < 2 ^ (k + 1) := Nat.pow_lt_pow_right (by decide) (by omega)
  obtain ⟨n1, n2⟩ := step_next ha
  by_cases e : j = a + 2 ^ k
  · subst e
    rw [if_pos rfl]
    exact (if_pos (.inr ⟨n2, by omega⟩)).symm
  · rw [if_neg e]
    unfold levA
    by_cases h0 : j % 2 ^ (k + 1) = 0
    · rw [if_pos (.inl h0), if_pos (.inl h0)]
    · by_cases h1 : j % 2 ^ (k + 1) = 2 ^ k
      · by_cases h2 : j < a
        · rw [if_pos (.inr ⟨h1, h2⟩), if_pos (.inr ⟨h1, by omega⟩)]
        · rw [if_neg (by rintro (h | ⟨_, h⟩) <;> omega), if_neg]
          rintro (h | ⟨_, h⟩)
          · exact h0 h
          · apply e
            have hja : (j - a) % 2 ^ (k + 1) = 2 ^ k := by
              have e1 : j = a + (j - a) := by omega
              rw [e1, Nat.add_mod, ha, Nat.zero_add, Nat.mod_mod] at h1
              exact h1
            rw [Nat.mod_eq_of_lt (by omega)] at hja
            omega
      · rw [if_neg (by rintro (h | ⟨h, _⟩) <;> contradiction), if_neg (by rintro (h | ⟨h, _⟩) <;> contradiction)]
theorem levA_end {k : Nat} (hk : k < 10) : ∀ j, j < 1025 → levA k 1024 j = lev k j := by
  intro j hj
  unfold lev levA
  have := half_mod (j := j) hk
  by_cases h0 : j % 2 ^ k = 0
  · rw [if_pos h0, if_pos]
    rcases this.1 h0 with h | h
    · exact .inl h
    · by_cases hj2 : j < 1024
      · exact .inr ⟨h, hj2⟩
      · obtain rfl : j = 1024 := by omega
        refine .inl ?_
        rcases k_ten hk with rfl | rfl | rfl | rfl | rfl | rfl | rfl | rfl | rfl | rfl <;> decide
  · rw [if_neg h0, if_neg]
    rintro (h | ⟨h, _⟩)
    · exact h0 (this.2 (.inl h))
    · exact h0 (this.2 (.inr h))

set_option maxRecDepth 100000 in
theorem ref04Quarter_any (w : World) :
    Calls Try.prog 8 #[] w fun e w' => e = .returned (.slice (some ⟨w.heap.size, 0, none⟩) 1025 1025) ∧ IFun w' w.heap.size 2 .i64 1025 cosN ∧ Below w.heap.size w w' := by
  have hmk : ∀ w : World, (Instr.makeSlice 25 (.int .i64 1025) (.int .i64 1025)).run Try.prog w = .ok (.slice (some ⟨w.heap.size, 0, none⟩) 1025 1025) (w.alloc (.cells (madeCells #[.int .i64 0] 1025) 2)) :=
    fun w => make_zeros (P := Try.prog) Try.underlying25 info_i64 1025 (by decide) (by decide) w
  have HI := Lib.hid (IFun.zeros w 2 .i64 1025)
  have hcell0 := HI.out.cell (j := 0) (by decide)
  have hfz0 := HI.out.frozen 0
  have H0 : RowKit.Hid (IFun ((w.alloc (.cells (madeCells #[.int .i64 0] 1025) 2)).setCell ⟨w.heap.size, 0, none⟩ (.int .i64 16777216)) w.heap.size 2 .i64 1025 (lev 10)) := by
    refine IFun.ext (HI.out.set (j := 0) (by decide) 16777216) fun j hj => ?_
    unfold lev
    by_cases h0 : j = 0
    · subst h0; rw [if_pos rfl, if_pos (by decide), cosN_first]
    · rw [if_neg h0]
      by_cases h1 : j = 1024
      · subst h1; rw [if_pos (by decide), cosN_last]
      · rw [if_neg]
        show ¬ j % 1024 = 0
        omega
  have HB := Lib.hid ((Below.alloc_new w (.cells (madeCells #[.int .i64 0] 1025) 2)).setCell (p := ⟨w.heap.size, 0, none⟩) (Nat.le_refl _) (.int .i64 16777216))
  go_enter Try.func8, Try.ntmps8
  go_wp2
  clear hmk hcell0 hfz0 HI
  go_loopw [2, 3, 4, 5] (fun h _ _ _ wr => ∃ k H : Nat, k ≤ 10 ∧ h = .int .i64 H ∧ 1 ≤ H ∧ H ≤ 1024 ∧ RowKit.Hid (H = 2 ^ k) ∧ RowKit.Hid (IFun wr w.heap.size 2 .i64 1025 (lev k) ∧ Below w.heap.size w wr))
    (fun h _ _ _ _ => (intOf h).toNat)
  case atStart => exact ⟨10, 1024, by omega, rfl, by omega, by omega, rfl, by have := H0.out; rw [World.setCell_alloc_at _ _ _ _ _ rfl] at this; exact this, by have := HB.out; rw [World.setCell_alloc_at _ _ _ _ _ rfl] at this; exact this⟩
  case round =>
    obtain ⟨k, H, hk, rfl, hH1, hH2, HH, HI⟩ := hrel
    clear H0 HB
    cases k with
    | zero =>
      obtain rfl : H = 1 := HH.out
      have Z : RowKit.Hid (IFun wr w.heap.size 2 .i64 1025 cosN) := by
        refine IFun.ext HI.out.1 fun j _ => ?_
        unfold lev
        rw [if_pos (by simp [Nat.mod_one])]
      have HB := Lib.hid HI.out.2
      clear HI
      go_wp2
      go_ret
      exact ⟨rfl, Z.out, HB.out⟩
    | succ k =>
      have hk9 : k < 10 := by omega
      obtain ⟨m, hm⟩ : ∃ m, m = 2 ^ k := ⟨_, rfl⟩
      have hHm : H = 2 * m := by rw [HH.out, hm, Nat.pow_succ]; omega
      have hm1 : 1 ≤ m := by omega
      have hm2 : 2 * m ≤ H := by omega
      have hm3 : H ≤ 2 * m := by omega
      have hq1 : (H : Int) / 2 = (m : Int) := by omega
      have hq2 : (H : Int).tdiv 2 = (m : Int) := by rw [Int.tdiv_eq_ediv_of_nonneg (by omega)]; exact hq1
      clear hHm
      have hcH := HI.out.1.cell (j := H) (by omega)
      have hcm := HI.out.1.cell (j := m) (by omega)
      have hfm := HI.out.1.frozen m
      have e1 : lev (k + 1) H = cosN H := by unfold lev; rw [if_pos (by rw [HH.out]; exact Nat.mod_self _)]
      rw [e1] at hcH
      clear e1
      obtain ⟨b0, b1⟩ := cosN_bd (i := H) (by omega)
      have HR : RowKit.Hid (rootP ((16777216 + cosN H) * 8388608) = cosN m) := by
        have := cos_root hk9
        rw [← HH.out, ← hm] at this
        exact (rootP_eq this).symm
      have d1 := (cosN_bd (i := m) (by omega)).2
      have HS : RowKit.Hid (IFun (wr.setCell ⟨w.heap.size, m, none⟩ (.int .i64 (rootP ((16777216 + cosN H) * 8388608)))) w.heap.size 2 .i64 1025 (levA k H)) := by
        show IFun _ _ _ _ _ _
        rw [HR.out]
        refine IFun.ext (HI.out.1.set (j := m) (by omega) (cosN m)) fun j _ => ?_
        rw [HH.out, ← levA_start, ← hm]
      have HB := Lib.hid (HI.out.2.setCell (p := ⟨w.heap.size, m, none⟩) (Nat.le_refl _) (.int .i64 (rootP ((16777216 + cosN H) * 8388608))))
      have HM := Lib.hid hm
      clear hm HI
      generalize lev (k + 1) m = old at hcm
      go_wp2_with (go_at_call 17; refine (ref04root_any _ _ (by omega) (by omega)).mono ?_; rintro e w' ⟨rfl, rfl⟩)
      have c1 : 1 ≤ cosN m := by have := cosN_falls (i := m) (by omega); have := cosN_bd (i := m + 1) (by omega); omega
      go_loopw [3, 4, 5] (fun a _ _ wr => ∃ A : Nat, a = .int .i64 A ∧ H ≤ A ∧ A ≤ 1024 ∧ RowKit.Hid (A % 2 ^ (k + 1) = 0) ∧ RowKit.Hid (IFun wr w.heap.size 2 .i64 1025 (levA k A) ∧ Below w.heap.size w wr))
        (fun a _ _ _ => (1024 - intOf a).toNat)
      case atStart => exact ⟨H, rfl, by omega, by omega, by show H % 2 ^ (k + 1) = 0; rw [HH.out]; exact Nat.mod_self _, HS.out, HB.out⟩
      case round =>
        obtain ⟨A, rfl, hA0, hA1, HA, HI⟩ := hrel
        clear HS HB HR hcH hcm hfm
        by_cases hlt : A + H ≤ 1024
        · have i1 := HI.out.1.cell (j := A) (by omega)
          have i2 := HI.out.1.cell (j := A + H) (by omega)
          have i3 := HI.out.1.cell (j := m) (by omega)
          have i4 := HI.out.1.cell (j := A + m) (by omega)
          have f4 := HI.out.1.frozen (A + m)
          have e1 : levA k A A = cosN A := levA_old HA.out
          have e2 : levA k A (A + H) = cosN (A + H) := levA_old (by rw [HH.out]; exact (step_next HA.out).1)
          have e3 : levA k A m = cosN m := by rw [HM.out]; exact levA_mid (by rw [← HM.out]; omega)
          rw [e1] at i1
          rw [e2] at i2
          rw [e3] at i3
          clear e1 e2 e3
          obtain ⟨x0, x1⟩ := cosN_bd (i := A) (by omega)
          obtain ⟨y0, y1⟩ := cosN_bd (i := A + H) (by omega)
          have HC := Lib.hid (cos_mid (k := k) (a := A) hk9 (by omega) HA.out (by omega))
          have HN : RowKit.Hid (∀ (i : Nat) (v : Int), v = cosN (A + m) → IFun ((wr.drewN i).setCell ⟨w.heap.size, A + m, none⟩ (.int .i64 v)) w.heap.size 2 .i64 1025 (levA k (A + H)) ∧ Below w.heap.size w ((wr.drewN i).setCell ⟨w.heap.size, A + m, none⟩ (.int .i64 v))) := by
            rintro i v rfl
            refine ⟨IFun.ext ((HI.out.1.drewN i).set (j := A + m) (by omega) (cosN (A + m))) fun j _ => ?_, (Below.drewN' HI.out.2 i).setCell (Nat.le_refl _) _⟩
            rw [HH.out, ← levA_next HA.out, ← HM.out]
          rw [← HM.out, ← HH.out] at HC
          generalize cosN A = x at i1 x0 x1 HC
          generalize cosN (A + H) = y at i2 y0 y1 HC
          generalize cosN m = z at i3 c1 d1 HC
          generalize levA k A (A + m) = old at i4
          go_wp2
          have g1 : IntKind.i64.wrap ((A : Int) + (H : Int)) = (A : Int) + (H : Int) := IntWalk.i64_in _ (by omega)
          have g2 : IntKind.i64.wrap (x + y) = x + y := IntWalk.i64_in _ (by omega)
          have g3 : IntKind.i64.wrap ((x + y) * 8388608) = (x + y) * 8388608 := IntWalk.i64_in _ (by omega)
          have g4 : ((A : Int) + (H : Int)).toNat = A + H := by omega
          have g5 : (A : Int) < 1025 := by omega
          have g6 : (A : Int) + (H : Int) < 1025 := by omega
          have g7 : 0 ≤ (A : Int) + (H : Int) := by omega
          go_quiet (fail)
          clear g1 g2 g3 g4 g5 g6 g7
          obtain ⟨n, hn⟩ : ∃ n, n = (x + y) * 8388608 := ⟨_, rfl⟩
          have n0 : 0 ≤ n := by omega
          have n1 : n ≤ 281474976710656 := by omega
          simp only [← hn] at HC ⊢
          clear hn
          go_wp2
          have t0 := Int.emod_nonneg n (b := z) (by omega)
          have t1 := Int.emod_lt_of_pos n (b := z) (by omega)
          have q0 : 0 ≤ n / z := Int.ediv_nonneg (by omega) (by omega)
          have q1 : n / z ≤ n := Int.ediv_le_self z (by omega)
          have g0 : n.tmod z = n % z := Int.tmod_eq_emod_of_nonneg (by omega)
          have g1 : IntKind.i64.wrap (2 * (n % z)) = 2 * (n % z) := IntWalk.i64_in _ (by omega)
          have g2 : IntKind.i64.wrap (n % z) = n % z := IntWalk.i64_in _ (by omega)
          have g3 : IntKind.i64.wrap (m : Int) = (m : Int) := IntWalk.i64_in _ (by omega)
          have g4 : (m : Int) < 1025 := by omega
          have g5 : ¬ z = 0 := by omega
          go_quiet (fail)
          clear g0 g1 g2 g3 g4 g5
          have e4 : ((A : Int) + (m : Int)).toNat = A + m := by omega
          go_wp2
          · have ht : z ≤ 2 * (n % z) := by assumption
            go_roundw
            case rel =>
              refine ⟨A + H, by go_num, by omega, by omega, by show _ % _ = _; rw [HH.out]; exact (step_next HA.out).1, HN.out _ _ ?_⟩
              rw [HC.out, if_pos ht]
            case measure => simp [intOf] <;> omega
          · have ht : 2 * (n % z) < z := by assumption
            go_roundw
            case rel =>
              refine ⟨A + H, by go_num, by omega, by omega, by show _ % _ = _; rw [HH.out]; exact (step_next HA.out).1, HN.out _ _ ?_⟩
              rw [HC.out, if_neg (by omega)]
            case measure => simp [intOf] <;> omega
        · have Z : RowKit.Hid (IFun wr w.heap.size 2 .i64 1025 (lev k) ∧ Below w.heap.size w wr) := by
            have e : A = 1024 := step_last hk9 HA.out hA1 (by rw [← HH.out]; omega)
            subst e
            exact ⟨IFun.ext HI.out.1 (levA_end hk9), HI.out.2⟩
          clear HI
          go_wp2
          go_roundw
          case rel => exact ⟨k, m, by omega, rfl, by omega, by omega, HM.out, Z.out⟩
          case measure => simp [intOf] <;> omega
end Go.Proofs.Ytgebnaeebdeoeaa
