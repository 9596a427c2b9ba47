/- What the document's answers for layer 2 give: the powers, all of them in a list, and the logarithm by that list. -/
import Derived.Test.YtngeafkkocnjlaaRows
import Derived.Test.YtngeafkkocnjlaaLogP
import Derived.Test.YtngeafkkocnjlaaMem
namespace Go.Proofs.Ytngeafkkocnjlaa
open Go.RowKit
set_option linter.unusedVariables false

theorem info_i64 : (Try.prog.info? 2).map (fun i => (i.zero, i.size, i.bytes)) = some (some (.int .i64 0), 1, 8) := by kernel_rfl

theorem info_u32 : (Try.prog.info? 22).map (fun i => (i.zero, i.size, i.bytes)) = some (some (.int .u32 0), 1, 4) := by kernel_rfl

theorem ref02root_any (n : Int) (w : World) (hn : 0 ≤ n) (hn' : n ≤ 4611686018427387903) :
    Calls Try.prog 19 #[.int .i64 n] w fun e w' => e = .returned (.int .i64 (rootP n)) ∧ w = w' := by
  have H0 : RowKit.Hid (0 * 0 ≤ n ∧ n < 2147483648 * 2147483648) := ⟨by omega, by omega⟩
  go_enter Try.func19, Try.ntmps19
  go_wp2
  go_loop [3, 4] (fun l h => ∃ x y : Int, 0 ≤ x ∧ x < y ∧ y ≤ 2147483648 ∧ l = .int .i64 x ∧ h = .int .i64 y ∧ RowKit.Hid (x * x ≤ n ∧ n < y * y)) (fun l h => (intOf h - intOf l).toNat)
  case atStart => exact ⟨0, 2147483648, by omega, by omega, by omega, rfl, rfl, H0⟩
  case round =>
    obtain ⟨x, y, h0, h1, h2, rfl, rfl, H⟩ := hrel
    clear H0
    by_cases hlt : y - x > 1
    · have hm1 : x < (x + y) / 2 := by omega
      have hm2 : (x + y) / 2 < y := by omega
      obtain ⟨s0, s1⟩ : 0 ≤ (x + y) / 2 * ((x + y) / 2) ∧ (x + y) / 2 * ((x + y) / 2) ≤ 4611686018427387904 := by
        have a := sq_mono (a := (x + y) / 2) (b := 2147483648) (by omega) (by omega)
        have b := sq_mono (a := 0) (b := (x + y) / 2) (by decide) (by omega)
        omega
      go_wp2
      · have ht : (x + y) / 2 * ((x + y) / 2) ≤ n := by assumption
        go_round
        case rel => exact ⟨(x + y) / 2, y, by omega, by omega, by omega, rfl, rfl, ht, H.out.2⟩
        case measure => simp [intOf]; omega
      · have ht : n < (x + y) / 2 * ((x + y) / 2) := by assumption
        go_round
        case rel => exact ⟨x, (x + y) / 2, by omega, by omega, by omega, rfl, rfl, H.out.1, ht⟩
        case measure => simp [intOf]; omega
    · have E : RowKit.Hid (x = rootP n) := by
        have e : y = x + 1 := by omega
        subst e
        exact rootP_eq ⟨h0, by omega, H.out.1, H.out.2⟩
      go_wp2
      go_ret
      exact ⟨ret_int E.out, rfl⟩

/-- The factors, from one on. -/
theorem facs_roots : ∀ k : Nat, k < 8 → IsRoot ((if k = 7 then 2147483648 else facs.getD (k + 1) 0) * 1073741824) (facs.getD k 0) := by
  unfold IsRoot
  decide

def facsFrom (k : Nat) : List Int := List.replicate k 0 ++ facs.drop k

theorem facsFrom_set : ∀ k : Nat, k < 8 → (facsFrom (k + 1)).set k (facs.getD k 0) = facsFrom k := by decide

theorem facsFrom_all : facsFrom 8 = List.replicate 8 0 ∧ facsFrom 0 = facs := by decide

theorem facsFrom_len : ∀ k : Nat, k ≤ 8 → (facsFrom k).length = 8 := by decide

theorem ref02Factors_any (w : World) :
    Calls Try.prog 16 #[] w fun e w' => e = .returned (.slice (some ⟨w.heap.size, 0, none⟩) 8 8) ∧ IRow w' w.heap.size 2 .i64 facs ∧ Below w.heap.size w w' := by
  have hmk : ∀ w : World, (Instr.makeSlice 39 (.int .i64 8) (.int .i64 8)).run Try.prog w = .ok (.slice (some ⟨w.heap.size, 0, none⟩) 8 8) (w.alloc (.cells (madeCells #[.int .i64 0] 8) 2)) :=
    fun w => make_zeros (P := Try.prog) Try.underlying39 info_i64 8 (by decide) (by decide) w
  have H0 : RowKit.Hid (IRow (w.alloc (.cells (madeCells #[.int .i64 0] 8) 2)) w.heap.size 2 .i64 (facsFrom 8)) := by
    rw [facsFrom_all.1]; exact IRow.zeros w _ _ 8
  go_enter Try.func16, Try.ntmps16
  go_wp2
  clear hmk
  go_loopw [2, 3] (fun f i wr => ∃ (k : Nat) (x : Int), k ≤ 8 ∧ i = .int .i64 ((k : Int) - 1) ∧ f = .int .i64 x ∧ RowKit.Hid (x = if k = 8 then 2147483648 else facs.getD k 0) ∧ IRow wr w.heap.size 2 .i64 (facsFrom k) ∧ Below w.heap.size w wr)
    (fun _ i _ => (intOf i + 1).toNat)
  case atStart => exact ⟨8, _, by omega, rfl, rfl, rfl, H0.out, Below.alloc_new w _⟩
  case round =>
    obtain ⟨k, x, hk, rfl, rfl, hx, hrow, hbel⟩ := hrel
    clear H0
    cases k with
    | zero =>
      have hend := Lib.hid hrow
      clear hrow
      have hbel' := Lib.hid hbel
      clear hbel
      go_wp2
      go_ret
      refine ⟨rfl, ?_, hbel'.out⟩
      have := hend.out
      rw [facsFrom_all.2] at this
      exact this
    | succ j =>
      have hr : RowKit.Hid (rootP (x * 1073741824) = facs.getD j 0) := by
        have h := facs_roots j (by omega)
        have e : x = if j = 7 then 2147483648 else facs.getD (j + 1) 0 := by
          have := hx.out
          rw [this]
          by_cases h7 : j = 7
          · subst h7; rfl
          · rw [if_neg (by omega), if_neg h7]
        rw [← e] at h
        exact (rootP_eq h).symm
      have hxb : 1 ≤ x ∧ x ≤ 2147483648 := by
        have := hx.out
        rw [this]
        split
        · omega
        · have := facs_bd (j + 1) (by omega); omega
      obtain ⟨hx1, hx2⟩ := hxb
      have hfb := facs_bd j (by omega)
      have hcell := hrow.cell (j := j) (by rw [facsFrom_len _ (by omega)]; omega)
      have hfz := hrow.frozen j
      have hrow' := Lib.hid hrow
      clear hrow
      have hbel' := Lib.hid hbel
      clear hbel hx
      generalize (facsFrom (j + 1)).getD j 0 = old at hcell
      go_wp2_with (go_at_call 19; refine (ref02root_any _ _ (by omega) (by omega)).mono ?_; rintro e w' ⟨rfl, rfl⟩)
      go_roundw
      case rel =>
        rw [hr.out]
        refine ⟨j, _, by omega, by go_num, rfl, ?_, ?_, hbel'.out.setCell (Nat.le_refl _) _⟩
        · show facs.getD j 0 = _
          rw [if_neg (by omega)]
        · have := hrow'.out.set j (facs.getD j 0)
          rw [facsFrom_set j (by omega)] at this
          exact this
      case measure => simp [intOf] <;> omega

theorem refExp_any (s : Int) (w : World) (hs : -9223372036854775808 ≤ s) (hs' : s ≤ 9223372036854775807) :
    Calls Try.prog 8 #[.int .i64 s] w fun e w' => e = .returned (.int .u32 (expP s)) ∧ Below w.heap.size w w' := by
  by_cases h0 : s < 0
  · rw [expP_neg h0]
    go_enter Try.func8, Try.ntmps8
    go_wp2
    go_ret
    exact ⟨rfl, Below.refl _ _⟩
  · by_cases h1 : 8191 < s
    · rw [expP_big h1]
      go_enter Try.func8, Try.ntmps8
      go_wp2
      go_ret
      exact ⟨rfl, Below.refl _ _⟩
    · obtain ⟨n, rfl⟩ : ∃ n : Nat, s = n := ⟨s.toNat, by omega⟩
      have hn : n ≤ 8191 := by omega
      have E := Lib.hid (expP_in (s := (n : Int)) (by omega) (by omega))
      clear h0 h1
      go_enter Try.func8, Try.ntmps8
      go_wp2_with (go_at_call 16; refine (ref02Factors_any _).mono ?_; rintro e w1 ⟨rfl, hrow, hbel⟩)
      have hrow' := Lib.hid hrow
      have hbel' := Lib.hid hbel
      clear hrow hbel
      go_loop [3, 5] (fun p i => ∃ k : Nat, k ≤ 8 ∧ i = .int .i64 k ∧ p = .int .i64 (pwK n k)) (fun _ i => (8 - intOf i).toNat)
      case atStart => exact ⟨0, by omega, rfl, rfl⟩
      case round =>
        obtain ⟨k, hk, rfl, rfl⟩ := hrel
        by_cases hlt : k < 8
        · obtain ⟨hp0, hp1⟩ := pwK_bd n k (by omega)
          obtain ⟨hq0, hq1⟩ := pwK_prod n k hlt
          obtain ⟨hf0, hf1⟩ := facs_bd k hlt
          have hcell := hrow'.out.cell (j := k) (by simpa [facs] using hlt)
          have F := Lib.hid (show facs.getD k 0 = facs.getD k 0 from rfl)
          obtain ⟨f, hf⟩ : ∃ f, f = facs.getD k 0 := ⟨_, rfl⟩
          rw [← hf] at hq0 hq1 hf0 hf1 hcell
          have G := Lib.hid hf
          clear hf F
          go_wp2
          · have ht : (((n : Int) / 2 ^ k).tmod 2 == 1) = true := by assumption
            go_round
            case rel => exact ⟨k + 1, by omega, by go_num, by rw [pwK_yes ht, G.out]⟩
            case measure => simp [intOf] <;> omega
          · have ht : (((n : Int) / 2 ^ k).tmod 2 == 1) = false := by assumption
            go_round
            case rel => exact ⟨k + 1, by omega, by go_num, by rw [pwK_no ht]⟩
            case measure => simp [intOf] <;> omega
        · have e8 : k = 8 := by omega
          subst e8
          obtain ⟨hb0, hb1⟩ := pw_bd n
          have D := Lib.hid (show pwK n 8 = pw n from rfl)
          obtain ⟨p8, hp8⟩ : ∃ p8, p8 = pwK n 8 := ⟨_, rfl⟩
          rw [← hp8]
          have P8 : RowKit.Hid (p8 = pw n) := hp8
          have hpb : 0 ≤ p8 ∧ p8 ≤ 2141676953 := by rw [hp8]; have := pwK_bd n 8 (by decide); omega
          obtain ⟨hpb0, hpb1⟩ := hpb
          clear hp8 hlt hk D
          go_wp2
          go_loop [3, 6] (fun p i => ∃ (j : Nat) (q : Int), (j : Int) + (n : Int) / 256 ≤ 31 ∧ (j = 0 ∨ (j : Int) + (n : Int) / 256 ≤ 30) ∧ i = .int .i64 j ∧ p = .int .i64 q ∧ 0 ≤ q ∧ q ≤ 2141676953 ∧ RowKit.Hid (q = p8 / P2 j)) (fun _ i => (40 - intOf i).toNat)
          case atStart => exact ⟨0, p8, by omega, .inl rfl, rfl, rfl, by omega, by omega, by show p8 = p8 / 1; omega⟩
          case round =>
            obtain ⟨j, q, hj, hj', rfl, rfl, hq0, hq1, Q⟩ := hrel
            by_cases hlt : (j : Int) < 30 - (n : Int) / 256
            · go_wp2
              go_round
              case rel => exact ⟨j + 1, _, by omega, .inr (by omega), by go_num, rfl, by omega, by omega, by show _ = _; rw [← halve_more, ← Q.out]⟩
              case measure => simp [intOf] <;> omega
            · have V : RowKit.Hid (((n : Int) / 256 ≤ 30 ∧ q = powS n) ∨ ((n : Int) / 256 = 31 ∧ q * 2 = powS n)) := by
                rcases hj' with rfl | hj'
                · by_cases h30 : (n : Int) / 256 = 30
                  · refine .inl ⟨by omega, ?_⟩
                    rw [Q.out, P8.out, powS_halves (j := 0) (by omega)]
                  · refine .inr ⟨by omega, ?_⟩
                    rw [Q.out, P8.out, powS_twice (by omega)]
                    show pw n / 1 * 2 = _
                    omega
                · refine .inl ⟨by omega, ?_⟩
                  rw [Q.out, P8.out, powS_halves (j := j) (by omega)]
              clear hj'
              go_wp2
              go_loop [3, 7] (fun p i => ∃ (j : Nat) (r : Int), 30 ≤ j ∧ j ≤ 31 ∧ i = .int .i64 j ∧ p = .int .i64 r ∧ 0 ≤ r ∧ r ≤ 4283353906 ∧ RowKit.Hid ((j = 30 ∧ r = q) ∨ (j = 31 ∧ (n : Int) / 256 = 31 ∧ r = q * 2))) (fun _ i => (40 - intOf i).toNat)
              case atStart => exact ⟨30, q, by omega, by omega, rfl, rfl, by omega, by omega, .inl ⟨rfl, rfl⟩⟩
              case round =>
                obtain ⟨j, r, hj0, hj1, rfl, rfl, hr0, hr1, R⟩ := hrel
                by_cases hl2 : (j : Int) < (n : Int) / 256
                · have hr2 : r ≤ 2141676953 := by rcases R.out with ⟨_, h⟩ | ⟨h, _⟩ <;> omega
                  have R' : RowKit.Hid (j + 1 = 31 ∧ (n : Int) / 256 = 31 ∧ r * 2 = q * 2) := by
                    rcases R.out with ⟨h, h'⟩ | ⟨h, _⟩
                    · exact ⟨by omega, by omega, by omega⟩
                    · omega
                  go_wp2
                  go_round
                  case rel => exact ⟨j + 1, _, by omega, by omega, by go_num, rfl, by omega, by omega, .inr R'.out⟩
                  case measure => simp [intOf] <;> omega
                · have Z : RowKit.Hid (r = expP (n : Int)) := by
                    rw [E.out, Int.toNat_natCast]
                    rcases R.out with ⟨h, h'⟩ | ⟨h, h', h''⟩
                    · rcases V.out with ⟨v, v'⟩ | ⟨v, v'⟩
                      · show r = _; omega
                      · omega
                    · rcases V.out with ⟨v, v'⟩ | ⟨v, v'⟩
                      · omega
                      · show r = _; omega
                  go_wp2
                  go_ret
                  exact ⟨ret_int Z.out, hbel'.out⟩
set_option maxRecDepth 100000 in
theorem refPowers_any (w : World) :
    Calls Try.prog 11 #[] w fun e w' => e = .returned (.slice (some ⟨w.heap.size, 0, none⟩) 8192 8192) ∧ IRow w' w.heap.size 22 .u32 (fillTo (fun j => expP j) 8192 8192) ∧ Below w.heap.size w w' := by
  have hmk : ∀ w : World, (Instr.makeSlice 27 (.int .i64 8192) (.int .i64 8192)).run Try.prog w = .ok (.slice (some ⟨w.heap.size, 0, none⟩) 8192 8192) (w.alloc (.cells (madeCells #[.int .u32 0] 8192) 22)) :=
    fun w => make_zeros (P := Try.prog) Try.underlying27 info_u32 8192 (by decide) (by decide) w
  have H0 : RowKit.Hid (IRow (w.alloc (.cells (madeCells #[.int .u32 0] 8192) 22)) w.heap.size 22 .u32 (fillTo (fun j => expP j) 8192 0)) := by
    rw [fillTo_zero]; exact IRow.zeros w _ _ 8192
  go_enter Try.func11, Try.ntmps11
  go_wp2
  clear hmk
  go_loopw [2] (fun i wr => ∃ k : Nat, k ≤ 8192 ∧ i = .int .i64 k ∧ RowKit.Hid (IRow wr w.heap.size 22 .u32 (fillTo (fun j => expP j) 8192 k) ∧ Below w.heap.size w wr))
    (fun i _ => (8192 - intOf i).toNat)
  case atStart => exact ⟨0, by omega, rfl, H0.out, Below.alloc_new w _⟩
  case round =>
    obtain ⟨k, hk, rfl, H⟩ := hrel
    clear H0
    by_cases hlt : k < 8192
    · have hsz := (H.out.1).lt
      go_wp2_with (go_at_call 8; refine (refExp_any _ _ (by omega) (by omega)).mono ?_; rintro e w' ⟨rfl, hb⟩; have hrow := IRow.below H.out.1 hb (IRow.lt H.out.1); have hcell := hrow.cell (j := k) (by rw [fillTo_len _ (by omega)]; exact hlt); have hfz := hrow.frozen k; have HR := Lib.hid (And.intro hrow (H.out.2.trans (hb.mono (Nat.le_of_lt (IRow.lt H.out.1))))); clear hrow hb; generalize (fillTo (fun j => expP j) 8192 k).getD k 0 = old at hcell)
      go_roundw
      case rel =>
        refine ⟨k + 1, by omega, by go_num, ?_, HR.out.2.setCell (Nat.le_refl _) _⟩
        rw [← fillTo_set _ hlt]
        exact HR.out.1.set k _
      case measure => simp [intOf] <;> omega
    · obtain rfl : k = 8192 := by omega
      go_wp2
      go_ret
      exact ⟨rfl, H.out.1, H.out.2⟩

set_option maxRecDepth 100000 in
theorem refLog_any (n : Int) (g : Nat) (w : World) (hn : 0 ≤ n) (hn' : n ≤ 4294967295) (hrow : IRow w g 22 .u32 (fillTo (fun j => expP j) 8192 8192)) :
    Calls Try.prog 10 #[.int .u32 n, .slice (some ⟨g, 0, none⟩) 8192 8192] w fun e w' => e = .returned (.int .i64 (logP n)) ∧ w = w' := by
  have H := Lib.hid hrow
  clear hrow
  go_enter Try.func10, Try.ntmps10
  go_wp2
  go_loop [5, 6] (fun b i => ∃ k : Nat, k ≤ 8192 ∧ i = .int .i64 k ∧ b = .int .i64 (logK n k)) (fun _ i => (8192 - intOf i).toNat)
  case atStart => exact ⟨0, by omega, rfl, rfl⟩
  case round =>
    obtain ⟨k, hk, rfl, rfl⟩ := hrel
    by_cases hlt : k < 8192
    · have hcell := H.out.cell (j := k) (by rw [fillTo_len _ (by omega)]; exact hlt)
      rw [fillTo_getD _ hlt (by omega)] at hcell
      obtain ⟨p, hp⟩ : ∃ p, p = expP k := ⟨_, rfl⟩
      have P : RowKit.Hid (logK n (k + 1) = if 0 < n ∧ p ≤ n then (k : Int) else logK n k) := by rw [hp]; rfl
      rw [← hp] at hcell
      clear hp
      go_wp2
      all_goals
        go_round
        case rel => exact ⟨k + 1, by omega, by go_num, by rw [P.out]; first | rw [if_pos (by omega)] | rw [if_neg (by omega)]⟩
        case measure => simp [intOf] <;> omega
    · have E : RowKit.Hid (logK n k = logP n) := by
        obtain rfl : k = 8192 := by omega
        exact (logP_k n).symm
      go_wp2
      go_ret
      exact ⟨ret_int E.out, rfl⟩
end Go.Proofs.Ytngeafkkocnjlaa
