/- What each function of package arith, and each of the document's answers for it, gives for whatever arguments. -/
import Derived.Test.YtklpafaaafjpaaaRows
import Derived.Test.YtklpafaaafjpaaaAriP
import Derived.WalkKit
import Derived.WalkLawsBesides
import Derived.Handy
import Derived.Lib.Hide
namespace Go.Proofs.Ytklpafaaafjpaaa
open Go.RowKit
set_option linter.unusedVariables false

theorem ret_int {k : IntKind} {a b : Int} (h : a = b) : Ending.returned (.int k a) = .returned (.int k b) := by rw [h]
theorem ret_bool {a b : Bool} (h : a = b) : Ending.returned (.bool a) = .returned (.bool b) := by rw [h]

theorem wide64_any (n : Int) (w : World) : Calls Try.prog 15 #[.int .i64 n] w fun e w' => e = .returned (.int .i64 n) ∧ w = w' := by
  go_enter Try.func15, Try.ntmps15
  go_wp2
  go_ret
  exact ⟨rfl, rfl⟩
theorem wide32_any (n : Int) (w : World) (h : -2147483648 ≤ n) (h' : n ≤ 2147483647) : Calls Try.prog 16 #[.int .i32 n] w fun e w' => e = .returned (.int .i64 n) ∧ w = w' := by
  go_enter Try.func16, Try.ntmps16
  go_wp2
  go_ret
  exact ⟨rfl, rfl⟩
theorem wide16_any (n : Int) (w : World) (h : -32768 ≤ n) (h' : n ≤ 32767) : Calls Try.prog 17 #[.int .i16 n] w fun e w' => e = .returned (.int .i64 n) ∧ w = w' := by
  go_enter Try.func17, Try.ntmps17
  go_wp2
  go_ret
  exact ⟨rfl, rfl⟩

/-! ### arith.Round -/
theorem round_out (n b : Int) (w : World) (h : b < 0 ∨ 62 < b) :
    Calls Try.prog 11 #[.int .i64 n, .int .i64 b] w fun e w' => e = .returned (.int .i64 (rndP n b)) ∧ w = w' := by
  rw [rndP_out h]
  rcases h with h | h
  · go_enter Try.func11, Try.ntmps11
    go_wp2
    go_ret
    exact ⟨rfl, rfl⟩
  · have h' : 0 ≤ b := by omega
    go_enter Try.func11, Try.ntmps11
    go_wp2
    go_ret
    exact ⟨rfl, rfl⟩
theorem round_zero (n : Int) (w : World) :
    Calls Try.prog 11 #[.int .i64 n, .int .i64 0] w fun e w' => e = .returned (.int .i64 (rndP n 0)) ∧ w = w' := by
  rw [rndP_zero]
  go_enter Try.func11, Try.ntmps11
  go_wp2
  go_ret
  exact ⟨rfl, rfl⟩
theorem round_in (n b : Int) (w : World) (hn : -9223372036854775808 ≤ n) (hn' : n ≤ 9223372036854775807) (hb : 1 ≤ b) (hb' : b ≤ 62) :
    Calls Try.prog 11 #[.int .i64 n, .int .i64 b] w fun e w' => e = .returned (.int .i64 (rndP n b)) ∧ w = w' := by
  have hq := half_bits (k := b.toNat) hn hn'
  have hr := rndP_bd (b := b) hn hn'
  have he := rndP_bits (n := n) hb hb'
  rw [he] at hr ⊢
  have ha : RowKit.Hid (wrap64 (n / 2 ^ b.toNat + bits BinOp.and IntKind.i64 (n / 2 ^ (b.toNat - 1)) 1) = n / 2 ^ b.toNat + n / 2 ^ (b.toNat - 1) % 2) := by
    rw [i64_and1]; exact IntWalk.wrap64_in _ hr
  clear he hr
  go_enter Try.func11, Try.ntmps11
  go_wp2
  go_ret
  exact ⟨ret_int ha.out, rfl⟩
theorem round_any (n b : Int) (w : World) (hn : -9223372036854775808 ≤ n) (hn' : n ≤ 9223372036854775807) :
    Calls Try.prog 11 #[.int .i64 n, .int .i64 b] w fun e w' => e = .returned (.int .i64 (rndP n b)) ∧ w = w' := by
  by_cases h : b < 0 ∨ 62 < b
  · exact round_out n b w h
  · by_cases h0 : b = 0
    · subst h0; exact round_zero n w
    · exact round_in n b w hn hn' (by omega) (by omega)

/-! ### arith.Sat -/
theorem sat_any (n b : Int) (w : World) (hn : -9223372036854775808 ≤ n) (hn' : n ≤ 9223372036854775807) :
    Calls Try.prog 7 #[.int .i64 n, .int .i64 b] w fun e w' => e = .returned (.int .i64 (satP n b)) ∧ w = w' := by
  by_cases h : b < 1 ∨ 64 < b
  · rw [satP_out h]
    rcases h with h | h
    · go_enter Try.func7, Try.ntmps7
      go_wp2
      go_ret
      exact ⟨rfl, rfl⟩
    · have h' : 1 ≤ b := by omega
      go_enter Try.func7, Try.ntmps7
      go_wp2
      go_ret
      exact ⟨rfl, rfl⟩
  · have hb : 1 ≤ b := by omega
    have hb' : b ≤ 64 := by omega
    have hG := greatest_eq hb hb'
    have hp := P2_pos (b.toNat - 1)
    have hp' := P2_le63 (k := b.toNat - 1) (by omega)
    clear h
    rw [satP_in hb hb']
    go_enter Try.func7, Try.ntmps7
    go_wp2
    all_goals (go_ret; exact ⟨ret_int (by omega), rfl⟩)

/-! ### the document's answers -/
theorem least_any (b : Int) (w : World) (hb : 1 ≤ b) (hb' : b ≤ 64) :
    Calls Try.prog 19 #[.int .i64 b] w fun e w' => e = .returned (.int .i64 (-(P2 (b.toNat - 1)))) ∧ w = w' := by
  go_enter Try.func19, Try.ntmps19
  go_wp2
  go_loop [3, 4] (fun n i => ∃ k : Nat, (k : Int) + 1 ≤ b ∧ i = .int .i64 ((k : Int) + 1) ∧ n = .int .i64 (-(P2 k))) (fun _ i => b.toNat - (intOf i).toNat)
  case atStart => exact ⟨0, by omega, rfl, rfl⟩
  case round =>
    obtain ⟨k, hk, rfl, rfl⟩ := hrel
    by_cases hlt : (k : Int) + 1 < b
    · have hp := P2_pos k
      have hq := P2_le62 (k := k) (by omega)
      go_wp2
      go_round
      case rel => exact ⟨k + 1, by omega, by go_num, by rw [P2_succ]; go_num⟩
      case measure => simp [intOf]; omega
    · have e : b.toNat - 1 = k := by omega
      have E : RowKit.Hid (-(P2 k) = -(P2 (b.toNat - 1))) := by rw [e]; rfl
      clear e
      go_wp2
      go_ret
      exact ⟨ret_int E.out, rfl⟩
theorem refSat_any (n b : Int) (w : World) (hn : -9223372036854775808 ≤ n) (hn' : n ≤ 9223372036854775807) :
    Calls Try.prog 8 #[.int .i64 n, .int .i64 b] w fun e w' => e = .returned (.int .i64 (satP n b)) ∧ w = w' := by
  by_cases h : b < 1 ∨ 64 < b
  · rw [satP_out h]
    rcases h with h | h
    · go_enter Try.func8, Try.ntmps8
      go_wp2
      go_ret
      exact ⟨rfl, rfl⟩
    · have h' : 1 ≤ b := by omega
      go_enter Try.func8, Try.ntmps8
      go_wp2
      go_ret
      exact ⟨rfl, rfl⟩
  · have hb : 1 ≤ b := by omega
    have hb' : b ≤ 64 := by omega
    have hp := P2_pos (b.toNat - 1)
    have hp' := P2_le63 (k := b.toNat - 1) (by omega)
    clear h
    rw [satP_in hb hb']
    go_enter Try.func8, Try.ntmps8
    go_wp2_with (go_at_call 19; refine (least_any _ _ (by omega) (by omega)).mono ?_; rintro e w' ⟨rfl, rfl⟩)
    all_goals (go_ret; exact ⟨ret_int (by omega), rfl⟩)
theorem refRound_any (n b : Int) (w : World) (hn : -9223372036854775808 ≤ n) (hn' : n ≤ 9223372036854775807) :
    Calls Try.prog 12 #[.int .i64 n, .int .i64 b] w fun e w' => e = .returned (.int .i64 (rndP n b)) ∧ w = w' := by
  by_cases h : b < 0 ∨ 62 < b
  · rw [rndP_out h]
    rcases h with h | h
    · go_enter Try.func12, Try.ntmps12
      go_wp2
      go_ret
      exact ⟨rfl, rfl⟩
    · have h' : 0 ≤ b := by omega
      go_enter Try.func12, Try.ntmps12
      go_wp2
      go_ret
      exact ⟨rfl, rfl⟩
  · have hb : 0 ≤ b := by omega
    have hb' : b ≤ 62 := by omega
    clear h
    go_enter Try.func12, Try.ntmps12
    go_wp2
    go_loop [5, 6] (fun d i => ∃ k : Nat, (k : Int) ≤ b ∧ i = .int .i64 (k : Int) ∧ d = .int .i64 (P2 k)) (fun _ i => b.toNat - (intOf i).toNat)
    case atStart => exact ⟨0, by omega, rfl, rfl⟩
    case round =>
      obtain ⟨k, hk, rfl, rfl⟩ := hrel
      have hp := P2_pos k
      by_cases hlt : (k : Int) < b
      · have hq := P2_le61 (k := k) (by omega)
        go_wp2
        go_round
        case rel => exact ⟨k + 1, by omega, by go_num, by rw [P2_succ]⟩
        case measure => simp [intOf]; omega
      · have hq := P2_le62 (k := k) (by omega)
        obtain ⟨hr1, hr0⟩ := tmod_bd (n := n) hp
        by_cases h0 : k = 0
        · subst h0
          have e : P2 0 = 1 := rfl
          have et : n.tmod (P2 0) = 0 := by omega
          have eq : n.tdiv (P2 0) = n := by rw [e]; exact Int.tdiv_one n
          have E : RowKit.Hid (n = rndP n b) := by
            obtain rfl : b = 0 := by omega
            exact (rndP_zero n).symm
          go_wp2
          all_goals (go_ret; exact ⟨ret_int E.out, rfl⟩)
        · have h2 := P2_two (b := (k : Int)) (by omega)
          rw [Int.toNat_natCast] at h2
          obtain ⟨hq1, hq0⟩ := tdiv_bd2 (n := n) h2 hn hn'
          have E : RowKit.Hid _ := rnd_close (n := n) (b := b) (k := k) (by omega) (by omega) (by omega)
          go_wp2
          all_goals (go_ret; refine ⟨ret_int ?_, rfl⟩; rw [E.out]; repeat' split)
          all_goals omega

/-! ### products -/
theorem mul_any (a b c : Int) (w : World) (ha : -2147483648 ≤ a) (ha' : a ≤ 2147483647) (hb : -2147483648 ≤ b) (hb' : b ≤ 2147483647) :
    Calls Try.prog 13 #[.int .i32 a, .int .i32 b, .int .i64 c] w fun e w' => e = .returned (.int .i32 (mulP a b c)) ∧ w = w' := by
  obtain ⟨h1, h2⟩ := prod_bd ha ha' hb hb'
  have h3 := rndP_bd (n := a * b) (b := c) (by omega) (by omega)
  have h4 := satP_bd32 (rndP (a * b) c)
  go_enter Try.func13, Try.ntmps13
  go_wp2_with (first | (go_at_call 16; refine (wide32_any _ _ (by omega) (by omega)).mono ?_; rintro e w' ⟨rfl, rfl⟩) | (go_at_call 11; refine (round_any _ _ _ (by omega) (by omega)).mono ?_; rintro e w' ⟨rfl, rfl⟩) | (go_at_call 7; refine (sat_any _ _ _ (by omega) (by omega)).mono ?_; rintro e w' ⟨rfl, rfl⟩))
  go_ret
  exact ⟨rfl, rfl⟩
theorem refMul_any (a b c : Int) (w : World) (ha : -2147483648 ≤ a) (ha' : a ≤ 2147483647) (hb : -2147483648 ≤ b) (hb' : b ≤ 2147483647) :
    Calls Try.prog 14 #[.int .i32 a, .int .i32 b, .int .i64 c] w fun e w' => e = .returned (.int .i32 (mulP a b c)) ∧ w = w' := by
  obtain ⟨h1, h2⟩ := prod_bd ha ha' hb hb'
  have h3 := rndP_bd (n := a * b) (b := c) (by omega) (by omega)
  have h4 := satP_bd32 (rndP (a * b) c)
  go_enter Try.func14, Try.ntmps14
  go_wp2_with (first | (go_at_call 12; refine (refRound_any _ _ _ (by omega) (by omega)).mono ?_; rintro e w' ⟨rfl, rfl⟩) | (go_at_call 8; refine (refSat_any _ _ _ (by omega) (by omega)).mono ?_; rintro e w' ⟨rfl, rfl⟩))
  go_ret
  exact ⟨rfl, rfl⟩

/-! ### sums -/
theorem addHeld_any (a b : Int) (w : World) (ha : -9223372036854775808 ≤ a) (ha' : a ≤ 9223372036854775807) (hb : -9223372036854775808 ≤ b) (hb' : b ≤ 9223372036854775807) :
    Calls Try.prog 20 #[.int .i64 a, .int .i64 b] w fun e w' => e = .returned (.int .i64 (addH a b)) ∧ w = w' := by
  by_cases h0 : 0 < b
  · by_cases h1 : 9223372036854775807 - b < a
    all_goals
      go_enter Try.func20, Try.ntmps20
      go_wp2
      all_goals (go_ret; refine ⟨ret_int ?_, rfl⟩; unfold addH; repeat' split)
      all_goals omega
  · by_cases h1 : b < 0
    · by_cases h2 : a < -9223372036854775808 - b
      all_goals
        go_enter Try.func20, Try.ntmps20
        go_wp2
        all_goals (go_ret; refine ⟨ret_int ?_, rfl⟩; unfold addH; repeat' split)
        all_goals omega
    · go_enter Try.func20, Try.ntmps20
      go_wp2
      all_goals (go_ret; refine ⟨ret_int ?_, rfl⟩; unfold addH; repeat' split)
      all_goals omega

theorem add_any (b off len cap : Nat) (zs : List Int) (w : World) (hz : len ≤ zs.length) (hm : len ≤ 9223372036854775807)
    (hc : ∀ j, j < zs.length → w.cell? ⟨b, off + j, none⟩ = some (.int .i64 (zs.getD j 0))) (hw : ∀ j, j < zs.length → -9223372036854775808 ≤ zs.getD j 0 ∧ zs.getD j 0 ≤ 9223372036854775807) :
    Calls Try.prog 9 #[.slice (some ⟨b, off, none⟩) len cap] w fun e w' => e = .returned (.int .i64 (addP (zs.take len))) ∧ w = w' := by
  have HC := Lib.hid hc; clear hc
  have HW := Lib.hid hw; clear hw
  go_enter Try.func9, Try.ntmps9
  go_wp2
  go_loop [3, 8] (fun s i => ∃ k : Nat, k ≤ len ∧ i = .int .i64 (k : Int) ∧ s = .int .i64 (addP (zs.take k))) (fun _ i => len - (intOf i).toNat)
  case atStart => exact ⟨0, by omega, rfl, rfl⟩
  case round =>
    obtain ⟨k, hk, rfl, rfl⟩ := hrel
    by_cases hlt : k < len
    · have hcell := HC.out k (by omega)
      obtain ⟨hb1, hb2⟩ := HW.out k (by omega)
      obtain ⟨hs1, hs2⟩ := addP_bd (zs.take k)
      have E := Lib.hid (addP_take zs k (by omega))
      generalize zs.getD k 0 = x at hcell hb1 hb2 E
      go_wp2_with (go_at_call 20; refine (addHeld_any _ _ _ (by omega) (by omega) (by omega) (by omega)).mono ?_; rintro e w' ⟨rfl, rfl⟩)
      go_round
      case rel => exact ⟨k + 1, by omega, by go_num, by rw [E.out]⟩
      case measure => simp [intOf]; omega
    · have E : RowKit.Hid (addP (zs.take k) = addP (zs.take len)) := by
        have : k = len := by omega
        subst this; exact rfl
      go_wp2
      go_ret
      exact ⟨ret_int E.out, rfl⟩
theorem refAdd_any (b off len cap : Nat) (zs : List Int) (w : World) (hz : len ≤ zs.length) (hm : len ≤ 9223372036854775807)
    (hc : ∀ j, j < zs.length → w.cell? ⟨b, off + j, none⟩ = some (.int .i64 (zs.getD j 0))) (hw : ∀ j, j < zs.length → -9223372036854775808 ≤ zs.getD j 0 ∧ zs.getD j 0 ≤ 9223372036854775807) :
    Calls Try.prog 10 #[.slice (some ⟨b, off, none⟩) len cap] w fun e w' => e = .returned (.int .i64 (addP (zs.take len))) ∧ w = w' := by
  have HC := Lib.hid hc; clear hc
  have HW := Lib.hid hw; clear hw
  have hp : P2 63 ≤ 9223372036854775808 := by decide
  have hp' : 9223372036854775808 ≤ P2 63 := by decide
  go_enter Try.func10, Try.ntmps10
  go_wp2_with (go_at_call 19; refine (least_any _ _ (by omega) (by omega)).mono ?_; rintro e w' ⟨rfl, rfl⟩)
  go_loop [3, 5] (fun s i => ∃ k : Nat, k ≤ len ∧ i = .int .i64 (k : Int) ∧ s = .int .i64 (addP (zs.take k))) (fun _ i => len - (intOf i).toNat)
  case atStart => exact ⟨0, by omega, rfl, rfl⟩
  case round =>
    obtain ⟨k, hk, rfl, rfl⟩ := hrel
    by_cases hlt : k < len
    · have hcell := HC.out k (by omega)
      obtain ⟨hb1, hb2⟩ := HW.out k (by omega)
      obtain ⟨hs1, hs2⟩ := addP_bd (zs.take k)
      have E := Lib.hid (addP_take zs k (by omega))
      generalize zs.getD k 0 = x at hcell hb1 hb2 E
      generalize addP (zs.take k) = s at hs1 hs2 E
      have F : RowKit.Hid (addH s x = _) := rfl
      go_wp2
      all_goals
        go_round
        case rel => exact ⟨k + 1, by omega, by go_num, by rw [E.out]; unfold addH; repeat' split
                                                          all_goals go_num⟩
        case measure => simp [intOf]; omega
    · have E : RowKit.Hid (addP (zs.take k) = addP (zs.take len)) := by
        have : k = len := by omega
        subst this; exact rfl
      go_wp2
      go_ret
      exact ⟨ret_int E.out, rfl⟩
/-- A slice of length 0, a nil one too. -/
theorem add_empty (a : Option Addr) (cap : Nat) (w : World) : Calls Try.prog 9 #[.slice a 0 cap] w fun e w' => e = .returned (.int .i64 0) ∧ w = w' := by
  go_enter Try.func9, Try.ntmps9
  go_wp2
  go_rounds 1
  go_ret
  exact ⟨rfl, rfl⟩
theorem refAdd_empty (a : Option Addr) (cap : Nat) (w : World) : Calls Try.prog 10 #[.slice a 0 cap] w fun e w' => e = .returned (.int .i64 0) ∧ w = w' := by
  go_enter Try.func10, Try.ntmps10
  go_wp2_with (go_at_call 19; refine (least_any _ _ (by omega) (by omega)).mono ?_; rintro e w' ⟨rfl, rfl⟩)
  go_rounds 1
  go_ret
  exact ⟨rfl, rfl⟩

/-! ### roots -/
theorem root_any (n : Int) (w : World) (hn : 0 ≤ n) (hn' : n ≤ 18446744073709551615) :
    Calls Try.prog 18 #[.int .u64 n] w fun e w' => e = .returned (.int .u32 (rootP n)) ∧ w = w' := by
  have hstart := Lib.hid (rootUpTo_32 hn hn')
  go_enter Try.func18, Try.ntmps18
  go_wp2
  go_loop [3, 4] (fun r t => ∃ (k : Nat) (t0 r0 : Int), t = .int .u64 t0 ∧ r = .int .u64 r0 ∧ t0 = P2 k / 2 ∧ RootUpTo n r0 k) (fun _ t => (intOf t).toNat)
  case atStart => exact ⟨32, _, _, rfl, rfl, by decide, hstart.out⟩
  case round =>
    obtain ⟨k, t0, r0, rfl, rfl, ht, hR⟩ := hrel
    have H := Lib.hid hR
    clear hR
    cases k with
    | zero =>
      obtain rfl : t0 = 0 := ht
      obtain ⟨h1, h2⟩ := rootUpTo_bd H.out
      have E := Lib.hid (rootUpTo_end H.out)
      go_wp2
      go_ret
      exact ⟨ret_int E.out, rfl⟩
    | succ j =>
      obtain rfl : t0 = P2 j := by rw [ht, P2_half]
      clear ht
      obtain ⟨hor, h1, h2⟩ := rootUpTo_or H.out
      obtain ⟨h3, h4⟩ := sq_lt32 h1 h2
      have p := P2_pos j
      go_wp2
      · have ht : (r0 + P2 j) * (r0 + P2 j) ≤ n := by assumption
        go_round
        case rel => exact ⟨j, _, _, rfl, rfl, rfl, rootUpTo_high H.out ht⟩
        case measure => simp [intOf]; omega
      · have ht : n < (r0 + P2 j) * (r0 + P2 j) := by assumption
        go_round
        case rel => exact ⟨j, _, _, rfl, rfl, rfl, rootUpTo_low H.out ht⟩
        case measure => simp [intOf]; omega

/-- The chapter's examples. -/
theorem lives01_any (w : World) : Calls Try.prog 6 #[] w fun e w' => e = .returned (.bool true) ∧ w = w' := by
  have e1 : rndP (-3) 1 = -1 := by decide
  have e2 : rootP 8 = 2 := (rootP_eq ⟨by decide, by decide, by decide, by decide⟩).symm
  have e3 : satP 300 8 = 127 := by decide
  go_enter Try.func6, Try.ntmps6
  go_wp2_with (first | (go_at_call 11; refine (round_any _ _ _ (by omega) (by omega)).mono ?_; rintro e w' ⟨rfl, rfl⟩) | (go_at_call 18; refine (root_any _ _ (by omega) (by omega)).mono ?_; rintro e w' ⟨rfl, rfl⟩) | (go_at_call 17; refine (wide16_any _ _ (by omega) (by omega)).mono ?_; rintro e w' ⟨rfl, rfl⟩) | (go_at_call 7; refine (sat_any _ _ _ (by omega) (by omega)).mono ?_; rintro e w' ⟨rfl, rfl⟩))
  go_ret
  exact ⟨rfl, rfl⟩
end Go.Proofs.Ytklpafaaafjpaaa
