/- What the functions of package mask give. -/
import Derived.Test.YtgjmpjfcnibgmaaMskP
import Derived.Test.YtgjmpjfcnibgmaaEngJ
namespace Go.Proofs.Ytgjmpjfcnibgmaa
open Go.RowKit
set_option linter.unusedVariables false

theorem mskFade_any (j b : Nat) (w : World) (hj : j < 21) (hb : b < 21) :
    Calls Try.prog 21 #[.int .i64 (j : Int), .int .i64 (b : Int)] w fun e w' => e = .returned (.int .i64 (fadeF j b)) ∧ w = w' := by
  by_cases h : j < b
  · have HE := Lib.hid (fadeF_below h)
    have l1 : (j : Int) < (b : Int) := by omega
    clear h
    go_enter Try.func21, Try.ntmps21
    go_wp2
    go_ret
    exact ⟨ret_int (by rw [HE.out]), rfl⟩
  · have HE := Lib.hid (fadeF_above h)
    have l1 : ¬ (j : Int) < (b : Int) := by omega
    clear h
    go_enter Try.func21, Try.ntmps21
    go_wp2
    go_ret
    exact ⟨ret_int (by rw [HE.out]), rfl⟩
theorem mskThr_any (a : Option Addr) (cap b : Nat) (zs : List Int) (w : World) (h : IntsAt w w.heap.size .i64 a 21 zs) (hr : rightB zs = true) (hb : b < 21) :
    Calls Try.prog 17 #[.slice a 21 cap, .int .i64 (b : Int)] w fun e w' => e = .returned (.int .i64 (thrTo (fun j => zs.getD j 0) b 21)) ∧ w = w' := by
  have H0 := Lib.hid h
  have HR := Lib.hid (rightB_true hr).2
  obtain ⟨T, hT⟩ : ∃ T, T = thrTo (fun j => zs.getD j 0) b := ⟨_, rfl⟩
  have HB : RowKit.Hid (∀ n, n ≤ 21 → 0 ≤ T n ∧ T n ≤ 26) := fun n hn => by rw [hT]; exact thrTo_bd hb n hn fun j hj => HR.out j (by omega)
  have HS : RowKit.Hid (∀ n, T (n + 1) = max (T n) (zs.getD n 0 - fadeF n b)) := fun n => by rw [hT]; rfl
  have HZ : RowKit.Hid (T 0 = 0) := by show _ = _; rw [hT]; rfl
  rw [← hT]
  clear h hr hT
  go_enter Try.func17, Try.ntmps17
  go_wp2
  go_loop [5, 10] (fun m i => ∃ k : Nat, k ≤ 21 ∧ i = .int .i64 (k : Int) ∧ m = .int .i64 (T k)) (fun _ i => 21 - (intOf i).toNat)
  case atStart => exact ⟨0, by omega, rfl, by rw [HZ.out]⟩
  case round =>
    obtain ⟨k, hk, rfl, rfl⟩ := hrel
    by_cases hlt : k < 21
    · obtain ⟨bb, off, rfl, _, _, hcell⟩ := H0.out.at_ hlt
      obtain ⟨x0, x1⟩ := HR.out k hlt
      obtain ⟨f0, f1⟩ := fadeF_bd hlt hb
      obtain ⟨t0, t1⟩ := HB.out k (by omega)
      have HN := Lib.hid (HS.out k)
      have HC := Lib.hid (mskFade_any k b w hlt hb)
      generalize zs.getD k 0 = x at hcell x0 x1 HN
      generalize fadeF k b = f at f0 f1 HN HC
      generalize T k = t at t0 t1 HN
      have l1 : (k : Int) < 21 := by omega
      go_wp2_with (go_at_call 21; refine HC.out.mono ?_; rintro e w' ⟨rfl, rfl⟩)
      all_goals
        go_round
        case rel => exact ⟨k + 1, by omega, by go_num, by rw [HN.out]; go_num⟩
        case measure => simp [intOf] <;> omega
    · obtain rfl : k = 21 := by omega
      go_wp2
      go_ret
      exact ⟨rfl, rfl⟩
end Go.Proofs.Ytgjmpjfcnibgmaa
