/- Layer 9's statements, walked: what is refused. -/
import Derived.Test.YtgebnaeebdeoeaaOvlX
namespace Go.Proofs.Ytgebnaeebdeoeaa
open Go.RowKit
set_option linter.unusedVariables false

theorem make16 (K : Nat) (hK : K ≤ 1100) (w : World) : (Instr.makeSlice 22 (.int .i64 (K : Int)) (.int .i64 (K : Int))).run Try.prog w = .ok (.slice (some ⟨w.heap.size, 0, none⟩) K K) (w.alloc (.cells (madeCells #[.int .i16 0] K) 30)) :=
  make_zeros (P := Try.prog) Try.underlying22 info_i169 K (by omega) (by omega) w
theorem make32 (K : Nat) (hK : K ≤ 1100) (w : World) : (Instr.makeSlice 31 (.int .i64 (K : Int)) (.int .i64 (K : Int))).run Try.prog w = .ok (.slice (some ⟨w.heap.size, 0, none⟩) K K) (w.alloc (.cells (madeCells #[.int .i32 0] K) 21)) :=
  make_zeros (P := Try.prog) Try.underlying31 info_i32 K (by omega) (by omega) w
/-- One number amid noughts. -/
def oneX (x : Int) (i : Nat) : Int := if i = 256 then x else 0
set_option maxHeartbeats 400000 in
set_option maxRecDepth 100000 in
theorem overlapArgs_few (n x : Int) (b : Bool) (w : World) (hn : -9223372036854775808 ≤ n) (hn' : n ≤ 9223372036854775807) (hx0 : -2147483648 ≤ x) (hx1 : x ≤ 2147483647) (K : Nat) (hU : IntKind.u64.wrap n % 1100 = (K : Int)) (hK : K ≤ 1099) (hK5 : K ≠ 512) (hK0 : 0 < K) :
    Calls Try.prog 6 #[.int .i64 n, .int .i32 x, .bool b] w fun e w' => e = .returned (.bool true) ∧ Below w.heap.size w w' := by
  have HB := Lib.hid (Below.refl w.heap.size w)
  obtain ⟨U, hUU⟩ : ∃ U, IntKind.u64.wrap n = U := ⟨_, rfl⟩
  rw [hUU] at hU
  have u0 : 0 ≤ U ∧ U ≤ 18446744073709551615 := by rw [← hUU, IntKind.wrap_u64]; omega
  have hUt : U.tmod 1100 = (K : Int) := by rw [Int.tmod_eq_emod_of_nonneg u0.1]; exact hU
  obtain ⟨u0, u1⟩ := u0
  have hm16 : ∀ w : World, (Instr.makeSlice 22 (.int .i64 512) (.int .i64 512)).run Try.prog w = .ok (.slice (some ⟨w.heap.size, 0, none⟩) 512 512) (w.alloc (.cells (madeCells #[.int .i16 0] 512) 30)) := fun w => make16 512 (by decide) w
  have hm32 : ∀ w : World, (Instr.makeSlice 31 (.int .i64 512) (.int .i64 512)).run Try.prog w = .ok (.slice (some ⟨w.heap.size, 0, none⟩) 512 512) (w.alloc (.cells (madeCells #[.int .i32 0] 512) 21)) := fun w => make32 512 (by decide) w
  have hk16 : ∀ w : World, (Instr.makeSlice 22 (.int .i64 (K : Int)) (.int .i64 (K : Int))).run Try.prog w = .ok (.slice (some ⟨w.heap.size, 0, none⟩) K K) (w.alloc (.cells (madeCells #[.int .i16 0] K) 30)) := fun w => make16 K (by omega) w
  have hk32 : ∀ w : World, (Instr.makeSlice 31 (.int .i64 (K : Int)) (.int .i64 (K : Int))).run Try.prog w = .ok (.slice (some ⟨w.heap.size, 0, none⟩) K K) (w.alloc (.cells (madeCells #[.int .i32 0] K) 21)) := fun w => make32 K (by omega) w
  have HKz : RowKit.Hid (∀ w : World, IFun (w.alloc (.cells (madeCells #[.int .i32 0] K) 21)) w.heap.size 21 .i32 K (fun _ => 0)) := fun w => IFun.zeros w 21 .i32 K
  obtain ⟨M, hM⟩ : ∃ M, M = K / 2 := ⟨_, rfl⟩
  have m1 : (K : Int) / 2 = (M : Int) := by omega
  have m2 : (K : Int).tdiv 2 = (M : Int) := by rw [Int.tdiv_eq_ediv_of_nonneg (by omega)]; exact m1
  have m3 : M < K := by omega
  have m4 : (M : Int) < (K : Int) := by omega
  have hd5 : ((K : Int) == 512) = false := by simp; omega
  generalize madeCells #[Value.int .i16 0] K = c16 at hk16
  generalize madeCells #[Value.int .i32 0] K = c32 at hk32 HKz
  generalize madeCells #[Value.int .i16 0] 512 = d16 at hm16
  generalize madeCells #[Value.int .i32 0] 512 = d32 at hm32
  clear hM
  go_enter Try.func6, Try.ntmps6
  go_wp2_with (first | (go_at_call 7; go_loud (refine (lives09_any _).mono ?_); rintro e w1 ⟨rfl, hb⟩; replace HB := Lib.hid (chain HB.out hb); clear hb) | (go_at_call 9; go_loud (refine (newAnalyser_any _).mono ?_); rintro e w3 ⟨an, c, p, q, rfl, oa, sa, z1⟩; have HA := Lib.hid oa; have HAl : RowKit.Hid (w.heap.size ≤ an) := Nat.le_trans HB.out.size sa; replace HB := Lib.hid (chain HB.out z1); clear oa sa z1) | (go_at_call 13; go_loud (refine (newSynth_any _).mono ?_); rintro e w4 ⟨s, c2, p2, q2, rfl, os, ss, z2⟩; have HS := Lib.hid os; have HSl : RowKit.Hid (w.heap.size ≤ s) := Nat.le_trans HB.out.size ss; replace HA := Lib.hid (HA.out.below z2); replace HB := Lib.hid (chain HB.out z2); clear os ss z2; have cq1 : ((w4.alloc (.cells c16 30)).alloc (.cells c32 21)).cell? ⟨w4.heap.size + 1, M, none⟩ = some (.int .i32 0) := (by have := (HKz.out (w4.alloc (.cells c16 30))).cell m3; rw [alloc_size] at this; exact this); have fq1 : ((w4.alloc (.cells c16 30)).alloc (.cells c32 21)).frozen? ⟨w4.heap.size + 1, M, none⟩ = false := (by have := (HKz.out (w4.alloc (.cells c16 30))).frozen M; rw [alloc_size] at this; exact this)) | (go_at_call 11; have hq := HA.out; refine (anaLines_len an _ K K b _ (by omega) (by omega)).mono ?_; rintro e w' ⟨rfl, rfl⟩; clear hq HA) | (go_at_call 15; have hq := HS.out; refine (synSamples_len s _ K K b _ (by omega) (by omega)).mono ?_; rintro e w' ⟨rfl, rfl⟩; clear hq HS) | (go_at_call 11; refine (anaLines_nil _ _ _ _ _).mono ?_; rintro e w' ⟨rfl, rfl⟩) | (go_at_call 15; refine (synSamples_nil _ _ _ _ _).mono ?_; rintro e w' ⟨rfl, rfl⟩) | (go_at_call 14; refine (clone_nil _).mono ?_; rintro e w' ⟨rfl, rfl⟩))
  go_ret
  exact ⟨ret_bool (by simp), chain (chain (chain (chain HB.out (Below.alloc_new _ _)) (Below.alloc_new _ _)) (Below.alloc_new _ _)) (Below.alloc_new _ _)⟩
set_option maxHeartbeats 400000 in
set_option maxRecDepth 100000 in
theorem overlapArgs_none (n x : Int) (b : Bool) (w : World) (hn : -9223372036854775808 ≤ n) (hn' : n ≤ 9223372036854775807) (hx0 : -2147483648 ≤ x) (hx1 : x ≤ 2147483647) (hU : IntKind.u64.wrap n % 1100 = 0) :
    Calls Try.prog 6 #[.int .i64 n, .int .i32 x, .bool b] w fun e w' => e = .returned (.bool true) ∧ Below w.heap.size w w' := by
  have HB := Lib.hid (Below.refl w.heap.size w)
  obtain ⟨U, hUU⟩ : ∃ U, IntKind.u64.wrap n = U := ⟨_, rfl⟩
  rw [hUU] at hU
  have u0 : 0 ≤ U ∧ U ≤ 18446744073709551615 := by rw [← hUU, IntKind.wrap_u64]; omega
  have hUt : U.tmod 1100 = (0 : Int) := by rw [Int.tmod_eq_emod_of_nonneg u0.1]; exact hU
  obtain ⟨u0, u1⟩ := u0
  have hm16 : ∀ w : World, (Instr.makeSlice 22 (.int .i64 512) (.int .i64 512)).run Try.prog w = .ok (.slice (some ⟨w.heap.size, 0, none⟩) 512 512) (w.alloc (.cells (madeCells #[.int .i16 0] 512) 30)) := fun w => make16 512 (by decide) w
  have hm32 : ∀ w : World, (Instr.makeSlice 31 (.int .i64 512) (.int .i64 512)).run Try.prog w = .ok (.slice (some ⟨w.heap.size, 0, none⟩) 512 512) (w.alloc (.cells (madeCells #[.int .i32 0] 512) 21)) := fun w => make32 512 (by decide) w
  have hk16 : ∀ w : World, (Instr.makeSlice 22 (.int .i64 0) (.int .i64 0)).run Try.prog w = .ok (.slice (some ⟨w.heap.size, 0, none⟩) 0 0) (w.alloc (.cells (madeCells #[.int .i16 0] 0) 30)) := fun w => make16 0 (by decide) w
  have hk32 : ∀ w : World, (Instr.makeSlice 31 (.int .i64 0) (.int .i64 0)).run Try.prog w = .ok (.slice (some ⟨w.heap.size, 0, none⟩) 0 0) (w.alloc (.cells (madeCells #[.int .i32 0] 0) 21)) := fun w => make32 0 (by decide) w
  generalize madeCells #[Value.int .i16 0] 0 = c16 at hk16
  generalize madeCells #[Value.int .i32 0] 0 = c32 at hk32
  generalize madeCells #[Value.int .i16 0] 512 = d16 at hm16
  generalize madeCells #[Value.int .i32 0] 512 = d32 at hm32
  go_enter Try.func6, Try.ntmps6
  go_wp2_with (first | (go_at_call 7; go_loud (refine (lives09_any _).mono ?_); rintro e w1 ⟨rfl, hb⟩; replace HB := Lib.hid (chain HB.out hb); clear hb) | (go_at_call 9; go_loud (refine (newAnalyser_any _).mono ?_); rintro e w3 ⟨an, c, p, q, rfl, oa, sa, z1⟩; have HA := Lib.hid oa; have HAl : RowKit.Hid (w.heap.size ≤ an) := Nat.le_trans HB.out.size sa; replace HB := Lib.hid (chain HB.out z1); clear oa sa z1) | (go_at_call 13; go_loud (refine (newSynth_any _).mono ?_); rintro e w4 ⟨s, c2, p2, q2, rfl, os, ss, z2⟩; have HS := Lib.hid os; have HSl : RowKit.Hid (w.heap.size ≤ s) := Nat.le_trans HB.out.size ss; replace HA := Lib.hid (HA.out.below z2); replace HB := Lib.hid (chain HB.out z2); clear os ss z2) | (go_at_call 11; have hq := HA.out; refine (anaLines_len an _ 0 0 b _ (by omega) (by omega)).mono ?_; rintro e w' ⟨rfl, rfl⟩; clear hq HA) | (go_at_call 15; have hq := HS.out; refine (synSamples_len s _ 0 0 b _ (by omega) (by omega)).mono ?_; rintro e w' ⟨rfl, rfl⟩; clear hq HS) | (go_at_call 11; refine (anaLines_nil _ _ _ _ _).mono ?_; rintro e w' ⟨rfl, rfl⟩) | (go_at_call 15; refine (synSamples_nil _ _ _ _ _).mono ?_; rintro e w' ⟨rfl, rfl⟩) | (go_at_call 14; refine (clone_nil _).mono ?_; rintro e w' ⟨rfl, rfl⟩))
  go_ret
  exact ⟨ret_bool (by simp), chain (chain (chain (chain HB.out (Below.alloc_new _ _)) (Below.alloc_new _ _)) (Below.alloc_new _ _)) (Below.alloc_new _ _)⟩
set_option maxHeartbeats 400000 in
set_option maxRecDepth 100000 in
theorem overlapArgs_fits (n x : Int) (b : Bool) (w : World) (hn : -9223372036854775808 ≤ n) (hn' : n ≤ 9223372036854775807) (hx0 : -2147483648 ≤ x) (hx1 : x ≤ 2147483647) (hU : IntKind.u64.wrap n % 1100 = 512) (hx : -33554432 ≤ x) (hx' : x < 33554432) :
    Calls Try.prog 6 #[.int .i64 n, .int .i32 x, .bool b] w fun e w' => e = .returned (.bool true) ∧ Below w.heap.size w w' := by
  have HB := Lib.hid (Below.refl w.heap.size w)
  obtain ⟨U, hUU⟩ : ∃ U, IntKind.u64.wrap n = U := ⟨_, rfl⟩
  rw [hUU] at hU
  have u0 : 0 ≤ U ∧ U ≤ 18446744073709551615 := by rw [← hUU, IntKind.wrap_u64]; omega
  have hUt : U.tmod 1100 = (512 : Int) := by rw [Int.tmod_eq_emod_of_nonneg u0.1]; exact hU
  obtain ⟨u0, u1⟩ := u0
  have hm16 : ∀ w : World, (Instr.makeSlice 22 (.int .i64 512) (.int .i64 512)).run Try.prog w = .ok (.slice (some ⟨w.heap.size, 0, none⟩) 512 512) (w.alloc (.cells (madeCells #[.int .i16 0] 512) 30)) := fun w => make16 512 (by decide) w
  have hm32 : ∀ w : World, (Instr.makeSlice 31 (.int .i64 512) (.int .i64 512)).run Try.prog w = .ok (.slice (some ⟨w.heap.size, 0, none⟩) 512 512) (w.alloc (.cells (madeCells #[.int .i32 0] 512) 21)) := fun w => make32 512 (by decide) w
  have HZ16 : RowKit.Hid (∀ w : World, IFun (w.alloc (.cells (madeCells #[.int .i16 0] 512) 30)) w.heap.size 30 .i16 512 (fun _ => 0)) := fun w => IFun.zeros w 30 .i16 512
  have HZ32 : RowKit.Hid (∀ w : World, IFun (w.alloc (.cells (madeCells #[.int .i32 0] 512) 21)) w.heap.size 21 .i32 512 (fun _ => 0)) := fun w => IFun.zeros w 21 .i32 512
  generalize madeCells #[Value.int .i16 0] 512 = d16 at hm16 HZ16
  generalize madeCells #[Value.int .i32 0] 512 = d32 at hm32 HZ32
  go_enter Try.func6, Try.ntmps6
  go_wp2_with (first | (go_at_call 7; go_loud (refine (lives09_any _).mono ?_); rintro e w1 ⟨rfl, hb⟩; replace HB := Lib.hid (chain HB.out hb); clear hb) | (go_at_call 9; go_loud (refine (newAnalyser_any _).mono ?_); rintro e w3 ⟨an, c, p, q, rfl, oa, sa, z1⟩; have HA := Lib.hid oa; have HAl : RowKit.Hid (w.heap.size ≤ an) := Nat.le_trans HB.out.size sa; replace HB := Lib.hid (chain HB.out z1); clear oa sa z1) | (go_at_call 13; go_loud (refine (newSynth_any _).mono ?_); rintro e w4 ⟨s, c2, p2, q2, rfl, os, ss, z2⟩; have HS := Lib.hid os; have HSl : RowKit.Hid (w.heap.size ≤ s) := Nat.le_trans HB.out.size ss; replace HA := Lib.hid (HA.out.below z2); replace HB := Lib.hid (chain HB.out z2); clear os ss z2) | (go_at_call 11; have hq := HA.out; clear hq; go_loud (refine (anaLines_any an c p q w4.heap.size (fun _ => 0) (fun _ => 0) b _ (HA.out.below (Below.alloc_new w4 _)) (HZ16.out w4) (fun j _ => by omega) (fun j _ => by omega)).mono ?_); rintro e w5 ⟨g5, rfl, i5, s5, o5, k5⟩; have HS5 := Lib.hid ((HS.out.below (Below.alloc_new w4 (.cells d16 30))).keeps (HA.out.below (Below.alloc_new w4 (.cells d16 30))).1 (HS.out.1.ne HA.out.1 (by decide)) (by decide) (by decide) k5); replace HB := Lib.hid (below_keep1 (chain HB.out (Below.alloc_new w4 (.cells d16 30))) k5 HAl.out); have cq1 := (HZ32.out w5).cell (j := 256) (by decide); have fq1 := (HZ32.out w5).frozen 256; have HI6 : RowKit.Hid (IFun (w5.alloc (.cells (d32.setIfInBounds 256 (.int .i32 x)) 21)) w5.heap.size 21 .i32 512 (oneX x)) := (by have h4 := (HZ32.out w5).set (j := 256) (by decide) x; rw [World.setCell_alloc_at _ _ _ _ _ rfl] at h4; exact h4); have HS6 := Lib.hid (HS5.out.below (Below.alloc_new w5 (.cells (d32.setIfInBounds 256 (.int .i32 x)) 21))); have HB6 := Lib.hid (chain HB.out (Below.alloc_new w5 (.cells (d32.setIfInBounds 256 (.int .i32 x)) 21))); clear i5 s5 o5 k5 HS5 HA HS) | (go_at_call 15; have hq := HS6.out; clear hq; go_loud (refine (synSamples_any s c2 p2 q2 w5.heap.size (fun _ => 0) (oneX x) b _ HS6.out HI6.out (fun j _ => by unfold oneX; split <;> omega) (fun j _ => by simp)).mono ?_); rintro e w7 ⟨g7, rfl, i7, s7, o7, k7⟩; have HB7 := Lib.hid (below_keep1 HB6.out k7 HSl.out); clear i7 s7 o7 k7 HS6 HI6) | (go_at_call 11; refine (anaLines_nil _ _ _ _ _).mono ?_; rintro e w' ⟨rfl, rfl⟩) | (go_at_call 15; refine (synSamples_nil _ _ _ _ _).mono ?_; rintro e w' ⟨rfl, rfl⟩) | (go_at_call 14; refine (clone_nil _).mono ?_; rintro e w' ⟨rfl, rfl⟩))
  go_ret
  exact ⟨ret_bool (by simp <;> omega), chain (chain HB7.out (Below.alloc_new _ _)) (Below.alloc_new _ _)⟩
set_option maxHeartbeats 400000 in
set_option maxRecDepth 100000 in
theorem overlapArgs_low (n x : Int) (b : Bool) (w : World) (hn : -9223372036854775808 ≤ n) (hn' : n ≤ 9223372036854775807) (hx0 : -2147483648 ≤ x) (hx1 : x ≤ 2147483647) (hU : IntKind.u64.wrap n % 1100 = 512) (hx : x < -33554432) :
    Calls Try.prog 6 #[.int .i64 n, .int .i32 x, .bool b] w fun e w' => e = .returned (.bool true) ∧ Below w.heap.size w w' := by
  have HB := Lib.hid (Below.refl w.heap.size w)
  obtain ⟨U, hUU⟩ : ∃ U, IntKind.u64.wrap n = U := ⟨_, rfl⟩
  rw [hUU] at hU
  have u0 : 0 ≤ U ∧ U ≤ 18446744073709551615 := by rw [← hUU, IntKind.wrap_u64]; omega
  have hUt : U.tmod 1100 = (512 : Int) := by rw [Int.tmod_eq_emod_of_nonneg u0.1]; exact hU
  obtain ⟨u0, u1⟩ := u0
  have hm16 : ∀ w : World, (Instr.makeSlice 22 (.int .i64 512) (.int .i64 512)).run Try.prog w = .ok (.slice (some ⟨w.heap.size, 0, none⟩) 512 512) (w.alloc (.cells (madeCells #[.int .i16 0] 512) 30)) := fun w => make16 512 (by decide) w
  have hm32 : ∀ w : World, (Instr.makeSlice 31 (.int .i64 512) (.int .i64 512)).run Try.prog w = .ok (.slice (some ⟨w.heap.size, 0, none⟩) 512 512) (w.alloc (.cells (madeCells #[.int .i32 0] 512) 21)) := fun w => make32 512 (by decide) w
  have HZ16 : RowKit.Hid (∀ w : World, IFun (w.alloc (.cells (madeCells #[.int .i16 0] 512) 30)) w.heap.size 30 .i16 512 (fun _ => 0)) := fun w => IFun.zeros w 30 .i16 512
  have HZ32 : RowKit.Hid (∀ w : World, IFun (w.alloc (.cells (madeCells #[.int .i32 0] 512) 21)) w.heap.size 21 .i32 512 (fun _ => 0)) := fun w => IFun.zeros w 21 .i32 512
  generalize madeCells #[Value.int .i16 0] 512 = d16 at hm16 HZ16
  generalize madeCells #[Value.int .i32 0] 512 = d32 at hm32 HZ32
  have HX := Lib.hid (show oneX x 256 < -33554432 ∨ 33554431 < oneX x 256 by rw [show oneX x 256 = x from if_pos rfl]; omega)
  go_enter Try.func6, Try.ntmps6
  go_wp2_with (first | (go_at_call 7; go_loud (refine (lives09_any _).mono ?_); rintro e w1 ⟨rfl, hb⟩; replace HB := Lib.hid (chain HB.out hb); clear hb) | (go_at_call 9; go_loud (refine (newAnalyser_any _).mono ?_); rintro e w3 ⟨an, c, p, q, rfl, oa, sa, z1⟩; have HA := Lib.hid oa; have HAl : RowKit.Hid (w.heap.size ≤ an) := Nat.le_trans HB.out.size sa; replace HB := Lib.hid (chain HB.out z1); clear oa sa z1) | (go_at_call 13; go_loud (refine (newSynth_any _).mono ?_); rintro e w4 ⟨s, c2, p2, q2, rfl, os, ss, z2⟩; have HS := Lib.hid os; have HSl : RowKit.Hid (w.heap.size ≤ s) := Nat.le_trans HB.out.size ss; replace HA := Lib.hid (HA.out.below z2); replace HB := Lib.hid (chain HB.out z2); clear os ss z2) | (go_at_call 11; have hq := HA.out; clear hq; go_loud (refine (anaLines_any an c p q w4.heap.size (fun _ => 0) (fun _ => 0) b _ (HA.out.below (Below.alloc_new w4 _)) (HZ16.out w4) (fun j _ => by omega) (fun j _ => by omega)).mono ?_); rintro e w5 ⟨g5, rfl, i5, s5, o5, k5⟩; have HS5 := Lib.hid ((HS.out.below (Below.alloc_new w4 (.cells d16 30))).keeps (HA.out.below (Below.alloc_new w4 (.cells d16 30))).1 (HS.out.1.ne HA.out.1 (by decide)) (by decide) (by decide) k5); replace HB := Lib.hid (below_keep1 (chain HB.out (Below.alloc_new w4 (.cells d16 30))) k5 HAl.out); have cq1 := (HZ32.out w5).cell (j := 256) (by decide); have fq1 := (HZ32.out w5).frozen 256; have HI6 : RowKit.Hid (IFun (w5.alloc (.cells (d32.setIfInBounds 256 (.int .i32 x)) 21)) w5.heap.size 21 .i32 512 (oneX x)) := (by have h4 := (HZ32.out w5).set (j := 256) (by decide) x; rw [World.setCell_alloc_at _ _ _ _ _ rfl] at h4; exact h4); have HS6 := Lib.hid (HS5.out.below (Below.alloc_new w5 (.cells (d32.setIfInBounds 256 (.int .i32 x)) 21))); have HB6 := Lib.hid (chain HB.out (Below.alloc_new w5 (.cells (d32.setIfInBounds 256 (.int .i32 x)) 21))); clear i5 s5 o5 k5 HS5 HA HS) | (go_at_call 15; have hq := HS6.out; clear hq; go_loud (refine (synSamples_no s c2 p2 q2 w5.heap.size 512 (fun _ => 0) (oneX x) b _ HS6.out HI6.out (fun j _ => by unfold oneX; split <;> omega) HX.out).mono ?_); rintro e w7 ⟨rfl, z7⟩; have HB7 := Lib.hid (chain HB6.out z7); clear z7 HS6 HI6) | (go_at_call 11; refine (anaLines_nil _ _ _ _ _).mono ?_; rintro e w' ⟨rfl, rfl⟩) | (go_at_call 15; refine (synSamples_nil _ _ _ _ _).mono ?_; rintro e w' ⟨rfl, rfl⟩) | (go_at_call 14; refine (clone_nil _).mono ?_; rintro e w' ⟨rfl, rfl⟩))
  go_ret
  exact ⟨ret_bool (by simp <;> omega), chain (chain HB7.out (Below.alloc_new _ _)) (Below.alloc_new _ _)⟩
set_option maxHeartbeats 400000 in
set_option maxRecDepth 100000 in
theorem overlapArgs_high (n x : Int) (b : Bool) (w : World) (hn : -9223372036854775808 ≤ n) (hn' : n ≤ 9223372036854775807) (hx0 : -2147483648 ≤ x) (hx1 : x ≤ 2147483647) (hU : IntKind.u64.wrap n % 1100 = 512) (hx : 33554432 ≤ x) :
    Calls Try.prog 6 #[.int .i64 n, .int .i32 x, .bool b] w fun e w' => e = .returned (.bool true) ∧ Below w.heap.size w w' := by
  have HB := Lib.hid (Below.refl w.heap.size w)
  obtain ⟨U, hUU⟩ : ∃ U, IntKind.u64.wrap n = U := ⟨_, rfl⟩
  rw [hUU] at hU
  have u0 : 0 ≤ U ∧ U ≤ 18446744073709551615 := by rw [← hUU, IntKind.wrap_u64]; omega
  have hUt : U.tmod 1100 = (512 : Int) := by rw [Int.tmod_eq_emod_of_nonneg u0.1]; exact hU
  obtain ⟨u0, u1⟩ := u0
  have hm16 : ∀ w : World, (Instr.makeSlice 22 (.int .i64 512) (.int .i64 512)).run Try.prog w = .ok (.slice (some ⟨w.heap.size, 0, none⟩) 512 512) (w.alloc (.cells (madeCells #[.int .i16 0] 512) 30)) := fun w => make16 512 (by decide) w
  have hm32 : ∀ w : World, (Instr.makeSlice 31 (.int .i64 512) (.int .i64 512)).run Try.prog w = .ok (.slice (some ⟨w.heap.size, 0, none⟩) 512 512) (w.alloc (.cells (madeCells #[.int .i32 0] 512) 21)) := fun w => make32 512 (by decide) w
  have HZ16 : RowKit.Hid (∀ w : World, IFun (w.alloc (.cells (madeCells #[.int .i16 0] 512) 30)) w.heap.size 30 .i16 512 (fun _ => 0)) := fun w => IFun.zeros w 30 .i16 512
  have HZ32 : RowKit.Hid (∀ w : World, IFun (w.alloc (.cells (madeCells #[.int .i32 0] 512) 21)) w.heap.size 21 .i32 512 (fun _ => 0)) := fun w => IFun.zeros w 21 .i32 512
  generalize madeCells #[Value.int .i16 0] 512 = d16 at hm16 HZ16
  generalize madeCells #[Value.int .i32 0] 512 = d32 at hm32 HZ32
  have HX := Lib.hid (show oneX x 256 < -33554432 ∨ 33554431 < oneX x 256 by rw [show oneX x 256 = x from if_pos rfl]; omega)
  have hx2 : -33554432 ≤ x := by omega
  go_enter Try.func6, Try.ntmps6
  go_wp2_with (first | (go_at_call 7; go_loud (refine (lives09_any _).mono ?_); rintro e w1 ⟨rfl, hb⟩; replace HB := Lib.hid (chain HB.out hb); clear hb) | (go_at_call 9; go_loud (refine (newAnalyser_any _).mono ?_); rintro e w3 ⟨an, c, p, q, rfl, oa, sa, z1⟩; have HA := Lib.hid oa; have HAl : RowKit.Hid (w.heap.size ≤ an) := Nat.le_trans HB.out.size sa; replace HB := Lib.hid (chain HB.out z1); clear oa sa z1) | (go_at_call 13; go_loud (refine (newSynth_any _).mono ?_); rintro e w4 ⟨s, c2, p2, q2, rfl, os, ss, z2⟩; have HS := Lib.hid os; have HSl : RowKit.Hid (w.heap.size ≤ s) := Nat.le_trans HB.out.size ss; replace HA := Lib.hid (HA.out.below z2); replace HB := Lib.hid (chain HB.out z2); clear os ss z2) | (go_at_call 11; have hq := HA.out; clear hq; go_loud (refine (anaLines_any an c p q w4.heap.size (fun _ => 0) (fun _ => 0) b _ (HA.out.below (Below.alloc_new w4 _)) (HZ16.out w4) (fun j _ => by omega) (fun j _ => by omega)).mono ?_); rintro e w5 ⟨g5, rfl, i5, s5, o5, k5⟩; have HS5 := Lib.hid ((HS.out.below (Below.alloc_new w4 (.cells d16 30))).keeps (HA.out.below (Below.alloc_new w4 (.cells d16 30))).1 (HS.out.1.ne HA.out.1 (by decide)) (by decide) (by decide) k5); replace HB := Lib.hid (below_keep1 (chain HB.out (Below.alloc_new w4 (.cells d16 30))) k5 HAl.out); have cq1 := (HZ32.out w5).cell (j := 256) (by decide); have fq1 := (HZ32.out w5).frozen 256; have HI6 : RowKit.Hid (IFun (w5.alloc (.cells (d32.setIfInBounds 256 (.int .i32 x)) 21)) w5.heap.size 21 .i32 512 (oneX x)) := (by have h4 := (HZ32.out w5).set (j := 256) (by decide) x; rw [World.setCell_alloc_at _ _ _ _ _ rfl] at h4; exact h4); have HS6 := Lib.hid (HS5.out.below (Below.alloc_new w5 (.cells (d32.setIfInBounds 256 (.int .i32 x)) 21))); have HB6 := Lib.hid (chain HB.out (Below.alloc_new w5 (.cells (d32.setIfInBounds 256 (.int .i32 x)) 21))); clear i5 s5 o5 k5 HS5 HA HS) | (go_at_call 15; have hq := HS6.out; clear hq; go_loud (refine (synSamples_no s c2 p2 q2 w5.heap.size 512 (fun _ => 0) (oneX x) b _ HS6.out HI6.out (fun j _ => by unfold oneX; split <;> omega) HX.out).mono ?_); rintro e w7 ⟨rfl, z7⟩; have HB7 := Lib.hid (chain HB6.out z7); clear z7 HS6 HI6) | (go_at_call 11; refine (anaLines_nil _ _ _ _ _).mono ?_; rintro e w' ⟨rfl, rfl⟩) | (go_at_call 15; refine (synSamples_nil _ _ _ _ _).mono ?_; rintro e w' ⟨rfl, rfl⟩) | (go_at_call 14; refine (clone_nil _).mono ?_; rintro e w' ⟨rfl, rfl⟩))
  go_ret
  exact ⟨ret_bool (by simp <;> omega), chain (chain HB7.out (Below.alloc_new _ _)) (Below.alloc_new _ _)⟩
theorem overlapArgs_law (n x : Int) (b : Bool) (w : World) (hn : -9223372036854775808 ≤ n) (hn' : n ≤ 9223372036854775807) (hx0 : -2147483648 ≤ x) (hx1 : x ≤ 2147483647) :
    Calls Try.prog 6 #[.int .i64 n, .int .i32 x, .bool b] w fun e w' => e = .returned (.bool true) ∧ Below w.heap.size w w' := by
  obtain ⟨K, hK⟩ : ∃ K : Nat, IntKind.u64.wrap n % 1100 = (K : Int) := ⟨(IntKind.u64.wrap n % 1100).toNat, by omega⟩
  have hK1 : K ≤ 1099 := by omega
  by_cases h5 : K = 512
  · subst h5
    by_cases hx : -33554432 ≤ x ∧ x ≤ 33554431
    · exact overlapArgs_fits n x b w hn hn' hx0 hx1 hK hx.1 (by omega)
    · by_cases hy : x < -33554432
      · exact overlapArgs_low n x b w hn hn' hx0 hx1 hK hy
      · exact overlapArgs_high n x b w hn hn' hx0 hx1 hK (by omega)
  · by_cases h0 : K = 0
    · subst h0
      exact overlapArgs_none n x b w hn hn' hx0 hx1 hK
    · exact overlapArgs_few n x b w hn hn' hx0 hx1 K hK hK1 h5 (by omega)
end Go.Proofs.Ytgebnaeebdeoeaa
