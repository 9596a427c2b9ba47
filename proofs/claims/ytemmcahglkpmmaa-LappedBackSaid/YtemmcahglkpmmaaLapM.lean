/- Layer 8's statements, walked: lines, and back. -/
import Derived.Test.YtemmcahglkpmmaaLapL
namespace Go.Proofs.Ytemmcahglkpmmaa
open Go.RowKit
set_option linter.unusedVariables false

/-- More than 2000 numbers: only whether it lives. -/
theorem lapped_many_lines (a : Option Addr) (len cap : Nat) (b : Bool) (w : World) (hm : len ≤ 9223372036854775807) (h : 2000 < len) :
    Calls Try.prog 3 #[.slice a len cap, .bool b] w fun e w' => e = .returned (.bool true) ∧ Below w.heap.size w w' := by
  have hB := Lib.hid (Below.refl w.heap.size w)
  have hd : decide ((2000 : Int) < (len : Int)) = true := by simp; omega
  go_enter Try.func3, Try.ntmps3
  go_wp2_with (go_at_call 7; refine (lives08_any _).mono ?_; rintro e w1 ⟨rfl, hb⟩; replace hB := Lib.hid (chain hB.out hb); clear hb)
  go_ret
  exact ⟨rfl, hB.out⟩
theorem lapped_many_back (a : Option Addr) (len cap : Nat) (b : Bool) (w : World) (hm : len ≤ 9223372036854775807) (h : 2000 < len) :
    Calls Try.prog 4 #[.slice a len cap, .bool b] w fun e w' => e = .returned (.bool true) ∧ Below w.heap.size w w' := by
  have hB := Lib.hid (Below.refl w.heap.size w)
  have hd : decide ((2000 : Int) < (len : Int)) = true := by simp; omega
  go_enter Try.func4, Try.ntmps4
  go_wp2_with (go_at_call 7; refine (lives08_any _).mono ?_; rintro e w1 ⟨rfl, hb⟩; replace hB := Lib.hid (chain hB.out hb); clear hb)
  go_ret
  exact ⟨rfl, hB.out⟩
theorem lapped_many_again (a : Option Addr) (len cap : Nat) (b : Bool) (w : World) (hm : len ≤ 9223372036854775807) (h : 2000 < len) :
    Calls Try.prog 5 #[.slice a len cap, .bool b] w fun e w' => e = .returned (.bool true) ∧ Below w.heap.size w w' := by
  have hB := Lib.hid (Below.refl w.heap.size w)
  have hd : decide ((2000 : Int) < (len : Int)) = true := by simp; omega
  go_enter Try.func5, Try.ntmps5
  go_wp2_with (go_at_call 7; refine (lives08_any _).mono ?_; rintro e w1 ⟨rfl, hb⟩; replace hB := Lib.hid (chain hB.out hb); clear hb)
  go_ret
  exact ⟨rfl, hB.out⟩

theorem lappedLines_bd {n N : Nat} {F : Nat → Int} (hn : n = 128 ∨ n = 512) (hb : ∀ j, j < N → -1048576 ≤ F j ∧ F j ≤ 1048575) (hN : N = 2 * n) : ∀ j, j < n → -2147483648 ≤ fwdF n F j ∧ fwdF n F j ≤ 2147483647 := by
  intro j _
  have := satP_26_bd (turnF n (foldF n F) j)
  unfold fwdF
  omega
theorem unfoldF_abs {n B : Nat} {u : Nat → Int} (h2 : n % 2 = 0) (hb : ∀ j, j < n → (u j).natAbs ≤ B) {i : Nat} (hi : i < 2 * n) : (unfoldF n u i).natAbs ≤ B := by
  unfold unfoldF
  split
  · exact hb _ (by omega)
  · split
    · have := hb (n / 2 + (n - 1 - i)) (by omega); omega
    · split
      · have := hb (3 * (n / 2) - 1 - i) (by omega); omega
      · have := hb (i - 3 * (n / 2)) (by omega); omega
theorem lappedBack_bd {n N : Nat} {F : Nat → Int} (hn : n = 128 ∨ n = 512) (hb : ∀ j, j < n → -33554432 ≤ F j ∧ F j ≤ 33554431) (hN : N = 2 * n) : ∀ j, j < N → -2147483648 ≤ backF n F j ∧ backF n F j ≤ 2147483647 := by
  intro j hj
  have := unfoldF_abs (n := n) (u := turnF n F) (B := 1073741824) (by omega) (fun k _ => turnF_wide hn (u := F) (fun i hi => by have := hb i hi; omega) k) (i := j) (by omega)
  unfold backF
  omega
set_option maxHeartbeats 400000 in
set_option maxRecDepth 100000 in
theorem lappedLines_law (a : Option Addr) (len cap : Nat) (zs : List Int) (b : Bool) (w : World) (hz : IntsAt w w.heap.size .i32 a len zs) (hzw : ∀ j, -2147483648 ≤ zs.getD j 0 ∧ zs.getD j 0 ≤ 2147483647) (hl : len ≤ 2000) :
    Calls Try.prog 3 #[.slice a len cap, .bool b] w fun e w' => e = .returned (.bool true) ∧ Below w.heap.size w w' := by
  have hd : decide ((2000 : Int) < (len : Int)) = false := by simp; omega
  have HB := Lib.hid (Below.refl w.heap.size w)
  have HZ := Lib.hid hz
  obtain ⟨n, hn⟩ : ∃ n, n = if b then 512 else 128 := ⟨_, rfl⟩
  have Hn : RowKit.Hid (n = 128 ∨ n = 512) := by cases b with
    | true => exact .inr hn
    | false => exact .inl hn
  have HSz : RowKit.Hid (∀ w : World, Calls Try.prog 8 #[.bool b] w fun e w' => e = .returned (.int .i64 n) ∧ w = w') := fun w => size08_any b n w hn
  obtain ⟨N, hN⟩ : ∃ N, N = 2 * n := ⟨_, rfl⟩
  have HN := Lib.hid hN
  have n1 : 1 ≤ n := by have := Hn.out; omega
  have n2 : n ≤ 512 := by have := Hn.out; omega
  have N1 : 1 ≤ N := by omega
  have N2 : N ≤ 1024 := by omega
  have e1 : 2 * (n : Int) = (N : Int) := by omega
  clear hn hN hz
  obtain ⟨F, hF⟩ : ∃ F, F = fillV zs len 1048576 := ⟨_, rfl⟩
  have HFb : RowKit.Hid (∀ j, -1048576 ≤ F j ∧ F j ≤ 1048575) := by
    intro j
    have := fillV_bd zs len (M := 1048576) (by decide) j
    rw [hF]; omega
  have HFill : RowKit.Hid (∀ wx : World, IntsAt wx wx.heap.size .i32 a len zs → Calls Try.prog 11 #[.slice a len cap, .int .i64 N, .int .i64 21] wx (FillPost N F wx)) := by
    intro wx h
    rw [hF]
    exact fill08_any a len cap N 21 1048576 zs wx h hzw hl (by omega) (by decide)
  have HL : RowKit.Hid (∀ (wx : World) (g c : Nat) (a5 : Option Addr) (c5 : Nat), TrAt wx g c n → FnAt wx wx.heap.size .i32 a5 N F → Calls Try.prog 12 #[.pointer (some ⟨g, 0, none⟩), .slice a5 N c5] wx (RowsPost n (fwdF n F) wx)) :=
    fun wx g c a5 c5 h1 h2 => lapForward_any g c n N c5 a5 F wx h1 Hn.out HN.out h2 (fun j _ => HFb.out j)
  have HR : RowKit.Hid (∀ (wx : World) (q : Nat) (a2 : Option Addr) (c2 : Nat), IFun wx q 2 .i64 1025 cosN → FnAt wx wx.heap.size .i64 a2 N F → Calls Try.prog 14 #[.slice (some ⟨q, 0, none⟩) 1025 1025, .slice a2 N c2] wx (RowPost .i64 2 n (fwdF n F) wx)) :=
    fun wx q a2 c2 h1 h2 => refForward_any q n N c2 a2 F wx h1 Hn.out HN.out h2 (fun j _ => HFb.out j)
  have HP : RowKit.Hid (∀ j, j < n → -2147483648 ≤ fwdF n F j ∧ fwdF n F j ≤ 2147483647) := lappedLines_bd Hn.out (fun j _ => HFb.out j) HN.out
  clear hF hzw hl
  go_enter Try.func3, Try.ntmps3
  go_wp2_with (first | (go_at_call 7; go_loud (refine (lives08_any _).mono ?_); rintro e w1 ⟨rfl, hb⟩; replace HB := Lib.hid (chain HB.out hb); replace HZ := Lib.hid (IntsAt.now HZ.out hb (Nat.le_refl _)); clear hb) | (go_at_call 8; refine (HSz.out _).mono ?_; rintro e w' ⟨rfl, rfl⟩) | (go_at_call 10; ((with_reducible refine (circNew_any _).mono ?_)); rintro e w2 ⟨c, rfl, hc, hb⟩; have HC := Lib.hid hc; replace HB := Lib.hid (chain HB.out hb); replace HZ := Lib.hid (IntsAt.now HZ.out hb (Nat.le_refl _)); clear hc hb) | (go_at_call 9; go_loud (refine (lapNew_any n c _ Hn.out HC.out).mono ?_); rintro e w3 ⟨g, rfl, ht, hb⟩; have HT := Lib.hid ht; replace HB := Lib.hid (chain HB.out hb); replace HZ := Lib.hid (IntsAt.now HZ.out hb (Nat.le_refl _)); clear ht hb HC) | (go_at_call 11; go_loud (refine (HFill.out _ HZ.out).mono ?_); rintro e w4 ⟨v1, v2, rfl, o1, o2, hb⟩; obtain ⟨a1, c1, rfl, f1, m1⟩ := fill_fn o1 (by omega); obtain ⟨a2, c2, rfl, f2, m2⟩ := fill_fn o2 (by omega); have HI1 := Lib.hid (own_ints' o1); have HM1 := Lib.hid m1; have HF2 := Lib.hid f2; replace HT := Lib.hid (TrAt.below HT.out hb (Nat.le_refl _)); replace HB := Lib.hid (chain HB.out hb); clear HZ hb o1 o2 f1 f2 m1 m2; have hown0 := Lib.hid (World.ownsRow_lit (base := w4.heap.size) (e := 21) (size := 1) w4 #[] 0 (Nat.le_refl _) (by decide) rfl); have HB0 := Lib.hid (Below.alloc_new w4 (.cells #[] 21))) | (at_builtin; go_loud (refine append_ints rfl _ _ 22 rfl w4.heap.size 21 .i32 4 Try.underlying22 info_i32b _ 0 [] rfl hown0.out a1 N c1 w4.heap.size (tabF N F) rfl (HI1.out.below HB0.out) HM1.out (by unfold maxLen; omega) (by omega) (by simp) ?_); intro v5 w5 hown hgrow _; have hb : Below w4.heap.size w4 w5 := HB0.out.grown hgrow (by simp) (own_base hown0.out); have ho : w5.ownsRow w4.heap.size 21 1 v5 N ((tabF N F).map (Value.int .i32)) := (by simpa using hown); obtain ⟨a5, c5, rfl, f5, m5⟩ := fill_fn ho (by omega); have HF5 := Lib.hid f5; replace HF2 := Lib.hid (HF2.out.now hb); replace HT := Lib.hid (TrAt.below HT.out hb (Nat.le_refl _)); replace HB := Lib.hid (chain HB.out hb); clear hown hgrow hb ho f5 m5 hown0 HB0 HI1 HM1) | (go_at_call 12; go_loud (refine (HL.out _ g c a5 c5 HT.out HF5.out).mono ?_); rintro e w6 ⟨g6, rfl, i6, s6, hb⟩; have HG6 := Lib.hid (FnAt.of_ifun i6); replace HF5 := Lib.hid (HF5.out.now hb); replace HF2 := Lib.hid (HF2.out.now hb); replace HB := Lib.hid (chain HB.out hb); clear i6 s6 hb HT) | (go_at_call 15; go_loud (refine (ref04Quarter_any _).mono ?_); rintro e w7 ⟨rfl, i7, hb⟩; have HQ7 := Lib.hid i7; replace HG6 := Lib.hid (HG6.out.now hb); replace HF5 := Lib.hid (HF5.out.now hb); replace HF2 := Lib.hid (HF2.out.now hb); replace HB := Lib.hid (chain HB.out hb); clear i7 hb) | (go_at_call 14; go_loud (refine (HR.out _ _ a2 c2 HQ7.out HF2.out).mono ?_); rintro e w8 ⟨g8, rfl, i8, s8, hb⟩; have HG8 := Lib.hid (FnAt.of_ifun i8); replace HG6 := Lib.hid (HG6.out.now hb); replace HF5 := Lib.hid (HF5.out.now hb); replace HF2 := Lib.hid (HF2.out.now hb); replace HB := Lib.hid (chain HB.out hb); clear i8 s8 hb HQ7) | (go_at_call 13; have hq := HS1.out; go_loud (refine (same08_any a5 a2 N c5 c2 F F _ (FnAt.now HF5.out (Below.drewN' (Below.refl _ _) 0)) (FnAt.now HF2.out (Below.drewN' (Below.refl _ _) 0)) (fun j _ => rfl) (fun j _ => by have := HFb.out j; omega) (by omega)).mono ?_); rintro e w10 ⟨rfl, k10, rfl⟩) | (go_at_call 13; go_loud (refine (same08_any _ _ n _ _ (fwdF n F) (fwdF n F) _ HG6.out HG8.out (fun j _ => rfl) HP.out (by omega)).mono ?_); rintro e w9 ⟨rfl, k9, rfl⟩; have HS1 := Lib.hid True.intro; replace HF5 := Lib.hid (HF5.out.now (Below.drewN' (Below.refl _ _) k9)); replace HF2 := Lib.hid (HF2.out.now (Below.drewN' (Below.refl _ _) k9)); replace HB := Lib.hid (Below.drewN' HB.out k9)))
  go_ret
  exact ⟨rfl, by rw [← World.drewN_drewN]; exact Below.drewN' HB.out _⟩

set_option maxHeartbeats 400000 in
set_option maxRecDepth 100000 in
theorem lappedBack_law (a : Option Addr) (len cap : Nat) (zs : List Int) (b : Bool) (w : World) (hz : IntsAt w w.heap.size .i32 a len zs) (hzw : ∀ j, -2147483648 ≤ zs.getD j 0 ∧ zs.getD j 0 ≤ 2147483647) (hl : len ≤ 2000) :
    Calls Try.prog 4 #[.slice a len cap, .bool b] w fun e w' => e = .returned (.bool true) ∧ Below w.heap.size w w' := by
  have hd : decide ((2000 : Int) < (len : Int)) = false := by simp; omega
  have HB := Lib.hid (Below.refl w.heap.size w)
  have HZ := Lib.hid hz
  obtain ⟨n, hn⟩ : ∃ n, n = if b then 512 else 128 := ⟨_, rfl⟩
  have Hn : RowKit.Hid (n = 128 ∨ n = 512) := by cases b with
    | true => exact .inr hn
    | false => exact .inl hn
  have HSz : RowKit.Hid (∀ w : World, Calls Try.prog 8 #[.bool b] w fun e w' => e = .returned (.int .i64 n) ∧ w = w') := fun w => size08_any b n w hn
  obtain ⟨N, hN⟩ : ∃ N, N = 2 * n := ⟨_, rfl⟩
  have HN := Lib.hid hN
  have n1 : 1 ≤ n := by have := Hn.out; omega
  have n2 : n ≤ 512 := by have := Hn.out; omega
  have N1 : 1 ≤ N := by omega
  have N2 : N ≤ 1024 := by omega
  have e1 : 2 * (n : Int) = (N : Int) := by omega
  clear hn hN hz
  obtain ⟨F, hF⟩ : ∃ F, F = fillV zs len 33554432 := ⟨_, rfl⟩
  have HFb : RowKit.Hid (∀ j, -33554432 ≤ F j ∧ F j ≤ 33554431) := by
    intro j
    have := fillV_bd zs len (M := 33554432) (by decide) j
    rw [hF]; omega
  have HFill : RowKit.Hid (∀ wx : World, IntsAt wx wx.heap.size .i32 a len zs → Calls Try.prog 11 #[.slice a len cap, .int .i64 n, .int .i64 26] wx (FillPost n F wx)) := by
    intro wx h
    rw [hF]
    exact fill08_any a len cap n 26 33554432 zs wx h hzw hl (by omega) (by decide)
  have HL : RowKit.Hid (∀ (wx : World) (g c : Nat) (a5 : Option Addr) (c5 : Nat), TrAt wx g c n → FnAt wx wx.heap.size .i32 a5 n F → Calls Try.prog 16 #[.pointer (some ⟨g, 0, none⟩), .slice a5 n c5] wx (RowsPost N (backF n F) wx)) :=
    fun wx g c a5 c5 h1 h2 => lapBack_any g c n N c5 a5 F wx h1 Hn.out HN.out h2 (fun j _ => HFb.out j)
  have HR : RowKit.Hid (∀ (wx : World) (q : Nat) (a2 : Option Addr) (c2 : Nat), IFun wx q 2 .i64 1025 cosN → FnAt wx wx.heap.size .i64 a2 n F → Calls Try.prog 17 #[.slice (some ⟨q, 0, none⟩) 1025 1025, .slice a2 n c2] wx (RowPost .i64 2 N (backF n F) wx)) :=
    fun wx q a2 c2 h1 h2 => refBack_any q n N c2 a2 F wx h1 Hn.out HN.out h2 (fun j _ => HFb.out j)
  have HP : RowKit.Hid (∀ j, j < N → -2147483648 ≤ backF n F j ∧ backF n F j ≤ 2147483647) := lappedBack_bd Hn.out (fun j _ => HFb.out j) HN.out
  clear hF hzw hl
  go_enter Try.func4, Try.ntmps4
  go_wp2_with (first | (go_at_call 7; go_loud (refine (lives08_any _).mono ?_); rintro e w1 ⟨rfl, hb⟩; replace HB := Lib.hid (chain HB.out hb); replace HZ := Lib.hid (IntsAt.now HZ.out hb (Nat.le_refl _)); clear hb) | (go_at_call 8; refine (HSz.out _).mono ?_; rintro e w' ⟨rfl, rfl⟩) | (go_at_call 10; ((with_reducible refine (circNew_any _).mono ?_)); rintro e w2 ⟨c, rfl, hc, hb⟩; have HC := Lib.hid hc; replace HB := Lib.hid (chain HB.out hb); replace HZ := Lib.hid (IntsAt.now HZ.out hb (Nat.le_refl _)); clear hc hb) | (go_at_call 9; go_loud (refine (lapNew_any n c _ Hn.out HC.out).mono ?_); rintro e w3 ⟨g, rfl, ht, hb⟩; have HT := Lib.hid ht; replace HB := Lib.hid (chain HB.out hb); replace HZ := Lib.hid (IntsAt.now HZ.out hb (Nat.le_refl _)); clear ht hb HC) | (go_at_call 11; go_loud (refine (HFill.out _ HZ.out).mono ?_); rintro e w4 ⟨v1, v2, rfl, o1, o2, hb⟩; obtain ⟨a1, c1, rfl, f1, m1⟩ := fill_fn o1 (by omega); obtain ⟨a2, c2, rfl, f2, m2⟩ := fill_fn o2 (by omega); have HI1 := Lib.hid (own_ints' o1); have HM1 := Lib.hid m1; have HF2 := Lib.hid f2; replace HT := Lib.hid (TrAt.below HT.out hb (Nat.le_refl _)); replace HB := Lib.hid (chain HB.out hb); clear HZ hb o1 o2 f1 f2 m1 m2; have hown0 := Lib.hid (World.ownsRow_lit (base := w4.heap.size) (e := 21) (size := 1) w4 #[] 0 (Nat.le_refl _) (by decide) rfl); have HB0 := Lib.hid (Below.alloc_new w4 (.cells #[] 21))) | (at_builtin; go_loud (refine append_ints rfl _ _ 22 rfl w4.heap.size 21 .i32 4 Try.underlying22 info_i32b _ 0 [] rfl hown0.out a1 n c1 w4.heap.size (tabF n F) rfl (HI1.out.below HB0.out) HM1.out (by unfold maxLen; omega) (by omega) (by simp) ?_); intro v5 w5 hown hgrow _; have hb : Below w4.heap.size w4 w5 := HB0.out.grown hgrow (by simp) (own_base hown0.out); have ho : w5.ownsRow w4.heap.size 21 1 v5 n ((tabF n F).map (Value.int .i32)) := (by simpa using hown); obtain ⟨a5, c5, rfl, f5, m5⟩ := fill_fn ho (by omega); have HF5 := Lib.hid f5; replace HF2 := Lib.hid (HF2.out.now hb); replace HT := Lib.hid (TrAt.below HT.out hb (Nat.le_refl _)); replace HB := Lib.hid (chain HB.out hb); clear hown hgrow hb ho f5 m5 hown0 HB0 HI1 HM1) | (go_at_call 16; go_loud (refine (HL.out _ g c a5 c5 HT.out HF5.out).mono ?_); rintro e w6 ⟨g6, rfl, i6, s6, hb⟩; have HG6 := Lib.hid (FnAt.of_ifun i6); replace HF5 := Lib.hid (HF5.out.now hb); replace HF2 := Lib.hid (HF2.out.now hb); replace HB := Lib.hid (chain HB.out hb); clear i6 s6 hb HT) | (go_at_call 15; go_loud (refine (ref04Quarter_any _).mono ?_); rintro e w7 ⟨rfl, i7, hb⟩; have HQ7 := Lib.hid i7; replace HG6 := Lib.hid (HG6.out.now hb); replace HF5 := Lib.hid (HF5.out.now hb); replace HF2 := Lib.hid (HF2.out.now hb); replace HB := Lib.hid (chain HB.out hb); clear i7 hb) | (go_at_call 17; go_loud (refine (HR.out _ _ a2 c2 HQ7.out HF2.out).mono ?_); rintro e w8 ⟨g8, rfl, i8, s8, hb⟩; have HG8 := Lib.hid (FnAt.of_ifun i8); replace HG6 := Lib.hid (HG6.out.now hb); replace HF5 := Lib.hid (HF5.out.now hb); replace HF2 := Lib.hid (HF2.out.now hb); replace HB := Lib.hid (chain HB.out hb); clear i8 s8 hb HQ7) | (go_at_call 13; have hq := HS1.out; go_loud (refine (same08_any a5 a2 n c5 c2 F F _ (FnAt.now HF5.out (Below.drewN' (Below.refl _ _) 0)) (FnAt.now HF2.out (Below.drewN' (Below.refl _ _) 0)) (fun j _ => rfl) (fun j _ => by have := HFb.out j; omega) (by omega)).mono ?_); rintro e w10 ⟨rfl, k10, rfl⟩) | (go_at_call 13; go_loud (refine (same08_any _ _ N _ _ (backF n F) (backF n F) _ HG6.out HG8.out (fun j _ => rfl) HP.out (by omega)).mono ?_); rintro e w9 ⟨rfl, k9, rfl⟩; have HS1 := Lib.hid True.intro; replace HF5 := Lib.hid (HF5.out.now (Below.drewN' (Below.refl _ _) k9)); replace HF2 := Lib.hid (HF2.out.now (Below.drewN' (Below.refl _ _) k9)); replace HB := Lib.hid (Below.drewN' HB.out k9)))
  go_ret
  exact ⟨rfl, by rw [← World.drewN_drewN]; exact Below.drewN' HB.out _⟩

end Go.Proofs.Ytemmcahglkpmmaa
