/- Layer 8's statements, walked: forward and back. -/
import Derived.Test.YtemmcahglkpmmaaLapM
namespace Go.Proofs.Ytemmcahglkpmmaa
open Go.RowKit
set_option linter.unusedVariables false

set_option maxHeartbeats 400000 in
set_option maxRecDepth 100000 in
theorem lappedAgain_law (a : Option Addr) (len cap : Nat) (zs : List Int) (b : Bool) (w : World) (hz : IntsAt w w.heap.size .i32 a len zs) (hzw : ∀ j, -2147483648 ≤ zs.getD j 0 ∧ zs.getD j 0 ≤ 2147483647) (hl : len ≤ 2000) :
    Calls Try.prog 5 #[.slice a len cap, .bool b] w fun e w' => e = .returned (.bool true) ∧ Below w.heap.size w w' := by
  have hd : decide ((2000 : Int) < (len : Int)) = false := by simp; omega
  have HB := Lib.hid (Below.refl w.heap.size w)
  have HZ := Lib.hid hz
  obtain ⟨n, hn⟩ : ∃ n, n = if b then 512 else 128 := ⟨_, rfl⟩
  have Hn : RowKit.Hid (n = 128 ∨ n = 512) := by cases b with
    | true => exact .inr hn
    | false => exact .inl hn
  have HSz : RowKit.Hid (∀ w : World, Calls Try.prog 8 #[.bool b] w fun e w' => e = .returned (.int .i64 n) ∧ w = w') := fun w => size08_any b n w hn
  obtain ⟨N, hN⟩ : ∃ N, N = 2 * n := ⟨_, rfl⟩
  have HN := Lib.hid hN
  have n1 : 1 ≤ n := by have := Hn.out; omega
  have n2 : n ≤ 512 := by have := Hn.out; omega
  have N1 : 1 ≤ N := by omega
  have N2 : N ≤ 1024 := by omega
  have e1 : 2 * (n : Int) = (N : Int) := by omega
  clear hn hN hz
  obtain ⟨F, hF⟩ : ∃ F, F = fillV zs len 524288 := ⟨_, rfl⟩
  have HFb : RowKit.Hid (∀ j, -524287 ≤ F j ∧ F j ≤ 524287) := by
    intro j
    have := fillV_bd zs len (M := 524288) (by decide) j
    rw [hF]; omega
  have HFill : RowKit.Hid (∀ wx : World, IntsAt wx wx.heap.size .i32 a len zs → Calls Try.prog 11 #[.slice a len cap, .int .i64 N, .int .i64 20] wx (FillPost N F wx)) := by
    intro wx h
    rw [hF]
    exact fill08_any a len cap N 20 524288 zs wx h hzw hl (by omega) (by decide)
  have HL : RowKit.Hid (∀ (wx : World) (g c : Nat) (a5 : Option Addr) (c5 : Nat), TrAt wx g c n → FnAt wx wx.heap.size .i32 a5 N F → Calls Try.prog 12 #[.pointer (some ⟨g, 0, none⟩), .slice a5 N c5] wx (RowsPost n (fwdF n F) wx)) :=
    fun wx g c a5 c5 h1 h2 => lapForward_any g c n N c5 a5 F wx h1 Hn.out HN.out h2 (fun j _ => by have := HFb.out j; omega)
  have HK : RowKit.Hid (∀ (wx : World) (g c : Nat) (a5 : Option Addr) (c5 : Nat), TrAt wx g c n → FnAt wx wx.heap.size .i32 a5 n (fwdF n F) → Calls Try.prog 16 #[.pointer (some ⟨g, 0, none⟩), .slice a5 n c5] wx (RowsPost N (backF n (fwdF n F)) wx)) :=
    fun wx g c a5 c5 h1 h2 => lapBack_any g c n N c5 a5 (fwdF n F) wx h1 Hn.out HN.out h2 (fun j _ => satP_26_bd _)
  have HFo : RowKit.Hid (∀ (wx : World) (a2 : Option Addr) (c2 : Nat), FnAt wx wx.heap.size .i64 a2 N F → Calls Try.prog 19 #[.slice a2 N c2] wx (RowPost .i64 2 n (foldF n F) wx)) :=
    fun wx a2 c2 h => refFold_any (n / 2) n N c2 a2 F wx (by have := Hn.out; omega) (by omega) (by have := Hn.out; omega) (by have := HN.out; have := Hn.out; omega) h (fun j _ => by have := HFb.out j; omega)
  have HFa : RowKit.Hid (∀ j, j < n → (foldF n F j).natAbs ≤ 1048574) := fun j hj => foldF_abs (B := 524287) (by have := Hn.out; omega) (fun i hi => by have := HFb.out i; omega) hj
  have HUn : RowKit.Hid (∀ (wx : World) (a2 : Option Addr) (c2 : Nat), FnAt wx wx.heap.size .i64 a2 n (foldF n F) → Calls Try.prog 18 #[.slice a2 n c2] wx (RowPost .i64 2 N (unfoldF n (foldF n F)) wx)) :=
    fun wx a2 c2 h => refUnfold_any (n / 2) n N c2 a2 (foldF n F) wx (by have := Hn.out; omega) (by omega) (by have := Hn.out; omega) (by have := HN.out; have := Hn.out; omega) h (fun j hj => by have := HFa.out j hj; omega)
  have HW : RowKit.Hid (∀ i, i < N → -1048574 ≤ unfoldF n (foldF n F) i ∧ unfoldF n (foldF n F) i ≤ 1048574) := fun i hi => by
    have := unfoldF_abs (n := n) (u := foldF n F) (B := 1048574) (by have := Hn.out; omega) HFa.out (i := i) (by have := HN.out; omega)
    omega
  have HD : RowKit.Hid (∀ i, i < N → (backF n (fwdF n F) i - unfoldF n (foldF n F) i).natAbs ≤ 4096) := fun i hi =>
    lapped_again Hn.out (x := F) (fun j _ => by have := HFb.out j; omega) (by have := HN.out; omega)
  generalize backF n (fwdF n F) = X at HK HD
  generalize unfoldF n (foldF n F) = W at HUn HW HD
  clear hF hzw hl HFa
  go_enter Try.func5, Try.ntmps5
  go_wp2_with (first | (go_at_call 7; go_loud (refine (lives08_any _).mono ?_); rintro e w1 ⟨rfl, hb⟩; replace HB := Lib.hid (chain HB.out hb); replace HZ := Lib.hid (IntsAt.now HZ.out hb (Nat.le_refl _)); clear hb) | (go_at_call 8; refine (HSz.out _).mono ?_; rintro e w' ⟨rfl, rfl⟩) | (go_at_call 10; ((with_reducible refine (circNew_any _).mono ?_)); rintro e w2 ⟨c, rfl, hc, hb⟩; have HC := Lib.hid hc; replace HB := Lib.hid (chain HB.out hb); replace HZ := Lib.hid (IntsAt.now HZ.out hb (Nat.le_refl _)); clear hc hb) | (go_at_call 9; go_loud (refine (lapNew_any n c _ Hn.out HC.out).mono ?_); rintro e w3 ⟨g, rfl, ht, hb⟩; have HT := Lib.hid ht; replace HB := Lib.hid (chain HB.out hb); replace HZ := Lib.hid (IntsAt.now HZ.out hb (Nat.le_refl _)); clear ht hb HC) | (go_at_call 11; go_loud (refine (HFill.out _ HZ.out).mono ?_); rintro e w4 ⟨v1, v2, rfl, o1, o2, hb⟩; obtain ⟨a1, c1, rfl, f1, m1⟩ := fill_fn o1 (by omega); obtain ⟨a2, c2, rfl, f2, m2⟩ := fill_fn o2 (by omega); have HF1 := Lib.hid f1; have HF2 := Lib.hid f2; replace HT := Lib.hid (TrAt.below HT.out hb (Nat.le_refl _)); replace HB := Lib.hid (chain HB.out hb); clear HZ hb o1 o2 f1 f2 m1 m2) | (go_at_call 12; go_loud (refine (HL.out _ g c a1 c1 HT.out HF1.out).mono ?_); rintro e w6 ⟨g6, rfl, i6, s6, hb⟩; have HG6 := Lib.hid (FnAt.of_ifun i6); replace HF2 := Lib.hid (HF2.out.now hb); replace HT := Lib.hid (TrAt.below HT.out hb (Nat.le_refl _)); replace HB := Lib.hid (chain HB.out hb); clear i6 s6 hb HF1) | (go_at_call 16; go_loud (refine (HK.out _ g c _ n HT.out HG6.out).mono ?_); rintro e w7 ⟨g7, rfl, i7, s7, hb⟩; have HG7 := Lib.hid (FnAt.of_ifun i7); replace HF2 := Lib.hid (HF2.out.now hb); replace HB := Lib.hid (chain HB.out hb); clear i7 s7 hb HT HG6) | (go_at_call 19; go_loud (refine (HFo.out _ a2 c2 HF2.out).mono ?_); rintro e w8 ⟨g8, rfl, i8, s8, hb⟩; have HG8 := Lib.hid (FnAt.of_ifun i8); replace HG7 := Lib.hid (HG7.out.now hb); replace HB := Lib.hid (chain HB.out hb); clear i8 s8 hb HF2) | (go_at_call 18; go_loud (refine (HUn.out _ _ n HG8.out).mono ?_); rintro e w9 ⟨g9, rfl, i9, s9, hb⟩; have HG9 := Lib.hid i9; replace HG7 := Lib.hid (HG7.out.now hb); replace HB := Lib.hid (chain HB.out hb); clear i9 s9 hb HG8))
  clear HFill HL HK HFo HUn HSz HFb
  obtain ⟨b7, o7, ea, hb7, hc7⟩ := HG7.out
  obtain ⟨rfl, rfl⟩ : g7 = b7 ∧ 0 = o7 := by injection ea with ea; injection ea with e1 e2; exact ⟨e1, e2⟩
  have HC7 := Lib.hid hc7
  clear ea hb7 hc7 HG7
  go_loopw [74] (fun i wr => ∃ q : Nat, q ≤ N ∧ i = .int .i64 (q : Int) ∧ RowKit.Hid (∃ m, wr = w9.drewN m)) (fun i _ => N - (intOf i).toNat)
  case atStart => exact ⟨0, by omega, rfl, 0, rfl⟩
  case round =>
    obtain ⟨q, hq, rfl, H⟩ := hrel
    obtain ⟨m, rfl⟩ := H.out
    clear H
    by_cases hlt : q < N
    · have k1 : (w9.drewN m).cell? ⟨g7, q, none⟩ = some (.int .i32 (X q)) := by have := HC7.out q hlt; rw [Nat.zero_add] at this; exact this
      have k2 : (w9.drewN m).cell? ⟨g9, q, none⟩ = some (.int .i64 (W q)) := HG9.out.cell hlt
      obtain ⟨x0, x1⟩ := HW.out q hlt
      have hdd := HD.out q hlt
      have HE : RowKit.Hid (∀ i, (w9.drewN m).drewN i = w9.drewN (m + i)) := fun i => World.drewN_drewN _ _ _
      generalize X q = x at k1 hdd
      generalize W q = y at k2 x0 x1 hdd
      generalize w9.drewN m = wq at k1 k2 HE ⊢
      have l1 : (q : Int) < (N : Int) := by omega
      have y0 : -4096 ≤ x - y := by omega
      have y1 : x - y ≤ 4096 := by omega
      have y2 : -2147483648 ≤ x := by omega
      have y3 : x ≤ 2147483647 := by omega
      clear hdd
      go_wp2
      have g1 : IntKind.i64.wrap x = x := IntWalk.i64_in _ (by omega)
      have g2 : IntKind.i64.wrap (x - y) = x - y := IntWalk.i64_in _ (by omega)
      go_quiet (fail)
      go_wp2
      go_roundw
      case rel => exact ⟨q + 1, by omega, by go_num, _, HE.out _⟩
      case measure => simp [intOf] <;> omega
    · go_wp2
      go_ret
      exact ⟨rfl, Below.drewN' HB.out _⟩
end Go.Proofs.Ytemmcahglkpmmaa
