/- The walks of ModelLearns and ModelFixed, by the contracts of the functions that they call. -/
import Derived.Test.YtcffhfbfelnfeaaModL
import Derived.OpenShut
import Derived.Laws.AppendOwnNone
namespace Go.Proofs.Ytcffhfbfelnfeaa
open Go.RowKit
set_option linter.unusedVariables false

/-! ### ModelLearns -/
theorem modelLearns_many (n : Int) (a : Option Addr) (len cap : Nat) (at' : Int) (w : World) (hm : len ≤ 9223372036854775807) (h : 600 < len) :
    Calls Try.prog 3 #[.int .i64 n, .slice a len cap, .int .u32 at'] w fun e w' => e = .returned (.bool true) ∧ Below w.heap.size w w' := by
  have hd : decide ((600 : Int) < (len : Int)) = true := by simp; omega
  have hB := Lib.hid (Below.refl w.heap.size w)
  clear h
  go_enter Try.func3, Try.ntmps3
  go_wp2_with (go_at_call 6; refine (lives05_any _).mono ?_; rintro e w1 ⟨rfl, hb⟩; replace hB := Lib.hid (chain hB.out hb); clear hb)
  go_ret
  exact ⟨rfl, hB.out⟩
theorem modelLearns_out (n : Int) (a : Option Addr) (len cap : Nat) (at' : Int) (w : World) (w0 : (Lit.int .i64 n).wf = true) (h : len ≤ 600) (hk : n.tmod 70 < 1 ∨ 64 < n.tmod 70) :
    Calls Try.prog 3 #[.int .i64 n, .slice a len cap, .int .u32 at'] w fun e w' => e = .returned (.bool true) ∧ Below w.heap.size w w' := by
  have hd : decide ((600 : Int) < (len : Int)) = false := by simp; omega
  have hB := Lib.hid (Below.refl w.heap.size w)
  obtain ⟨n0, n1⟩ := bounds_i64 w0
  have t0 := Int.lt_tmod_of_pos n (b := 70) (by decide)
  have t1 := Int.tmod_lt_of_pos n (b := 70) (by decide)
  clear w0
  obtain ⟨k, hk0⟩ : ∃ k, k = n.tmod 70 := ⟨_, rfl⟩
  have hw : IntKind.i64.wrap k = k := IntWalk.i64_in _ (by omega)
  rw [← hk0] at hk
  have hk1 := hk0.symm
  have HK := Lib.hid hk
  clear hk0 t0 t1 hk
  go_enter Try.func3, Try.ntmps3
  go_wp2_with (first | (go_at_call 6; refine (lives05_any _).mono ?_; rintro e w1 ⟨rfl, hb⟩; replace hB := Lib.hid (chain hB.out hb); clear hb) | (go_at_call 7; go_loud (refine (modNew_out k _ HK.out).mono ?_); rintro e w2 ⟨rfl, rfl⟩) | (go_at_call 8; go_loud (refine (refNew_out k _ HK.out).mono ?_); rintro e w2 ⟨rfl, rfl⟩))
  go_ret
  exact ⟨rfl, hB.out⟩
theorem refNew_at (n : Nat) (i : Int) (w : World) (hi : i = n) (h0 : 1 ≤ n) (h1 : n ≤ 64) :
    Calls Try.prog 8 #[.int .i64 i] w fun e w' => ∃ g r, e = .returned (.tuple #[.pointer (some ⟨g, 0, none⟩), .bool true]) ∧ RefMod w' w.heap.size g r (List.replicate n 1) false ∧ Below w.heap.size w w' := by
  subst hi; exact refNew_any n w h0 h1

set_option maxHeartbeats 400000 in
set_option maxRecDepth 100000 in
theorem modelLearns_law (n : Int) (a : Option Addr) (len cap : Nat) (zs : List Int) (at' : Int) (w : World) (w0 : (Lit.int .i64 n).wf = true) (w2 : (Lit.int .u32 at').wf = true) (hz : IntsAt w w.heap.size .u16 a len zs) (hzw : ∀ n ∈ zs, (Lit.int .u16 n).wf = true) (h : len ≤ 600) (hk1 : 1 ≤ n.tmod 70) (hk2 : n.tmod 70 ≤ 64) :
    Calls Try.prog 3 #[.int .i64 n, .slice a len cap, .int .u32 at'] w fun e w' => e = .returned (.bool true) ∧ Below w.heap.size w w' := by
  have hd : decide ((600 : Int) < (len : Int)) = false := by simp; omega
  have H0 := Lib.hid hz
  have HW := Lib.hid hzw
  have hB := Lib.hid (Below.refl w.heap.size w)
  obtain ⟨b0, b1⟩ := bounds_u32 w2
  obtain ⟨k, hk0⟩ : ∃ k : Nat, n.tmod 70 = k := ⟨(n.tmod 70).toNat, by omega⟩
  have hw : IntKind.i64.wrap (k : Int) = k := IntWalk.i64_in _ (by omega)
  have k1 : 1 ≤ k := by omega
  have k2 : k ≤ 64 := by omega
  have HG := Lib.hid (goodL_ones k1 k2)
  clear w0 w2 hk1 hk2 hz hzw
  go_enter Try.func3, Try.ntmps3
  go_wp2_with (first | (go_at_call 6; refine (lives05_any _).mono ?_; rintro e w1 ⟨rfl, hb⟩; replace hB := Lib.hid (chain hB.out hb); have hB1 := hB; clear hb) | (go_at_call 7; go_loud (refine (modNew_at k _ _ rfl k1 k2).mono ?_); rintro e w2 ⟨g, rfl, hg, hm, hb⟩; have HM2 := Lib.hid hm; have HB2 := Lib.hid (hB1.out.trans (hb.mono hB1.out.size)); have hg1 := Nat.le_trans hB1.out.size hg; clear hm hb) | (go_at_call 8; go_loud (refine (refNew_at k _ _ rfl k1 k2).mono ?_); rintro e w3 ⟨mg, mr, rfl, hm, hb⟩; have HR3 := Lib.hid hm; have HM3 := Lib.hid (HM2.out.below hb); have HB3 := Lib.hid (HB2.out.trans (hb.mono HB2.out.size)); have hgl := HM2.out.lt; clear hm hb))
  obtain ⟨r0, r1, r2, r3⟩ := HR3.out.lt
  have s3 := HB3.out.size
  have hgw : w.heap.size ≤ mg ∧ w.heap.size ≤ mr := by
    have := HB2.out.size
    omega
  clear hB hB1
  go_loopw [57] (fun i wr => ∃ (j : Nat) (L : List Int), j ≤ len ∧ i = .int .i64 j ∧ RowKit.Hid (L.length = k ∧ GoodL L ∧ ModAt wr g L false ∧ RefMod wr w2.heap.size mg mr L false ∧ Below w.heap.size w wr)) (fun i _ => len - (intOf i).toNat)
  case atStart => exact ⟨0, _, by omega, rfl, by simp, HG.out, HM3.out, HR3.out, HB3.out⟩
  case round =>
    obtain ⟨j, L, hj, rfl, H⟩ := hrel
    clear HM3 HR3 HB3 HM2 HB2 HG
    have HK := Lib.hid H.out.1
    have HG := Lib.hid H.out.2.1
    have HM := Lib.hid H.out.2.2.1
    have HR := Lib.hid H.out.2.2.2.1
    have HB := Lib.hid H.out.2.2.2.2
    clear H
    by_cases hlt : j < len
    · obtain ⟨b, off, rfl, hbB, _, hcell⟩ := H0.out.at_ hlt
      have hx := (HB.out.cell (p := ⟨b, off + j, none⟩) hbB).trans hcell
      have x0 : 0 ≤ zs.getD j 0 ∧ zs.getD j 0 ≤ 65535 := by simpa [List.getD] using range_u16 HW.out j
      clear hcell
      generalize zs.getD j 0 = x at hx x0
      obtain ⟨x0, x1⟩ := x0
      have g1 : IntKind.i64.wrap x = x := IntWalk.i64_in _ (by omega)
      have g2 : IntKind.i64.wrap ((k : Int) + 1) = (k : Int) + 1 := IntWalk.i64_in _ (by omega)
      have g3 : x.tmod ((k : Int) + 1) = x % ((k : Int) + 1) := Int.tmod_eq_emod_of_nonneg x0
      have g4 : ¬ (k : Int) + 1 = 0 := by omega
      have s0 := Int.emod_nonneg x (b := (k : Int) + 1) (by omega)
      have s1 := Int.emod_lt_of_pos x (b := (k : Int) + 1) (by omega)
      have g5 : IntKind.i64.wrap (x % ((k : Int) + 1)) = x % ((k : Int) + 1) := IntWalk.i64_in _ (by omega)
      obtain ⟨s, hs⟩ : ∃ s : Nat, x % ((k : Int) + 1) = s := ⟨(x % ((k : Int) + 1)).toNat, by omega⟩
      rw [hs] at s0 s1 g3 g5
      clear hs
      by_cases hsk : s < k
      · have hne : ((s : Int) == (k : Int)) = false := by simp; omega
        go_wp2_with (first | (go_at_call 9; go_loud (refine (modLearn_at g L s _ _ rfl HM.out HG.out (by rw [HK.out]; exact hsk)).mono ?_); rintro e w4 ⟨rfl, hm, hk⟩; have HM4 := Lib.hid hm; have HR4 := Lib.hid (HR.out.keeps hk (by omega) (by omega)); have HB4 := Lib.hid (HB.out.trans (hk.below HB.out.size (by intro q hq; omega))); clear hm hk) | (go_at_call 10; go_loud (refine (refLearn_any w2.heap.size mg mr L s _ HR4.out HG.out (by rw [HK.out]; exact hsk)).mono ?_); rintro e w5 ⟨rfl, hm, hk⟩; have HR5 := Lib.hid hm; have HM5 := Lib.hid (HM4.out.keeps hk (by omega)); have HB5 := Lib.hid (HB4.out.trans (hk.below HB4.out.size (by intro q hq; omega))); clear hm hk))
        go_roundw
        case rel => exact ⟨j + 1, learnP L s, by omega, by go_num, by rw [learnP_len]; exact HK.out, learnP_good HG.out (by rw [HK.out]; exact hsk), HM5.out, HR5.out, HB5.out⟩
        case measure => simp [intOf] <;> omega
      · obtain rfl : s = k := by omega
        have hne : ((s : Int) == (s : Int)) = true := by simp
        go_wp2_with (first | (go_at_call 9; go_loud (refine (modLearn_out g L false _ _ (by first | (with_reducible exact HM.out) | (with_reducible exact HM.out.drewN _)) (by rw [HK.out]; omega)).mono ?_); rintro e w4 ⟨rfl, n4, rfl⟩))
        go_roundw
        case rel => exact ⟨j + 1, L, by omega, by go_num, HK.out, HG.out, HM.out.drewN _, HR.out.drewN _, Below.drewN' HB.out _⟩
        case measure => simp [intOf] <;> omega
    · have hlt2 : ¬ (j : Int) < (len : Int) := by omega
      have HZ : RowKit.Hid (partZ = .agg #[.int .u32 0, .int .u32 0, .int .u32 0]) := rfl
      have HS : RowKit.Hid (ModAt wr g L false ∧ RefMod wr w2.heap.size mg mr L false ∧ Below w.heap.size w wr) := ⟨HM.out, HR.out, HB.out⟩
      have hq : ∀ wx wy : World, (ModAt wx g L false ∧ RefMod wx w2.heap.size mg mr L false ∧ Below w.heap.size w wx) → Below wx.heap.size wx wy → ModAt wy g L false ∧ RefMod wy w2.heap.size mg mr L false ∧ Below w.heap.size w wy :=
        fun wx wy p q => ⟨p.1.below q, p.2.1.below q, p.2.2.trans (q.mono p.2.2.size)⟩
      have HQ := Lib.hid hq
      clear hq
      go_wp2_with (first | (go_at_call 11; go_loud (refine (modPart_out g L false _ _ HS.out.1 (by rw [HK.out]; omega)).mono ?_); rintro e w4 ⟨rfl, hb⟩; rw [HZ.out]; replace HS := Lib.hid (HQ.out w4 (w4.alloc (.cells #[.int .u32 0, .int .u32 0, .int .u32 0] 36)) (HQ.out _ _ HS.out hb) (Below.alloc_new _ _)); clear hb) | (go_at_call 12; go_loud (refine (same05_any w2.heap.size g mg mr L false at' _ HS.out.1 HS.out.2.1 HG.out b0 b1).mono ?_); rintro e w7 ⟨rfl, hb⟩; replace HS := Lib.hid (HQ.out _ _ HS.out hb); clear hb))
      go_ret
      exact ⟨rfl, HS.out.2.2⟩

/-! ### ModelFixed -/
theorem fixOk_dec (zs : List Int) (len : Nat) : FixOk zs len ∨ ¬ FixOk zs len := Classical.em _
theorem modFixed_ok (a : Option Addr) (len cap : Nat) (zs : List Int) (w : World) (h : IntsAt w w.heap.size .u32 a len zs) (hb : ∀ j, j < len → 0 ≤ zs.getD j 0 ∧ zs.getD j 0 ≤ 4294967295) (h0 : 1 ≤ len) (h1 : len ≤ 64) (hf : FixOk zs len) :
    Calls Try.prog 13 #[.slice a len cap] w fun e w' => ∃ g, e = .returned (.tuple #[.pointer (some ⟨g, 0, none⟩), .int .i64 0]) ∧ w.heap.size ≤ g ∧ ModAt w' g zs true ∧ Below w.heap.size w w' :=
  (modFixed_any a len cap zs w h hb h0 h1).mono fun e w' k => by
    obtain ⟨k1, ⟨k2, _⟩ | ⟨_, g, k3, k4, k5⟩⟩ := k
    · exact absurd hf k2
    · exact ⟨g, k3, k4, k5, k1⟩
theorem modFixed_no (a : Option Addr) (len cap : Nat) (zs : List Int) (w : World) (h : IntsAt w w.heap.size .u32 a len zs) (hb : ∀ j, j < len → 0 ≤ zs.getD j 0 ∧ zs.getD j 0 ≤ 4294967295) (h0 : 1 ≤ len) (h1 : len ≤ 64) (hf : ¬ FixOk zs len) :
    Calls Try.prog 13 #[.slice a len cap] w fun e w' => e = .returned (.tuple #[.pointer none, .int .i64 1]) ∧ Below w.heap.size w w' :=
  (modFixed_any a len cap zs w h hb h0 h1).mono fun e w' k => by
    obtain ⟨k1, ⟨_, k3⟩ | ⟨k2, _⟩⟩ := k
    · exact ⟨k3, k1⟩
    · exact absurd k2 hf
theorem refFixed_ok (a : Option Addr) (len cap : Nat) (zs : List Int) (w : World) (h : IntsAt w w.heap.size .u32 a len zs) (hb : ∀ j, j < len → 0 ≤ zs.getD j 0 ∧ zs.getD j 0 ≤ 4294967295) (h0 : 1 ≤ len) (h1 : len ≤ 64) (hf : FixOk zs len) :
    Calls Try.prog 14 #[.slice a len cap] w fun e w' => ∃ g r, e = .returned (.tuple #[.pointer (some ⟨g, 0, none⟩), .bool true]) ∧ RefMod w' w.heap.size g r zs true ∧ Below w.heap.size w w' :=
  (refFixed_any a len cap zs w h hb h0 h1).mono fun e w' k => by
    obtain ⟨k1, ⟨⟨j, hj, hz⟩, _⟩ | ⟨_, g, r, k3, k4⟩⟩ := k
    · have := hf.1 j hj; omega
    · refine ⟨g, r, ?_, k4, k1⟩
      rw [k3]
      simp [hf.2]
theorem refFixed_no (a : Option Addr) (len cap : Nat) (zs : List Int) (w : World) (h : IntsAt w w.heap.size .u32 a len zs) (hb : ∀ j, j < len → 0 ≤ zs.getD j 0 ∧ zs.getD j 0 ≤ 4294967295) (h0 : 1 ≤ len) (h1 : len ≤ 64) (hf : ¬ FixOk zs len) :
    Calls Try.prog 14 #[.slice a len cap] w fun e w' => ∃ p, e = .returned (.tuple #[.pointer p, .bool false]) ∧ Below w.heap.size w w' :=
  (refFixed_any a len cap zs w h hb h0 h1).mono fun e w' k => by
    obtain ⟨k1, ⟨_, k3⟩ | ⟨k2, g, r, k3, k4⟩⟩ := k
    · exact ⟨none, k3, k1⟩
    · refine ⟨some ⟨g, 0, none⟩, ?_, k1⟩
      rw [k3]
      have : ¬ sumN zs len ≤ 8192 := fun c => hf ⟨k2, c⟩
      simp [this]

theorem modelFixed_many (a : Option Addr) (len cap : Nat) (at' s : Int) (w : World) (hm : len ≤ 9223372036854775807) (h : 100 < len) :
    Calls Try.prog 4 #[.slice a len cap, .int .u32 at', .int .i64 s] w fun e w' => e = .returned (.bool true) ∧ Below w.heap.size w w' := by
  have hd : decide ((100 : Int) < (len : Int)) = true := by simp; omega
  have hB := Lib.hid (Below.refl w.heap.size w)
  clear h
  go_enter Try.func4, Try.ntmps4
  go_wp2_with (go_at_call 6; refine (lives05_any _).mono ?_; rintro e w1 ⟨rfl, hb⟩; replace hB := Lib.hid (chain hB.out hb); clear hb)
  go_ret
  exact ⟨rfl, hB.out⟩

theorem info_u32 : (Try.prog.info? 23).map (fun i => (i.zero, i.size, i.bytes)) = some (some (.int .u32 0), 1, 4) := by kernel_rfl

set_option maxHeartbeats 400000 in
set_option maxRecDepth 100000 in
theorem modelFixed_out (a : Option Addr) (len cap : Nat) (zs : List Int) (at' s : Int) (w : World) (hz : IntsAt w w.heap.size .u32 a len zs) (hnone : a = none → cap = 0) (h : len ≤ 100) (hl : len < 1 ∨ 64 < len) :
    Calls Try.prog 4 #[.slice a len cap, .int .u32 at', .int .i64 s] w fun e w' => e = .returned (.bool true) ∧ Below w.heap.size w w' := by
  have hd : decide ((100 : Int) < (len : Int)) = false := by simp; omega
  have hB := Lib.hid (Below.refl w.heap.size w)
  have H0 := Lib.hid hz
  have HL := Lib.hid hl
  have HN := Lib.hid hnone
  clear hz hl hnone
  go_enter Try.func4, Try.ntmps4
  go_wp2_with (first | (go_at_call 6; refine (lives05_any _).mono ?_; rintro e w1 ⟨rfl, hb⟩; replace hB := Lib.hid (chain hB.out hb); clear hb; have hown0 := Lib.hid (World.ownsRow_lit (base := w.heap.size) (e := 23) (size := 1) w1 #[] 0 hB.out.size (by decide) rfl); have hB1 := Lib.hid (hB.out.alloc hB.out.size (.cells #[] 23))) | (at_builtin; go_loud (refine append_ints rfl _ _ 41 rfl w.heap.size 23 .u32 4 Try.underlying41 info_u32 _ 0 [] rfl hown0.out a len cap w.heap.size zs rfl (H0.out.below hB1.out) HN.out ?c1 ?c2 ?c3 ?_)))
  case c1 => unfold maxLen; omega
  case c2 => omega
  case c3 => exact hB1.out.size
  intro v' w2 hown hgrow _
  obtain ⟨a2, cp, rfl⟩ := own_form hown
  have HB2 := Lib.hid (hB1.out.grown hgrow hB1.out.size (own_base hown0.out))
  clear hown hgrow hB hB1 hown0
  have hm : len ≤ 9223372036854775807 := by omega
  go_wp2_with (first | (go_at_call 13; go_loud (refine (modFixed_out _ _ _ _ hm HL.out).mono ?_); rintro e w3 ⟨rfl, rfl⟩) | (go_at_call 14; go_loud (refine (refFixed_out _ _ _ _ hm HL.out).mono ?_); rintro e w3 ⟨rfl, rfl⟩))
  go_ret
  exact ⟨rfl, HB2.out⟩

set_option maxHeartbeats 400000 in
set_option maxRecDepth 100000 in
theorem modelFixed_no (a : Option Addr) (len cap : Nat) (zs : List Int) (at' s : Int) (w : World) (hz : IntsAt w w.heap.size .u32 a len zs) (hzw : ∀ n ∈ zs, (Lit.int .u32 n).wf = true) (h0 : 1 ≤ len) (h1 : len ≤ 64) (hf : ¬ FixOk zs len) :
    Calls Try.prog 4 #[.slice a len cap, .int .u32 at', .int .i64 s] w fun e w' => e = .returned (.bool true) ∧ Below w.heap.size w w' := by
  obtain ⟨b, off, rfl, _⟩ := hz.at_ (j := 0) (by omega)
  have hd : decide ((100 : Int) < (len : Int)) = false := by simp; omega
  have hB := Lib.hid (Below.refl w.heap.size w)
  have H0 := Lib.hid hz
  have hb : ∀ j, j < len → 0 ≤ zs.getD j 0 ∧ zs.getD j 0 ≤ 4294967295 := fun j _ => by simpa [List.getD] using range_u32 hzw j
  have HW := Lib.hid hb
  have HF := Lib.hid hf
  clear hz hf hzw hb
  go_enter Try.func4, Try.ntmps4
  go_wp2_with (first | (go_at_call 6; refine (lives05_any _).mono ?_; rintro e w1 ⟨rfl, hb⟩; replace hB := Lib.hid (chain hB.out hb); clear hb; have hown0 := Lib.hid (World.ownsRow_lit (base := w.heap.size) (e := 23) (size := 1) w1 #[] 0 hB.out.size (by decide) rfl); have hB1 := Lib.hid (hB.out.alloc hB.out.size (.cells #[] 23))) | (at_builtin; go_loud (refine append_ints rfl _ _ 41 rfl w.heap.size 23 .u32 4 Try.underlying41 info_u32 _ 0 [] rfl hown0.out _ len cap w.heap.size zs rfl (H0.out.below hB1.out) (by intro c; cases c) ?c1 ?c2 ?c3 ?_)))
  case c1 => unfold maxLen; omega
  case c2 => omega
  case c3 => exact hB1.out.size
  intro v' w2 hown hgrow _
  obtain ⟨a2, cp, rfl⟩ := own_form hown
  have HB2 := Lib.hid (hB1.out.grown hgrow hB1.out.size (own_base hown0.out))
  have HI := Lib.hid (own_ints' hown)
  clear hown hgrow hB hB1 hown0
  go_wp2_with (first | (go_at_call 13; go_loud (refine (modFixed_no _ _ _ zs _ HI.out HW.out h0 h1 HF.out).mono ?_); rintro e w3 ⟨rfl, hb⟩; have HB3 := Lib.hid (HB2.out.trans (hb.mono HB2.out.size)); clear hb) | (go_at_call 14; go_loud (refine (refFixed_no _ _ _ zs _ (H0.out.now HB3.out (Nat.le_refl _)) HW.out h0 h1 HF.out).mono ?_); rintro e w4 ⟨p, rfl, hb⟩; have HB4 := Lib.hid (HB3.out.trans (hb.mono HB3.out.size)); clear hb))
  go_ret
  exact ⟨rfl, HB4.out⟩

set_option maxHeartbeats 800000 in
set_option maxRecDepth 100000 in
theorem modelFixed_ok (a : Option Addr) (len cap : Nat) (zs : List Int) (at' s : Int) (w : World) (hz : IntsAt w w.heap.size .u32 a len zs) (hzw : ∀ n ∈ zs, (Lit.int .u32 n).wf = true) (w1 : (Lit.int .u32 at').wf = true) (w2 : (Lit.int .i64 s).wf = true) (h0 : 1 ≤ len) (h1 : len ≤ 64) (hf : FixOk zs len) :
    Calls Try.prog 4 #[.slice a len cap, .int .u32 at', .int .i64 s] w fun e w' => e = .returned (.bool true) ∧ Below w.heap.size w w' := by
  obtain ⟨b, off, rfl, _⟩ := hz.at_ (j := 0) (by omega)
  have hd : decide ((100 : Int) < (len : Int)) = false := by simp; omega
  have hB := Lib.hid (Below.refl w.heap.size w)
  have H0 := Lib.hid hz
  have hb : ∀ j, j < len → 0 ≤ zs.getD j 0 ∧ zs.getD j 0 ≤ 4294967295 := fun j _ => by simpa [List.getD] using range_u32 hzw j
  have HW := Lib.hid hb
  have HF := Lib.hid hf
  have HL := Lib.hid hz.1
  have HG : RowKit.Hid (GoodL zs) := by
    refine ⟨by rw [HL.out]; exact h0, by rw [HL.out]; exact h1, fun j hj => hf.1 j (by rw [← HL.out]; exact hj), ?_⟩
    rw [← sumN_all, HL.out]; exact hf.2
  obtain ⟨b0, b1⟩ := bounds_u32 w1
  obtain ⟨k, hk, hk1⟩ : ∃ k : Nat, IntKind.i64.wrap ((IntKind.u64.wrap s).tmod (len : Int)) = (k : Int) ∧ k < len := by
    have hs : 0 ≤ IntKind.u64.wrap s := by rw [show IntKind.u64.wrap s = s % 18446744073709551616 by simp [IntKind.wrap, IntKind.bits, IntKind.signed]]; omega
    have e : (IntKind.u64.wrap s).tmod (len : Int) = IntKind.u64.wrap s % (len : Int) := Int.tmod_eq_emod_of_nonneg hs
    have l0 := Int.emod_nonneg (IntKind.u64.wrap s) (b := (len : Int)) (by omega)
    have l1 := Int.emod_lt_of_pos (IntKind.u64.wrap s) (b := (len : Int)) (by omega)
    rw [e, IntWalk.i64_in _ (by omega)]
    exact ⟨(IntKind.u64.wrap s % (len : Int)).toNat, by omega, by omega⟩
  clear hz hf hzw hb w1 w2
  go_enter Try.func4, Try.ntmps4
  go_wp2_with (first | (go_at_call 6; refine (lives05_any _).mono ?_; rintro e w1 ⟨rfl, hb⟩; replace hB := Lib.hid (chain hB.out hb); clear hb; have hown0 := Lib.hid (World.ownsRow_lit (base := w.heap.size) (e := 23) (size := 1) w1 #[] 0 hB.out.size (by decide) rfl); have hB1 := Lib.hid (hB.out.alloc hB.out.size (.cells #[] 23))) | (at_builtin; go_loud (refine append_ints rfl _ _ 41 rfl w.heap.size 23 .u32 4 Try.underlying41 info_u32 _ 0 [] rfl hown0.out _ len cap w.heap.size zs rfl (H0.out.below hB1.out) (by intro c; cases c) ?c1 ?c2 ?c3 ?_)))
  case c1 => unfold maxLen; omega
  case c2 => omega
  case c3 => exact hB1.out.size
  intro v' w2 hown hgrow _
  obtain ⟨g0, cp, e0, hg0, hg1⟩ := World.ownsRow.form hown (by omega)
  subst e0
  have HB2 := Lib.hid (hB1.out.grown hgrow hB1.out.size (own_base hown0.out))
  have HI := Lib.hid (own_ints' hown)
  have HO := Lib.hid hown
  have hgl := own_lt hown g0 rfl
  clear hown hgrow hB hB1 hown0
  go_wp2_with (first | (go_at_call 13; go_loud (refine (modFixed_ok _ _ _ zs _ HI.out HW.out h0 h1 HF.out).mono ?_); rintro e w3 ⟨g, rfl, hg2, hm, hb⟩; have HB3 := Lib.hid (HB2.out.trans (hb.mono HB2.out.size)); have HM3 := Lib.hid hm; have HO3 := Lib.hid (own_below HO.out hb); clear hm hb) | (go_at_call 14; go_loud (refine (refFixed_ok _ _ _ zs _ (H0.out.now HB3.out (Nat.le_refl _)) HW.out h0 h1 HF.out).mono ?_); rintro e w4 ⟨mg, mr, rfl, hm, hb⟩; have HB4 := Lib.hid (HB3.out.trans (hb.mono HB3.out.size)); have HR4 := Lib.hid hm; have HM4 := Lib.hid (HM3.out.below hb); have HO4 := Lib.hid (own_below HO3.out hb); have hg3 := HM3.out.lt; clear hm hb))
  obtain ⟨r0, r1, r2, r3⟩ := HR4.out.lt
  clear HM3 HO3 HB3 HB2 HO HI
  go_loopw [53, 12] (fun i _ wr => ∃ (j : Nat) (ys : List Int), j ≤ len ∧ i = .int .i64 j ∧ RowKit.Hid (ys.length = len ∧ wr.ownsRow w.heap.size 23 1 (.slice (some ⟨g0, 0, none⟩) len cp) len (ys.map (Value.int .u32)) ∧ ModAt wr g zs true ∧ RefMod wr w3.heap.size mg mr zs true ∧ Below w.heap.size w wr)) (fun i _ _ => len - (intOf i).toNat)
  case atStart => exact ⟨0, zs, by omega, rfl, HL.out, HO4.out, HM4.out, HR4.out, HB4.out⟩
  case round =>
    obtain ⟨j, ys, hj, rfl, H⟩ := hrel
    clear HO4 HM4 HR4 HB4
    have HY := Lib.hid H.out.1
    have HO := Lib.hid H.out.2.1
    have HM := Lib.hid H.out.2.2.1
    have HR := Lib.hid H.out.2.2.2.1
    have HB := Lib.hid H.out.2.2.2.2
    clear H
    by_cases hlt : j < len
    · have hcell : wr.cell? ⟨g0, j, none⟩ = some (.int .u32 (ys.getD j 0)) := by
        rw [HO.out.cellAt j (by omega), List.getElem?_map, List.getElem?_eq_getElem (by rw [HY.out]; exact hlt)]
        simp [List.getD, List.getElem?_eq_getElem (show j < ys.length by rw [HY.out]; exact hlt)]
      have hfz := HO.out.frozenAt j
      generalize ys.getD j 0 = x at hcell
      have HS : RowKit.Hid ((wr.setCell ⟨g0, j, none⟩ (.int .u32 7)).ownsRow w.heap.size 23 1 (.slice (some ⟨g0, 0, none⟩) len cp) len ((ys.set j 7).map (Value.int .u32)) ∧ ModAt (wr.setCell ⟨g0, j, none⟩ (.int .u32 7)) g zs true ∧ RefMod (wr.setCell ⟨g0, j, none⟩ (.int .u32 7)) w3.heap.size mg mr zs true ∧ Below w.heap.size w (wr.setCell ⟨g0, j, none⟩ (.int .u32 7))) := by
        have kk := (Keeps.refl (fun q => q = g0) wr).setCell (p := ⟨g0, j, none⟩) (.inl rfl) (.int .u32 7)
        refine ⟨?_, HM.out.keeps kk (by omega), HR.out.keeps kk (by omega) (by omega), HB.out.setCell hg0 _⟩
        rw [List.map_set]
        exact (HO.out.stored j (.int .u32 7)).1
      have hjl : (j : Int) < (len : Int) := by omega
      go_wp2
      go_roundw
      case rel => exact ⟨j + 1, ys.set j 7, by omega, by go_num, by rw [List.length_set]; exact HY.out, HS.out⟩
      case measure => simp [intOf] <;> omega
    · have hlt2 : ¬ (j : Int) < (len : Int) := by omega
      have hl0 : ¬ (len : Int) = 0 := by omega
      go_wp2_with (first | (go_at_call 9; go_loud (refine (modLearn_fixed g zs k _ HM.out (by rw [HL.out]; exact hk1)).mono ?_); rintro e w5 ⟨rfl, n5, rfl⟩; have HM5 := Lib.hid (HM.out.drewN n5); have HR5 := Lib.hid (HR.out.drewN n5); have HB5 := Lib.hid (Below.drewN' HB.out n5)) | (go_at_call 12; go_loud (refine (same05_any w3.heap.size g mg mr zs true at' _ HM5.out HR5.out HG.out b0 b1).mono ?_); rintro e w7 ⟨rfl, hb⟩; have HB7 := Lib.hid (HB5.out.trans (hb.mono HB5.out.size)); clear hb))
      go_ret
      exact ⟨rfl, HB7.out⟩
end Go.Proofs.Ytcffhfbfelnfeaa
