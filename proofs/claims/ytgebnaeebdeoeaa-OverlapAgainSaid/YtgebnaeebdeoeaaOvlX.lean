/- Layer 9's statements, walked: there and back. -/
import Derived.Test.YtgebnaeebdeoeaaOvlW
namespace Go.Proofs.Ytgebnaeebdeoeaa
open Go.RowKit
set_option linter.unusedVariables false

theorem tail_next {zs : List Int} {len : Nat} (hz : ∀ j, -32768 ≤ zs.getD j 0 ∧ zs.getD j 0 ≤ 32767) (t : Nat) (b : Bool) {q : Nat} (hq : q < 128) :
    TailAt (leftF b (linesF b fun i => 16 * strF zs len (512 * t + i)) q) (16 * strF zs len (512 * (t + 1) + q)) (16 * strF zs len (512 * (t + 1) + (127 - q))) q := by
  have h : ∀ i, i < 640 → ((fun i => 16 * strF zs len (512 * t + i)) i).natAbs ≤ 524288 := by
    intro i _
    have := strF_bd hz (512 * t + i) (len := len)
    show (16 * strF zs len (512 * t + i)).natAbs ≤ _
    omega
  have this : TailAt (leftF b (linesF b fun i => 16 * strF zs len (512 * t + i)) q) (16 * strF zs len (512 * t + (512 + q))) (16 * strF zs len (512 * t + (512 + (127 - q)))) q := frame_tail h b hq
  rw [show 512 * t + (512 + q) = 512 * (t + 1) + q by omega, show 512 * t + (512 + (127 - q)) = 512 * (t + 1) + (127 - q) by omega] at this
  exact this
/-- More numbers, or more frames, than are tried: only whether it lives. -/
theorem overlapAgain_many (a a2 : Option Addr) (len cap len2 cap2 : Nat) (w : World) (hm : len ≤ 9223372036854775807) (hm2 : len2 ≤ 9223372036854775807) (h : 3000 < len ∨ 5 < len2) :
    Calls Try.prog 5 #[.slice a len cap, .slice a2 len2 cap2] w fun e w' => e = .returned (.bool true) ∧ Below w.heap.size w w' := by
  have HB := Lib.hid (Below.refl w.heap.size w)
  by_cases h1 : 3000 < len
  · have hd : decide ((3000 : Int) < (len : Int)) = true := by simp; omega
    go_enter Try.func5, Try.ntmps5
    go_wp2_with (go_at_call 7; go_loud (refine (lives09_any _).mono ?_); rintro e w1 ⟨rfl, hb⟩; replace HB := Lib.hid (chain HB.out hb); clear hb)
    go_ret
    exact ⟨rfl, HB.out⟩
  · have hd : decide ((3000 : Int) < (len : Int)) = false := by simp; omega
    have hd2 : decide ((5 : Int) < (len2 : Int)) = true := by simp; omega
    clear h
    go_enter Try.func5, Try.ntmps5
    go_wp2_with (go_at_call 7; go_loud (refine (lives09_any _).mono ?_); rintro e w1 ⟨rfl, hb⟩; replace HB := Lib.hid (chain HB.out hb); clear hb)
    go_ret
    exact ⟨rfl, HB.out⟩
/-- What is held of an analyser and a synth. -/
structure St9 (w wr : World) (n c p q s c2 p2 q2 : Nat) (ah lf : Nat → Int) : Prop where
  b : Below w.heap.size w wr
  A : OvAt 54 .i16 wr n c p q ah
  S : OvAt 60 .i32 wr s c2 p2 q2 lf
theorem St9.below {w wr w' : World} {n c p q s c2 p2 q2 : Nat} {ah lf : Nat → Int} (h : St9 w wr n c p q s c2 p2 q2 ah lf) (hb : Below wr.heap.size wr w') : St9 w w' n c p q s c2 p2 q2 ah lf :=
  ⟨chain h.b hb, h.A.below hb, h.S.below hb⟩
theorem St9.anaOf {w wr w' : World} {n c p q s c2 p2 q2 : Nat} {ah ah' lf : Nat → Int} (h : St9 w wr n c p q s c2 p2 q2 ah lf) (hn : w.heap.size ≤ n) (hk : Keeps (· = n) wr w') (hA : OvAt 54 .i16 w' n c p q ah') : St9 w w' n c p q s c2 p2 q2 ah' lf :=
  ⟨below_keep1 h.b hk hn, hA, h.S.keeps h.A.1 (h.S.1.ne h.A.1 (by decide)) (by decide) (by decide) hk⟩
theorem St9.synOf {w wr w' : World} {n c p q s c2 p2 q2 : Nat} {ah lf lf' : Nat → Int} (h : St9 w wr n c p q s c2 p2 q2 ah lf) (hs : w.heap.size ≤ s) (hk : Keeps (· = s) wr w') (hS : OvAt 60 .i32 w' s c2 p2 q2 lf') : St9 w w' n c p q s c2 p2 q2 ah lf' :=
  ⟨below_keep1 h.b hk hs, h.A.keeps h.S.1 (h.A.1.ne h.S.1 (by decide)) (by decide) (by decide) hk, hS⟩
set_option maxHeartbeats 1000000 in
set_option maxRecDepth 100000 in
theorem overlapAgain_law (a a2 : Option Addr) (len cap len2 cap2 : Nat) (zs : List Int) (bs : Nat → Bool) (w : World) (hz : IntsAt w w.heap.size .i16 a len zs) (hzb : ∀ j, -32768 ≤ zs.getD j 0 ∧ zs.getD j 0 ≤ 32767) (hbs : BoolsAt w w.heap.size a2 len2 bs) (hl : len ≤ 3000) (hl2 : len2 ≤ 5) :
    Calls Try.prog 5 #[.slice a len cap, .slice a2 len2 cap2] w fun e w' => e = .returned (.bool true) ∧ Below w.heap.size w w' := by
  have HB := Lib.hid (Below.refl w.heap.size w)
  have HZ := Lib.hid hz
  have HZb := Lib.hid hzb
  have HBs := Lib.hid hbs
  have hd : decide ((3000 : Int) < (len : Int)) = false := by simp; omega
  have hd2 : decide ((5 : Int) < (len2 : Int)) = false := by simp; omega
  clear hz hbs hzb
  go_enter Try.func5, Try.ntmps5
  go_wp2_with (first | (go_at_call 7; go_loud (refine (lives09_any _).mono ?_); rintro e w1 ⟨rfl, hb⟩; replace HB := Lib.hid (chain HB.out hb); clear hb) | (go_at_call 9; go_loud (refine (newAnalyser_any _).mono ?_); rintro e w2 ⟨n, c, p, q, rfl, oa, sa, z1⟩; have HA := Lib.hid oa; have HAl : RowKit.Hid (w.heap.size ≤ n) := Nat.le_trans HB.out.size sa; replace HB := Lib.hid (chain HB.out z1); clear oa sa z1) | (go_at_call 13; go_loud (refine (newSynth_any _).mono ?_); rintro e w3 ⟨s, c2, p2, q2, rfl, os, ss, z2⟩; have HSl : RowKit.Hid (w.heap.size ≤ s) := Nat.le_trans HB.out.size ss; have H0 : RowKit.Hid (St9 w w3 n c p q s c2 p2 q2 (fun j => strF zs len (512 * 0 + j)) (fun _ => 0)) := ⟨chain HB.out z2, (HA.out.below z2).ext fun j hj => (str_first hj).symm, os⟩; clear os ss z2 HA HB))
  clear hd hd2
  go_loopw [35] (fun i wr => ∃ t lf, t ≤ len2 ∧ i = .int .i64 ((t : Nat) : Int) ∧ RowKit.Hid (St9 w wr n c p q s c2 p2 q2 (fun j => strF zs len (512 * t + j)) lf ∧ (∀ r, r < 128 → TailAt (lf r) (16 * strF zs len (512 * t + r)) (16 * strF zs len (512 * t + (127 - r))) r) ∧ ∀ r, r < 128 → (lf r).natAbs ≤ 1073741000)) (fun i _ => len2 - (intOf i).toNat)
  case atStart => exact ⟨0, fun _ => 0, by omega, rfl, H0.out, fun r hr => tail_zero (Z := fun i => strF zs len (512 * 0 + i)) (fun i hi => str_first hi) hr, fun r _ => by simp⟩
  case round =>
    obtain ⟨t, lf, ht, rfl, H⟩ := hrel
    clear H0
    by_cases hlt : t < len2
    · obtain ⟨bb, bo, rfl, bbl, hbc⟩ := HBs.out.at_ hlt
      have k1 := (H.out.1.b.cell (p := ⟨bb, bo + t, none⟩) bbl).trans (hbc t hlt)
      have HBc := Lib.hid hbc
      clear hbc
      generalize bs t = b at k1
      have HD : RowKit.Hid (∀ k, k < 512 → (samplesF b (linesF b fun i => 16 * strF zs len (512 * t + i)) lf k - strF zs len (512 * t + k)).natAbs ≤ 600) := fun k hk => frame_near (Z := fun i => strF zs len (512 * t + i)) (fun i => strF_bd HZb.out _) b H.out.2.1 hk
      have l1 : (t : Int) < (len2 : Int) := by omega
      have HE : RowKit.Hid (allF (fun j => strF zs len (512 * t + j)) (frmF zs len (512 * t)) = fun i => 16 * strF zs len (512 * t + i)) := all_str t
      obtain ⟨T, hT⟩ : ∃ T, T = 512 * t := ⟨_, rfl⟩
      have e1 : 512 * (t : Int) = (T : Int) := by omega
      have HTt := Lib.hid hT
      have T1 : T ≤ 2048 := by omega
      clear hT
      go_wp2_with (first | (go_at_call 10; go_loud (refine (frame09_any a len cap T zs wr (HZ.out.now H.out.1.b (Nat.le_refl _)) hl (by omega)).mono ?_); rintro e w5 ⟨x, rfl, i5, s5, z5⟩; rw [HTt.out] at i5; have HX := Lib.hid i5; have H5 := Lib.hid (H.out.1.below z5); clear i5 s5 z5) | (go_at_call 11; go_loud (refine (anaLines_any n c p q x (fun j => strF zs len (512 * t + j)) (frmF zs len (512 * t)) b _ H5.out.A HX.out (fun j _ => strF_bd HZb.out _) (fun j _ => frmF_bd HZb.out _ _)).mono ?_); rintro e w6 ⟨g6, rfl, i6, s6, o6, k6⟩; have HI6 : RowKit.Hid (IFun w6 g6 21 .i32 512 (linesF b fun i => 16 * strF zs len (512 * t + i))) := (by rw [← HE.out]; exact i6); have H6 : RowKit.Hid (St9 w w6 n c p q s c2 p2 q2 (fun j => strF zs len (512 * (t + 1) + j)) lf) := H5.out.anaOf HAl.out k6 (o6.ext fun j _ => str_next t j); clear i6 s6 o6 k6 H5 HX) | (go_at_call 15; go_loud (refine (synSamples_any s c2 p2 q2 g6 lf (linesF b fun i => 16 * strF zs len (512 * t + i)) b _ H6.out.S HI6.out (fun j _ => linesF_bd _ _ _) H.out.2.2).mono ?_); rintro e w7 ⟨g7, rfl, i7, s7, o7, k7⟩; have HI7 := Lib.hid i7; have H7 : RowKit.Hid (St9 w w7 n c p q s c2 p2 q2 (fun j => strF zs len (512 * (t + 1) + j)) (leftF b (linesF b fun i => 16 * strF zs len (512 * t + i)))) := H6.out.synOf HSl.out k7 o7; clear i7 s7 o7 k7 H6 HI6))
      have HN : RowKit.Hid (St9 w w7 n c p q s c2 p2 q2 (fun j => strF zs len (512 * (t + 1) + j)) (leftF b (linesF b fun i => 16 * strF zs len (512 * t + i))) ∧ (∀ r, r < 128 → TailAt (leftF b (linesF b fun i => 16 * strF zs len (512 * t + i)) r) (16 * strF zs len (512 * (t + 1) + r)) (16 * strF zs len (512 * (t + 1) + (127 - r))) r) ∧ ∀ r, r < 128 → (leftF b (linesF b fun i => 16 * strF zs len (512 * t + i)) r).natAbs ≤ 1073741000) :=
        ⟨H7.out, fun r hr => tail_next HZb.out t b hr, fun r hr => leftF_abs (fun j _ => by have := linesF_bd b (fun i => 16 * strF zs len (512 * t + i)) j; omega) b hr⟩
      clear H HE
      go_loop [70] (fun i => ∃ k : Nat, k ≤ 512 ∧ i = .int .i64 (k : Int)) (fun i => 512 - (intOf i).toNat)
      case atStart => exact ⟨0, by omega, rfl⟩
      case round =>
        obtain ⟨k, hk, rfl⟩ := hrel
        by_cases hlk : k < 512
        · have k2 := HI7.out.cell hlk
          have D := HD.out k hlk
          have hs := strF_bd (len := len) HZb.out (512 * t + k)
          obtain ⟨S, hS⟩ : ∃ S, S = strF zs len (512 * t + k) := ⟨_, rfl⟩
          rw [← hS] at D hs
          have HS := Lib.hid hS
          generalize samplesF b (linesF b fun i => 16 * strF zs len (512 * t + i)) lf k = y at k2 D
          obtain ⟨hs0, hs1⟩ := hs
          have y0 : -40000 ≤ y := by omega
          have y1 : y ≤ 40000 := by omega
          have l3 : (k : Int) < 512 := by omega
          clear hS
          by_cases c1 : T + k < 128
          · have z1 : (T : Int) + (k : Int) - 128 < 0 := by omega
            have hS0 : S = 0 := by
              rw [HS.out]; unfold strF; rw [if_pos (by have := HTt.out; omega)]
            have d0 : -600 ≤ y := by omega
            have d1 : y ≤ 600 := by omega
            clear D hS0 hs0 hs1
            go_wp2
            go_round
            case rel => exact ⟨k + 1, by omega, by go_num⟩
            case measure => simp [intOf] <;> omega
          · obtain ⟨M, hM⟩ : ∃ M, M + 128 = T + k := ⟨T + k - 128, by omega⟩
            have z1 : (T : Int) + (k : Int) - 128 = (M : Int) := by omega
            have hSf : S = frmF zs len 0 M := by
              rw [HS.out]; unfold strF; rw [if_neg (by have := HTt.out; omega), show 512 * t + k - 128 = M by have := HTt.out; omega]
            have HM1 : M ≤ 3000 := by omega
            clear hM
            by_cases hl0 : len = 0
            · have ll : ¬ 0 < (len : Int) := by omega
              have hS0 : S = 0 := by rw [hSf]; unfold frmF; rw [if_pos hl0]
              have d0 : -600 ≤ y := by omega
              have d1 : y ≤ 600 := by omega
              clear D hS0 hs0 hs1 hSf hl0
              go_wp2
              go_round
              case rel => exact ⟨k + 1, by omega, by go_num⟩
              case measure => simp [intOf] <;> omega
            · obtain ⟨m, hm⟩ : ∃ m, m = M % len := ⟨_, rfl⟩
              have hml : m < len := by rw [hm]; exact Nat.mod_lt _ (by omega)
              have f3 : (M : Int) % (len : Int) = (m : Int) := by rw [hm]; rfl
              have f4 : (M : Int).tmod (len : Int) = (m : Int) := by rw [Int.tmod_eq_emod_of_nonneg (by omega)]; exact f3
              obtain ⟨ab, ao, rfl, abl, _, hc⟩ := HZ.out.at_ hml
              have k3 := (H7.out.b.cell (p := ⟨ab, ao + m, none⟩) abl).trans hc
              have hSz : S = zs.getD m 0 := by rw [hSf]; unfold frmF; rw [if_neg hl0, Nat.zero_add, hm]
              rw [← hSz] at k3
              have d0 : -600 ≤ y - S := by omega
              have d1 : y - S ≤ 600 := by omega
              have l4 : (m : Int) < (len : Int) := by omega
              have l5 : ¬ (len : Int) = 0 := by omega
              have l6 : 0 < (len : Int) := by omega
              clear D hSz hSf hm hc hl0
              go_wp2
              go_round
              case rel => exact ⟨k + 1, by omega, by go_num⟩
              case measure => simp [intOf] <;> omega
        · have l3 : ¬ (k : Int) < 512 := by omega
          clear HD H7 HI7
          go_wp2
          go_roundw
          case rel => exact ⟨t + 1, _, by omega, by go_num, HN.out⟩
          case measure => simp [intOf] <;> omega
    · have l1 : ¬ (t : Int) < (len2 : Int) := by omega
      have Z := Lib.hid H.out.1.b
      clear H
      go_wp2
      go_ret
      exact ⟨rfl, Z.out⟩
end Go.Proofs.Ytgebnaeebdeoeaa
