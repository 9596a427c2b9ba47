/- What the document's answers for layer 9 give: samples, and what is left. -/
import Derived.Test.YtgebnaeebdeoeaaOvlU
namespace Go.Proofs.Ytgebnaeebdeoeaa
open Go.RowKit
set_option linter.unusedVariables false

theorem info_i649 : (Try.prog.info? 2).map (fun i => (i.zero, i.size, i.bytes)) = some (some (.int .i64 0), 1, 8) := by kernel_rfl
def Ref9Post (b : Bool) (l left : Nat → Int) (w : World) (e : Ending) (w' : World) : Prop :=
  ∃ v g, e = .returned (.tuple #[v, .slice (some ⟨g, 512, none⟩) 128 128]) ∧ w'.ownsRow w.heap.size 2 1 v 512 ((tabF 512 (samplesF b l left)).map (Value.int .i64)) ∧ IFun w' g 2 .i64 640 (bothF b l left) ∧ w.heap.size ≤ g ∧ Below w.heap.size w w'
set_option maxHeartbeats 400000 in
set_option maxRecDepth 100000 in
theorem ref9Samples_any (c cap cap4 : Nat) (a a4 : Option Addr) (l left : Nat → Int) (b : Bool) (w : World) (hC : IFun w c 2 .i64 1025 cosN) (ha : FnAt w w.heap.size .i64 a 512 l) (h4 : FnAt w w.heap.size .i64 a4 128 left) (hb : ∀ j, j < 512 → -33554432 ≤ l j ∧ l j ≤ 33554431) (hl : ∀ j, j < 128 → (left j).natAbs ≤ 1073741000) :
    Calls Try.prog 16 #[.slice (some ⟨c, 0, none⟩) 1025 1025, .slice a 512 cap, .bool b, .slice a4 128 cap4] w (Ref9Post b l left w) := by
  obtain ⟨x, off, rfl, hxl, hcl⟩ := id h4
  have H4 := Lib.hid hcl
  have HK := Lib.hid (ref9Sound_any c cap a l b w hC ha hb)
  have HBa : RowKit.Hid (∀ j, j < 512 → (l j).natAbs ≤ 33554432) := fun j hj => by have := hb j hj; omega
  have HL := Lib.hid hl
  clear hC ha h4 hcl hb hl
  go_enter Try.func16, Try.ntmps16
  go_wp2_with (go_at_call 26; go_loud (refine (HK.out).mono ?_); rintro e w3 ⟨g3, rfl, i3, s3, z3⟩; have HI3 : RowKit.Hid (IFun w3 g3 2 .i64 640 (addF (soundF b l) left 0 0)) := IFun.ext i3 fun j _ => (addF_start _ _ 0 j).symm; have HS3 : RowKit.Hid (w.heap.size ≤ g3) := s3; have HB3 := Lib.hid z3; clear i3 s3 z3 HK)
  go_loopw [11] (fun i wx => ∃ k : Nat, k ≤ 128 ∧ i = .int .i64 (k : Int) ∧ RowKit.Hid (IFun wx g3 2 .i64 640 (addF (soundF b l) left 0 k) ∧ Below w.heap.size w wx)) (fun i _ => 128 - (intOf i).toNat)
  case atStart => exact ⟨0, by omega, rfl, HI3.out, HB3.out⟩
  case round =>
    obtain ⟨k, hk, rfl, HJ⟩ := hrel
    clear HI3 HB3
    by_cases hlk : k < 128
    · have k1 := (HJ.out.2.cell (p := ⟨x, off + k, none⟩) hxl).trans (H4.out k hlk)
      have o1 := HJ.out.1.cell (j := 0 + k) (by omega)
      rw [addF_here, Nat.zero_add] at o1
      have f1 := HJ.out.1.frozen k
      have hx := soundF_edge (l := l) HBa.out b (i := k) (.inl hlk)
      have hy := HL.out k hlk
      have HS : RowKit.Hid (∀ i, IFun ((wr.setCell ⟨g3, k, none⟩ (.int .i64 (soundF b l k + left k))).drewN i) g3 2 .i64 640 (addF (soundF b l) left 0 (k + 1)) ∧ Below w.heap.size w ((wr.setCell ⟨g3, k, none⟩ (.int .i64 (soundF b l k + left k))).drewN i)) := fun i =>
        ⟨(IFun.ext (HJ.out.1.set (j := k) (by omega) (soundF b l k + left k)) fun j _ => by have := addF_next (soundF b l) left 0 k j; rw [Nat.zero_add] at this; exact this).drewN i, Below.drewN' (HJ.out.2.setCell HS3.out _) i⟩
      generalize soundF b l k = x1 at o1 hx HS
      generalize left k = y1 at k1 hy HS
      have l2 : (k : Int) < 128 := by omega
      have x2 : -2147483647 ≤ x1 := by omega
      have x3 : x1 ≤ 2147483647 := by omega
      have y2 : -2147483647 ≤ y1 := by omega
      have y3 : y1 ≤ 2147483647 := by omega
      have g3' : IntKind.i64.wrap (x1 + y1) = x1 + y1 := IntWalk.i64_in _ (by omega)
      clear HJ hx hy
      go_wp2
      go_region
      all_goals
        go_wp2
        go_roundw
        case rel => exact ⟨k + 1, by omega, by go_num, HS.out 1⟩
        case measure => simp [intOf] <;> omega
    · have l2 : ¬ (k : Int) < 128 := by omega
      have HX : RowKit.Hid (IFun wr g3 2 .i64 640 (bothF b l left)) := IFun.ext HJ.out.1 fun i _ => by rw [show k = 128 by omega]; exact addF_both b l left i
      have HB3 := Lib.hid HJ.out.2
      have hgl := HJ.out.1.lt
      clear HJ
      obtain ⟨wm, rfl⟩ : ∃ wm, wm = wr := ⟨_, rfl⟩
      have H0 : RowKit.Hid (wm.ownsRow wm.heap.size 2 1 (.slice none 0 0) 0 ((tabF 0 (samplesF b l left)).map (Value.int .i64)) ∧ Below wm.heap.size wm wm) := ⟨World.ownsRow_nil wm wm.heap.size 2 1, Below.refl _ _⟩
      go_wp2
      go_loopw [12, 13] (fun v i wx => ∃ j : Nat, j ≤ 512 ∧ i = .int .i64 (j : Int) ∧ RowKit.Hid (wx.ownsRow wm.heap.size 2 1 v j ((tabF j (samplesF b l left)).map (Value.int .i64)) ∧ Below wm.heap.size wm wx)) (fun _ i _ => 512 - (intOf i).toNat)
      case atStart => exact ⟨0, by omega, rfl, H0.out⟩
      case round =>
        obtain ⟨j, hj, rfl, HH⟩ := hrel
        clear H0
        have hsz := HH.out.2.size
        by_cases hlj : j < 512
        · have k1 := (HH.out.2.cell (p := ⟨g3, j, none⟩) hgl).trans (HX.out.cell (j := j) (by omega))
          have hx := bothF_abs (left := left) HBa.out HL.out b (i := j) (by omega)
          have HE : RowKit.Hid (tabF j (samplesF b l left) ++ [samplesF b l left j] = tabF (j + 1) (samplesF b l left)) := tab_snoc _ _ _ rfl
          have HR : RowKit.Hid (satP (rndP (bothF b l left j) 4) 16 = samplesF b l left j) := rfl
          generalize samplesF b l left j = y at HE HR
          generalize bothF b l left j = X at k1 hx HR
          have hr := rnd4 X
          obtain ⟨r, hrr⟩ : ∃ r, r = rndP X 4 := ⟨_, rfl⟩
          have HRR := Lib.hid hrr.symm
          rw [← hrr] at HR hr
          clear hrr
          have hy := satP_bd r 16
          rw [HR.out] at hy
          obtain ⟨y0, y1⟩ := hy
          have x0 : -2147483647 ≤ X := by omega
          have x1 : X ≤ 2147483647 := by omega
          have r0 : -9223372036854775808 ≤ r := by omega
          have r1 : r ≤ 9223372036854775807 := by omega
          clear hx hr
          have l3 : (j : Int) < 512 := by omega
          have HA := Lib.hid (World.ownsRow.alloc HH.out.1 (.cells #[.int .i64 y] 2))
          have HAB := Lib.hid (HH.out.2.alloc hsz (.cells #[.int .i64 y] 2))
          have hsrc := Lib.hid (lit_ints wr 2 .i64 [y] #[.int .i64 y] (0, 0) rfl (by simp))
          go_wp2_with (first | (go_at_call 28; refine (refRound_any X 4 _ (by omega) (by omega)).mono ?_; rintro e w' ⟨rfl, rfl⟩; rw [HRR.out]) | (go_at_call 27; refine (refSat_any r 16 _ r0 r1).mono ?_; rintro e w' ⟨rfl, rfl⟩; rw [HR.out]) | (at_builtin; go_loud (refine append_ints rfl _ _ 25 rfl wm.heap.size 2 .i64 8 Try.underlying25 info_i649 u12 j (tabF j (samplesF b l left)) rfl HA.out (some ⟨wr.heap.size, 0, none⟩) 1 1 _ [y] rfl hsrc.out (by simp) (by unfold maxLen; omega) (by omega) (by simp; omega) ?_); intro v1 w5 hown hgrow _; have HO : RowKit.Hid (w5.ownsRow wm.heap.size 2 1 v1 (j + 1) ((tabF (j + 1) (samplesF b l left)).map (Value.int .i64))) := (by rw [← HE.out]; exact hown); have HB1 : RowKit.Hid (Below wm.heap.size wm w5) := HAB.out.grown hgrow (by simp; omega) (own_base HA.out); clear hown hgrow))
          go_roundw
          case rel => exact ⟨j + 1, by omega, by go_num, HO.out, HB1.out⟩
          case measure => simp [intOf] <;> omega
        · obtain rfl : j = 512 := by omega
          have HZ : RowKit.Hid (∀ i, (wr.drewN i).ownsRow w.heap.size 2 1 u12 512 ((tabF 512 (samplesF b l left)).map (Value.int .i64)) ∧ IFun (wr.drewN i) g3 2 .i64 640 (bothF b l left) ∧ Below w.heap.size w (wr.drewN i)) := fun i => by
            refine ⟨?_, ?_, Below.drewN' (chain HB3.out HH.out.2) i⟩
            · refine own_drewN ⟨HH.out.1.1, ?_⟩ i
              rcases HH.out.1.2 with h0 | ⟨g, cp, cur, h1, h2, h3, h5⟩
              · exact .inl h0
              · exact .inr ⟨g, cp, cur, h1, Nat.le_trans HB3.out.size h2, h3, h5⟩
            · exact IFun.drewN (HX.out.below HH.out.2 hgl) i
          clear HH
          go_wp2
          go_quiet (fail)
          go_wp2
          go_ret2
          exact ⟨_, g3, rfl, (HZ.out _).1, (HZ.out _).2.1, HS3.out, (HZ.out _).2.2⟩
end Go.Proofs.Ytgebnaeebdeoeaa
