/- The walk of MaskSteps. -/
import Derived.Test.YtgjmpjfcnibgmaaMskL
import Derived.Test.YtgjmpjfcnibgmaaMskS
namespace Go.Proofs.Ytgjmpjfcnibgmaa
open Go.RowKit
set_option linter.unusedVariables false

theorem maskSteps_many (a : Option Addr) (len cap : Nat) (x y : Int) (w : World) (hm : len ≤ 9223372036854775807) (h : 60 < len) :
    Calls Try.prog 3 #[.slice a len cap, .int .i64 x, .int .i64 y] w fun e w' => e = .returned (.bool true) ∧ Below w.heap.size w w' := by
  have HB := Lib.hid (Below.refl w.heap.size w)
  have hd : decide ((60 : Int) < (len : Int)) = true := by simp; omega
  clear h
  go_enter Try.func3, Try.ntmps3
  go_wp2_with (go_at_call 6; go_loud (refine (lives11_any _).mono ?_); rintro e w1 ⟨rfl, hb⟩; replace HB := Lib.hid (chain HB.out hb); clear hb)
  go_ret
  exact ⟨rfl, HB.out⟩
/-- What is held on the way: ceilings, and their copy. -/
structure MSt (w v : World) (gc : Nat) (a2 : Option Addr) (cs : List Int) : Prop where
  b : Below w.heap.size w v
  c : IntsAt v v.heap.size .i64 (some ⟨gc, 0, none⟩) 21 cs
  o : IntsAt v v.heap.size .i64 a2 21 cs
theorem MSt.step {w v v' : World} {gc : Nat} {a2 : Option Addr} {cs : List Int} (h : MSt w v gc a2 cs) (hb : Below v.heap.size v v') : MSt w v' gc a2 cs :=
  ⟨chain h.b hb, h.c.now hb (Nat.le_refl _), h.o.now hb (Nat.le_refl _)⟩
theorem cloneI_row (a : Option Addr) (len cap : Nat) (b : List Int) (w : World) (h : IntsAt w w.heap.size .i64 a len b) (hn : a = none → cap = 0) (hl : len ≤ 1000000) :
    Calls Try.prog 8 #[.slice a len cap] w fun e w' => ∃ a2 cp, e = .returned (.slice a2 len cp) ∧ IntsAt w' w'.heap.size .i64 a2 len b ∧ Below w.heap.size w w' := by
  have hb := h.1
  refine (cloneI_any a len cap b w h hn hl).mono ?_
  rintro e w' ⟨v, rfl, ho, hbl⟩
  rw [hb] at ho
  obtain ⟨a2, cp, rfl, hi⟩ := own_ints ho
  exact ⟨a2, cp, rfl, hi, hbl⟩
set_option maxHeartbeats 1000000 in
set_option maxRecDepth 100000 in
theorem maskSteps_law (a : Option Addr) (len cap : Nat) (x y : Int) (zs : List Int) (w : World) (hn : IntsAt w w.heap.size .u8 a len zs) (hz : ∀ j, 0 ≤ zs.getD j 0 ∧ zs.getD j 0 ≤ 255) (hl : len ≤ 60) :
    Calls Try.prog 3 #[.slice a len cap, .int .i64 x, .int .i64 y] w fun e w' => e = .returned (.bool true) ∧ Below w.heap.size w w' := by
  have HB := Lib.hid (Below.refl w.heap.size w)
  have HN := Lib.hid hn
  have HZ := Lib.hid hz
  have hd : decide ((60 : Int) < (len : Int)) = false := by simp; omega
  obtain ⟨cs, hcs⟩ : ∃ cs, cs = tabF 21 (cutF zs len) := ⟨_, rfl⟩
  have HCs := Lib.hid hcs
  have HCr : RowKit.Hid (rightB cs = true) := by show _ = _; rw [hcs]; exact cutF_right zs len
  obtain ⟨U, hU⟩ : ∃ U, IntKind.u64.wrap x = U := ⟨_, rfl⟩
  obtain ⟨V, hV⟩ : ∃ V, IntKind.u64.wrap y = V := ⟨_, rfl⟩
  have hU0 : 0 ≤ U ∧ U ≤ 18446744073709551615 := by rw [← hU, IntKind.wrap_u64]; omega
  have hV0 : 0 ≤ V ∧ V ≤ 18446744073709551615 := by rw [← hV, IntKind.wrap_u64]; omega
  obtain ⟨r, hr⟩ : ∃ r, U.tmod 10 = r := ⟨_, rfl⟩
  obtain ⟨X, hX⟩ : ∃ X, V.tmod 32 = X := ⟨_, rfl⟩
  have hr0 : 0 ≤ r ∧ r ≤ 9 := by rw [← hr, Int.tmod_eq_emod_of_nonneg hU0.1]; omega
  have hX0 : 0 ≤ X ∧ X ≤ 31 := by rw [← hX, Int.tmod_eq_emod_of_nonneg hV0.1]; omega
  have g1 : IntKind.i64.wrap r = r := IntWalk.i64_in _ (by omega)
  have g2 : IntKind.i64.wrap X = X := IntWalk.i64_in _ (by omega)
  obtain ⟨Q, hQ⟩ : ∃ Q, 1 + r = Q := ⟨_, rfl⟩
  obtain ⟨hX1, hX2⟩ := hX0
  obtain ⟨hr1, hr2⟩ := hr0
  obtain ⟨hU1, hU2⟩ := hU0
  obtain ⟨hV1, hV2⟩ := hV0
  have HL4 : RowKit.Hid (∀ v : World, MSt w v 0 none [] → True) := fun _ _ => trivial
  clear HL4 hn hz hcs
  go_enter Try.func3, Try.ntmps3
  go_wp2_with (first
    | (go_at_call 6; go_loud (refine (lives11_any _).mono ?_); rintro e w1 ⟨rfl, hb⟩; replace HB := Lib.hid (chain HB.out hb); clear hb; have HN1 := Lib.hid (HN.out.now HB.out (Nat.le_refl _)))
    | (go_at_call 7; go_loud (refine (cut11_any a len cap zs w1 HN1.out HZ.out (by omega)).mono ?_); rintro e w2 ⟨gc, rfl, hi, _, hb⟩; have hi2 := hi.ints (by decide); rw [← HCs.out] at hi2; have HC2 := Lib.hid hi2; have HB2 := Lib.hid (chain HB.out hb); clear hi hi2 hb HB HN1)
    | (go_at_call 8; go_loud (refine (cloneI_row _ 21 21 cs w2 HC2.out (fun e => by cases e) (by decide)).mono ?_); rintro e w3 ⟨a2, cp2, rfl, ho, hb⟩; have HS3 : RowKit.Hid (MSt w w3 gc a2 cs) := ⟨chain HB2.out hb, HC2.out.now hb (Nat.le_refl _), ho⟩; clear ho hb HC2 HB2)
    | fail)
  have H4 : RowKit.Hid (MSt w (w3.alloc (.cells #[.int .i64 x, .int .i64 Q] 3)) gc a2 cs ∧ IntsAt (w3.alloc (.cells #[.int .i64 x, .int .i64 Q] 3)) (w3.alloc (.cells #[.int .i64 x, .int .i64 Q] 3)).heap.size .i64 (some ⟨w3.heap.size, 0, none⟩) 2 [x, Q]) :=
    ⟨HS3.out.step (Below.alloc_new w3 _), lit_ints w3 3 .i64 [x, Q] #[.int .i64 x, .int .i64 Q] (0, 0) rfl (by simp)⟩
  clear HN HZ HS3
  generalize w3.heap.size = g4 at H4 ⊢
  generalize (w3.alloc (.cells #[.int .i64 x, .int .i64 Q] 3)) = w4 at H4 ⊢
  go_loopw [37] (fun i wr => ∃ k : Nat, k ≤ 2 ∧ i = .int .i64 (k : Int) ∧ RowKit.Hid (MSt w wr gc a2 cs ∧ IntsAt wr wr.heap.size .i64 (some ⟨g4, 0, none⟩) 2 [x, Q])) (fun i _ => 2 - (intOf i).toNat)
  case atStart => exact ⟨0, by omega, rfl, H4.out⟩
  case round =>
    obtain ⟨k, hk, rfl, H⟩ := hrel
    clear H4
    by_cases hlt : k < 2
    · have c1 : wr.cell? ⟨g4, k, none⟩ = some (.int .i64 ([x, Q].getD k 0)) := by have := ints_cell H.out.2 hlt; rwa [Nat.zero_add] at this
      have H5 : RowKit.Hid (MSt w (wr.alloc (.cells #[.int .i64 y, .int .i64 X] 3)) gc a2 cs ∧ IntsAt (wr.alloc (.cells #[.int .i64 y, .int .i64 X] 3)) (wr.alloc (.cells #[.int .i64 y, .int .i64 X] 3)).heap.size .i64 (some ⟨g4, 0, none⟩) 2 [x, Q] ∧ IntsAt (wr.alloc (.cells #[.int .i64 y, .int .i64 X] 3)) (wr.alloc (.cells #[.int .i64 y, .int .i64 X] 3)).heap.size .i64 (some ⟨wr.heap.size, 0, none⟩) 2 [y, X]) :=
        ⟨H.out.1.step (Below.alloc_new wr _), H.out.2.now (Below.alloc_new wr _) (Nat.le_refl _), lit_ints wr 3 .i64 [y, X] #[.int .i64 y, .int .i64 X] (0, 0) rfl (by simp)⟩
      generalize hqe : [x, Q].getD k 0 = q at c1
      clear hqe H
      have l1 : (k : Int) < 2 := by omega
      go_wp2
      clear c1
      generalize wr.heap.size = g5 at H5 ⊢
      generalize (wr.alloc (.cells #[.int .i64 y, .int .i64 X] 3)) = w5 at H5 ⊢
      go_loopw [48] (fun i wx => ∃ m : Nat, m ≤ 2 ∧ i = .int .i64 (m : Int) ∧ RowKit.Hid (MSt w wx gc a2 cs ∧ IntsAt wx wx.heap.size .i64 (some ⟨g4, 0, none⟩) 2 [x, Q] ∧ IntsAt wx wx.heap.size .i64 (some ⟨g5, 0, none⟩) 2 [y, X])) (fun i _ => 2 - (intOf i).toNat)
      case atStart => exact ⟨0, by omega, rfl, H5.out⟩
      case round =>
        obtain ⟨m, hm, rfl, H⟩ := hrel
        clear H5
        by_cases hlm : m < 2
        · have c1 : wr.cell? ⟨g5, m, none⟩ = some (.int .i64 ([y, X].getD m 0)) := by have := ints_cell H.out.2.2 hlm; rwa [Nat.zero_add] at this
          generalize hze : [y, X].getD m 0 = z at c1
          clear hze
          have l2 : (m : Int) < 2 := by omega
          by_cases hok : mayStep cs q z
          · have HOk := Lib.hid hok
            obtain ⟨_, q0, q1, z0, z1⟩ := hok
            obtain ⟨F, hF⟩ : ∃ F, F = stepF (fun j => cs.getD j 0) q z := ⟨_, rfl⟩
            have HF := Lib.hid hF
            have HFr : RowKit.Hid (rightB (tabF 21 F) = true) := by show _ = _; rw [hF]; exact steps_right q z (rightB_true HCr.out).2
            obtain ⟨R, hR⟩ : ∃ R, reachTo (fun j => cs.getD j 0) (fun j => (tabF 21 F).getD j 0) 21 = R := ⟨_, rfl⟩
            have HRe := Lib.hid hR
            clear hF hR
            go_wp2_with (first
              | (go_at_call 9; have h := H.out; go_loud (refine (mskSteps_any _ _ cs q z _ h.1.o HOk.out).mono ?_); rintro e w6 ⟨g6, rfl, hi, _, hb⟩; rw [← HF.out] at hi; have H6 : RowKit.Hid (MSt w w6 gc a2 cs ∧ IntsAt w6 w6.heap.size .i64 (some ⟨g4, 0, none⟩) 2 [x, Q] ∧ IntsAt w6 w6.heap.size .i64 (some ⟨g5, 0, none⟩) 2 [y, X] ∧ IntsAt w6 w6.heap.size .i64 (some ⟨g6, 0, none⟩) 21 (tabF 21 F)) := ⟨h.1.step hb, h.2.1.now hb (Nat.le_refl _), h.2.2.now hb (Nat.le_refl _), hi.ints (by decide)⟩; clear h hi hb H c1)
              | (go_at_call 10; have h := H6.out; go_loud (refine (mskReach_any _ _ _ _ cs (tabF 21 F) w6 h.1.o h.2.2.2 HCr.out HFr.out).mono ?_); rintro e w7 ⟨rfl, hb⟩; rw [HRe.out]; have H7 : RowKit.Hid (MSt w w7 gc a2 cs ∧ IntsAt w7 w7.heap.size .i64 (some ⟨g4, 0, none⟩) 2 [x, Q] ∧ IntsAt w7 w7.heap.size .i64 (some ⟨g5, 0, none⟩) 2 [y, X] ∧ IntsAt w7 w7.heap.size .i64 (some ⟨g6, 0, none⟩) 21 (tabF 21 F)) := ⟨h.1.step hb, h.2.1.now hb (Nat.le_refl _), h.2.2.1.now hb (Nat.le_refl _), h.2.2.2.now hb (Nat.le_refl _)⟩; clear h hb H6)
              | (go_at_call 12; have h := H7.out; go_loud (refine (ref10Steps_any _ _ cs q z w7 h.1.c HOk.out).mono ?_); rintro e w8 ⟨a8, c8, rfl, hi, hb⟩; rw [← HF.out] at hi; have H8 : RowKit.Hid (MSt w w8 gc a2 cs ∧ IntsAt w8 w8.heap.size .i64 (some ⟨g4, 0, none⟩) 2 [x, Q] ∧ IntsAt w8 w8.heap.size .i64 (some ⟨g5, 0, none⟩) 2 [y, X] ∧ IntsAt w8 w8.heap.size .i64 (some ⟨g6, 0, none⟩) 21 (tabF 21 F) ∧ IntsAt w8 w8.heap.size .i64 a8 21 (tabF 21 F)) := ⟨h.1.step hb, h.2.1.now hb (Nat.le_refl _), h.2.2.1.now hb (Nat.le_refl _), h.2.2.2.now hb (Nat.le_refl _), hi⟩; clear h hi hb H7)
              | (go_at_call 11; have h := H10.out; go_loud (refine (equal_same _ _ 21 _ _ cs w10 h.1.o h.1.c (by decide)).mono ?_); rintro e w11 ⟨rfl, n11, hw⟩; have hb : Below w10.heap.size w10 w11 := (by rw [hw]; exact Below.drewN' (Below.refl _ _) n11); have H11 : RowKit.Hid (MSt w w11 gc a2 cs ∧ IntsAt w11 w11.heap.size .i64 (some ⟨g4, 0, none⟩) 2 [x, Q] ∧ IntsAt w11 w11.heap.size .i64 (some ⟨g5, 0, none⟩) 2 [y, X]) := ⟨h.1.step hb, h.2.1.now hb (Nat.le_refl _), h.2.2.1.now hb (Nat.le_refl _)⟩; clear h hb hw H10)
              | (go_at_call 11; have h := H8.out; go_loud (refine (equal_same _ _ 21 _ _ (tabF 21 F) w8 h.2.2.2.1 h.2.2.2.2 (by decide)).mono ?_); rintro e w9 ⟨rfl, n9, hw⟩; have hb : Below w8.heap.size w8 w9 := (by rw [hw]; exact Below.drewN' (Below.refl _ _) n9); have H9 : RowKit.Hid (MSt w w9 gc a2 cs ∧ IntsAt w9 w9.heap.size .i64 (some ⟨g4, 0, none⟩) 2 [x, Q] ∧ IntsAt w9 w9.heap.size .i64 (some ⟨g5, 0, none⟩) 2 [y, X] ∧ IntsAt w9 w9.heap.size .i64 (some ⟨g6, 0, none⟩) 21 (tabF 21 F)) := ⟨h.1.step hb, h.2.1.now hb (Nat.le_refl _), h.2.2.1.now hb (Nat.le_refl _), h.2.2.2.1.now hb (Nat.le_refl _)⟩; clear h hb hw H8)
              | (go_at_call 13; have h := H9.out; go_loud (refine (ref10Reach_any _ _ _ _ cs (tabF 21 F) w9 h.1.c h.2.2.2 HCr.out HFr.out).mono ?_); rintro e w10 ⟨rfl, hb⟩; rw [HRe.out]; have H10 : RowKit.Hid (MSt w w10 gc a2 cs ∧ IntsAt w10 w10.heap.size .i64 (some ⟨g4, 0, none⟩) 2 [x, Q] ∧ IntsAt w10 w10.heap.size .i64 (some ⟨g5, 0, none⟩) 2 [y, X] ∧ IntsAt w10 w10.heap.size .i64 (some ⟨g6, 0, none⟩) 21 (tabF 21 F)) := ⟨h.1.step hb, h.2.1.now hb (Nat.le_refl _), h.2.2.1.now hb (Nat.le_refl _), h.2.2.2.now hb (Nat.le_refl _)⟩; clear h hb H9)
              | fail)
            go_roundw
            case rel => exact ⟨m + 1, by omega, by go_num, H11.out⟩
            case measure => simp [intOf] <;> omega
          · have HNo := Lib.hid hok
            have hcase : (q < 1) ∨ (1 ≤ q ∧ 10 < q) ∨ (1 ≤ q ∧ q ≤ 10 ∧ z < 0) ∨ (1 ≤ q ∧ q ≤ 10 ∧ 0 ≤ z ∧ 31 < z) := by
              unfold mayStep at hok
              rw [HCr.out] at hok
              simp at hok
              omega
            clear hok
            rcases hcase with d1 | ⟨d1, d2⟩ | ⟨d1, d2, d3⟩ | ⟨d1, d2, d3, d4⟩
            all_goals
              go_wp2_with (go_at_call 9; go_loud (refine (mskSteps_no _ 21 _ cs q z _ H.out.1.o (by decide) HNo.out).mono ?_); rintro e w6 ⟨rfl, rfl⟩)
              go_roundw
              case rel => exact ⟨m + 1, by omega, by go_num, H.out⟩
              case measure => simp [intOf] <;> omega
        · obtain rfl : m = 2 := by omega
          have Z : RowKit.Hid (MSt w wr gc a2 cs ∧ IntsAt wr wr.heap.size .i64 (some ⟨g4, 0, none⟩) 2 [x, Q]) := ⟨H.out.1, H.out.2.1⟩
          go_wp2
          go_roundw
          case rel => exact ⟨k + 1, by omega, by go_num, Z.out⟩
          case measure => simp [intOf] <;> omega
    · obtain rfl : k = 2 := by omega
      have Z : RowKit.Hid (Below w.heap.size w wr) := H.out.1.b
      go_wp2
      go_ret
      exact ⟨rfl, Z.out⟩
end Go.Proofs.Ytgjmpjfcnibgmaa
